/- HELPERS: texts of ours put together. -/
import Derived.Test.YtacaanhnlfpbhaaGreatK19
import Derived.Test.YtacaanhnlfpbhaaGreatK17
import Derived.Test.YtacaanhnlfpbhaaGreatK12
import Derived.Test.YtacaanhnlfpbhaaGreatK04
import Derived.WalkKit
import Derived.ProofKit
import Derived.BigQuiet
import Derived.WalkSmall
import Derived.Deep.QuietTactic
import Derived.Deep.RegionWith
import Derived.Lib.SmallJoins
import Derived.Lib.MinMax
import Derived.Maps.AppendAt
import Derived.Laws.AppendOwnNone
import Derived.Test.YtacaanhnlfpbhaaGreatK03
import Derived.Test.YtacaanhnlfpbhaaGreatK05
import Derived.Test.YtacaanhnlfpbhaaGreatK07
import Derived.Test.YtacaanhnlfpbhaaGreatK16
import Derived.Test.YtacaanhnlfpbhaaGreatK08
namespace Go.Proofs.YtacaanhnlfpbhaaGreat
open Go.RowKit
set_option linter.unusedVariables false
set_option linter.unusedSimpArgs false
mutual
def Lt.le:Lt→Way→List (Nat × Way)
 | .mk lb k R a s mn mx lz ix nm,B=>if k=4 then leC s B else if k=5 then leA s B else if k=7 then leH s (.noted (2 * ix.toNat + 1) B)
  else if k=6 then (if mx < 0 then (lb,fwH s (Kd lz lb B)) :: leH s (Kd lz lb B) else leH s B) else []
def leC:List Lt→Way→List (Nat × Way)
 | [],_=>[]
 | t :: ts,B=>t.le (fwC ts B) ++ leC ts B
def leA:List Lt→Way→List (Nat × Way)
 | [],_=>[]
 | t :: ts,B=>t.le B ++ leA ts B
def leH:List Lt→Way→List (Nat × Way)
 | [],_=>[]
 | t :: _,B=>t.le B
end
mutual
def Lt.sf:Lt→Prop
 | .mk lb k R a s mn mx lz ix nm=>(k=6→(mn=0∧mx=-1∨mn=1∧mx=-1)∨mn=0∧mx=1)∧sfL s
def sfL:List Lt→Prop
 | []=>True
 | t :: ts=>t.sf∧sfL ts
end
mutual
theorem le_sub:∀ (T:Lt) (B:Way),((T.le B).map Prod.fst).Sublist T.lbs
 | .mk lb k R a s mn mx lz ix nm,B=>by
  simp only [Lt.le,Lt.lbs]
  split
  ·exact (leC_sub s B).trans (List.sublist_cons_self ..)
  ·split
   ·exact (leA_sub s B).trans (List.sublist_cons_self ..)
   ·split
    ·exact (leH_sub s _).trans (List.sublist_cons_self ..)
    ·split
     ·split
      ·simp only [List.map_cons]
       exact (leH_sub s _).cons_cons _
      ·exact (leH_sub s _).trans (List.sublist_cons_self ..)
     ·exact List.nil_sublist _
theorem leC_sub:∀ (ts:List Lt) (B:Way),((leC ts B).map Prod.fst).Sublist (lbsL ts)
 | [],B=>by simp [leC]
 | t :: ts,B=>by simp only [leC,lbsL,List.map_append];exact (le_sub t _).append (leC_sub ts B)
theorem leA_sub:∀ (ts:List Lt) (B:Way),((leA ts B).map Prod.fst).Sublist (lbsL ts)
 | [],B=>by simp [leA]
 | t :: ts,B=>by simp only [leA,lbsL,List.map_append];exact (le_sub t _).append (leA_sub ts B)
theorem leH_sub:∀ (ts:List Lt) (B:Way),((leH ts B).map Prod.fst).Sublist (lbsL ts)
 | [],B=>by simp [leH]
 | t :: ts,B=>by simp only [leH,lbsL];exact (le_sub t _).trans (List.sublist_append_left ..)
end
mutual
theorem eo_of (E:Nat→Way):∀ (T:Lt) (B:Way),T.sf→(∀ x ∈ T.le B,E x.1=x.2)→T.eo E B
 | .mk lb k R a s mn mx lz ix nm,B,hs,h=>by
  simp only [Lt.sf] at hs
  simp only [Lt.eo]
  refine ⟨fun h4=>?_,fun h5=>?_,fun h7=>?_,fun h6=>?_⟩
  ·subst h4
   exact eoC_of E s B hs.2 (fun x hx=>h x (by simpa [Lt.le] using hx))
  ·subst h5
   exact eoA_of E s B hs.2 (fun x hx=>h x (by simpa [Lt.le] using hx))
  ·subst h7
   exact eoH_of E s _ hs.2 (fun x hx=>h x (by simpa [Lt.le] using hx))
  ·subst h6
   rcases hs.1 rfl with h1 | h1
   ·left
    have hm:mx < 0:=by omega
    refine ⟨h1,h (lb,fwH s (Kd lz lb B)) (by simp [Lt.le,hm]),eoH_of E s _ hs.2 (fun x hx=>h x (by simp [Lt.le,hm];exact .inr hx))⟩
   ·right
    have hm:¬ mx < 0:=by omega
    exact ⟨h1,eoH_of E s _ hs.2 (fun x hx=>h x (by simpa [Lt.le,hm] using hx))⟩
theorem eoC_of (E:Nat→Way):∀ (ts:List Lt) (B:Way),sfL ts→(∀ x ∈ leC ts B,E x.1=x.2)→eoC E ts B
 | [],B,_,_=>by simp [eoC]
 | t :: ts,B,hs,h=>by
  simp only [sfL] at hs
  simp only [leC,List.mem_append] at h
  simp only [eoC]
  exact ⟨eo_of E t _ hs.1 (fun x hx=>h x (.inl hx)),eoC_of E ts B hs.2 (fun x hx=>h x (.inr hx))⟩
theorem eoA_of (E:Nat→Way):∀ (ts:List Lt) (B:Way),sfL ts→(∀ x ∈ leA ts B,E x.1=x.2)→eoA E ts B
 | [],B,_,_=>by simp [eoA]
 | t :: ts,B,hs,h=>by
  simp only [sfL] at hs
  simp only [leA,List.mem_append] at h
  simp only [eoA]
  exact ⟨eo_of E t _ hs.1 (fun x hx=>h x (.inl hx)),eoA_of E ts B hs.2 (fun x hx=>h x (.inr hx))⟩
theorem eoH_of (E:Nat→Way):∀ (ts:List Lt) (B:Way),sfL ts→(∀ x ∈ leH ts B,E x.1=x.2)→eoH E ts B
 | [],B,_,_=>by simp [eoH]
 | t :: ts,B,hs,h=>by
  simp only [sfL] at hs
  simp only [leH] at h
  simp only [eoH]
  exact eo_of E t _ hs.1 h
end
theorem Kd_tg {top lb:Nat} (h:2 * lb + 3≤top) {lz:Bool} {B:Way} (hB:B.tg top):(Kd lz lb B).tg top:=by
 simp only [Way.tg]
 refine ⟨⟨by simp only [kd];omega,by simp only [kd];omega⟩,.inr ?_⟩
 cases lz <;> simp [tgL,hB,Way.tg]
mutual
theorem fw_tg {top:Nat}:∀ (T:Lt) (B:Way),(∀ lb ∈ T.lbs,2 * lb + 3≤top)→B.tg top→(T.fw B).tg top∧∀ x ∈ T.le B,x.2.tg top∧x.2.ua=[]
 | .mk lb k R a s mn mx lz ix nm,B,hl,hB=>by
  simp only [Lt.lbs,List.mem_cons,forall_eq_or_imp] at hl
  obtain ⟨h0,hls⟩:=hl
  have hk:0≤kb lb∧kb lb≤(top:Int):=by simp only [kb];omega
  simp only [Lt.fw,Lt.le,Way.tg]
  split
  ·rename_i e;subst e
   refine ⟨⟨hk,.inr (by simp only [Way.tg];exact hB)⟩,by simp⟩
  ·split
   ·rename_i e;subst e
    refine ⟨⟨hk,.inr (by simp only [Way.tg];exact hB)⟩,by simp⟩
   ·split
    ·obtain ⟨q1,q2⟩:=fwC_tg s B hls hB
     exact ⟨⟨hk,.inr q1⟩,q2⟩
    ·split
     ·obtain ⟨q1,q2⟩:=fwA_tg s B hls hB
      exact ⟨⟨hk,.inr (by simp only [Way.tg];exact q1)⟩,q2⟩
     ·split
      ·obtain ⟨q1,q2,_⟩:=fwH_tg s (.noted (2 * ix.toNat + 1) B) hls (by simp only [Way.tg];exact hB)
       exact ⟨⟨hk,.inr (by simp only [Way.tg];exact q1)⟩,q2⟩
      ·split
       ·split
        ·obtain ⟨q1,q2,q3⟩:=fwH_tg s (Kd lz lb B) hls (Kd_tg h0 hB)
         refine ⟨⟨hk,.inr ?_⟩,fun x hx=>?_⟩
         ·split
          ·exact Kd_tg h0 hB
          ·exact q1
         ·simp only [List.mem_cons] at hx
          rcases hx with rfl | hx
          ·exact ⟨q1,q3 (by simp [Way.ua])⟩
          ·exact q2 x hx
        ·obtain ⟨q1,q2,_⟩:=fwH_tg s B hls hB
         exact ⟨⟨hk,.inr (by simp only [Way.tg];cases lz <;> simp [tgL,q1,hB])⟩,q2⟩
       ·exact ⟨⟨hk,.inr hB⟩,by simp⟩
theorem fwC_tg {top:Nat}:∀ (ts:List Lt) (B:Way),(∀ lb ∈ lbsL ts,2 * lb + 3≤top)→B.tg top→(fwC ts B).tg top∧∀ x ∈ leC ts B,x.2.tg top∧x.2.ua=[]
 | [],B,_,hB=>by simp [fwC,leC,hB]
 | t :: ts,B,hl,hB=>by
  simp only [lbsL,List.mem_append] at hl
  obtain ⟨q1,q2⟩:=fwC_tg ts B (fun lb h=>hl lb (.inr h)) hB
  obtain ⟨p1,p2⟩:=fw_tg t (fwC ts B) (fun lb h=>hl lb (.inl h)) q1
  simp only [fwC,leC,List.mem_append]
  exact ⟨p1,fun x hx=>hx.elim (p2 x) (q2 x)⟩
theorem fwA_tg {top:Nat}:∀ (ts:List Lt) (B:Way),(∀ lb ∈ lbsL ts,2 * lb + 3≤top)→B.tg top→tgL top (fwA ts B)∧∀ x ∈ leA ts B,x.2.tg top∧x.2.ua=[]
 | [],B,_,hB=>by simp [fwA,leA,tgL]
 | t :: ts,B,hl,hB=>by
  simp only [lbsL,List.mem_append] at hl
  obtain ⟨q1,q2⟩:=fwA_tg ts B (fun lb h=>hl lb (.inr h)) hB
  obtain ⟨p1,p2⟩:=fw_tg t B (fun lb h=>hl lb (.inl h)) hB
  simp only [fwA,leA,List.mem_append,tgL]
  exact ⟨⟨p1,q1⟩,fun x hx=>hx.elim (p2 x) (q2 x)⟩
theorem fwH_tg {top:Nat}:∀ (ts:List Lt) (B:Way),(∀ lb ∈ lbsL ts,2 * lb + 3≤top)→B.tg top→(fwH ts B).tg top∧(∀ x ∈ leH ts B,x.2.tg top∧x.2.ua=[])∧(B.ua=[]→(fwH ts B).ua=[])
 | [],B,_,hB=>by simp [fwH,leH,hB]
 | t :: ts,B,hl,hB=>by
  simp only [lbsL,List.mem_append] at hl
  obtain ⟨p1,p2⟩:=fw_tg t B (fun lb h=>hl lb (.inl h)) hB
  simp only [fwH,leH]
  exact ⟨p1,p2,fun _=>by cases t;simp [Lt.fw,Way.ua]⟩
end
theorem full_ps {E:Nat→Way} {T:Lt} {K:Nat} {tx:List Int} {p:Nat} {l:List (Int × List Int)} {s':Sg} (hN:T.lbs.Nodup) (hE:T.eo E (.once 1 .through)) (h:PS T.tn K tx p l) (hx:Ex tx E (T.fw (.once 1 .through)) p ⟨[],(List.replicate K (-1)).set 0 (p:Int),[]⟩ s'):s'.parses=l:=by
 obtain ⟨E',W',n1',s1',hB',hE',hg',hx',rfl⟩:=h.ex
 obtain ⟨G0,hG0⟩:∃ G0:Mat,G0=⟨fun a a'=>a=1∧a'=1,fun _ _=>False,fun _ _=>False,fun _=>.through,false,Eq,Eq⟩:=⟨_,rfl⟩
 obtain ⟨U1,G,hI,hgr,_,hS,h0,hH⟩:=full_sim hB' T rfl hN _ hE (fun m=>m=1) G0 (by rw [hG0]) (by rw [hG0];exact ⟨fun a a' h=>by simp at h;exact ⟨h.1,by omega⟩,fun _ _ h=>h.elim,fun a a' m m' h1 h2=>by simp at h1 h2;omega,fun _ _ _ h=>h.elim,fun _ _ _ h=>h.elim⟩) (fun lb _=>⟨by simp only [kb];omega,by simp only [kd];omega⟩) (by rw [hG0];exact .once ⟨rfl,rfl⟩ .through) ⟨1,by rw [hG0];exact .once (n':=1) ⟨rfl,rfl⟩⟩
 have hnr:G.NR=Eq:=by rw [hgr.nr,hG0]
 have hpr:G.PR=Eq:=by rw [hgr.pr,hG0]
 have hdr:G.drop=false:=by rw [hgr.dr,hG0]
 have hok:G.Ok E E':=by
  refine ⟨hI.one,hI.noC,hI.oneX,fun b b' hb=>?_,fun c x ν ν' hd hn=>?_,fun c x ν ν' hd _=>(by rw [hdr] at hd;cases hd),fun q ν ν' a b hn h=>?_⟩
  ·rcases hgr.new b b' hb with hb | hb
   ·rw [hG0] at hb;exact hb.elim
   ·exact hb
  ·rw [hnr] at hn ⊢;rw [hn]
  ·rw [hpr] at h ⊢
   rw [hnr] at hn
   rw [hn,h]
 obtain ⟨s2,hx2,hA⟩:=sim_ex hok hx W' ⟨[],(List.replicate K (-1)).set 0 (p:Int),[]⟩ NoP hS ⟨fun a a' q _=>by simp,fun m n0 q _ hm=>by simp at hm,by rw [hnr],by rw [hpr]⟩ (Pend.no _ _)
 have e:=hx'.det hx2
 subst e
 have:=hA.pr
 rw [hpr] at this
 exact this
def Lt.body:Lt→Way→Way
 | .mk lb k R a s mn mx lz ix nm,B=>if k=2 then .runeOf R B else if k=3 then .ifHolds a B else if k=4 then fwC s B else if k=5 then .inOrder (fwA s B)
   else if k=7 then .noted (2 * ix.toNat) (fwH s (.noted (2 * ix.toNat + 1) B))
   else if k=6 then (if mx < 0 then (if mn=0 then Kd lz lb B else fwH s (Kd lz lb B)) else .inOrder (if lz=true then [B,fwH s B] else [fwH s B,B]))
   else B
mutual
def Lt.bd:Lt→Way→List (Int × Way)
 | .mk lb k R a s mn mx lz ix nm,B=>(kb lb,(Lt.mk lb k R a s mn mx lz ix nm).body B) ::
  (if k=4 then bdC s B else if k=5 then bdA s B else if k=7 then bdH s (.noted (2 * ix.toNat + 1) B)
  else if k=6 then (if mx < 0 then (kd lb,.inOrder (if lz=true then [B,.again lb] else [.again lb,B])) :: bdH s (Kd lz lb B) else bdH s B) else [])
def bdC:List Lt→Way→List (Int × Way)
 | [],_=>[]
 | t :: ts,B=>t.bd (fwC ts B) ++ bdC ts B
def bdA:List Lt→Way→List (Int × Way)
 | [],_=>[]
 | t :: ts,B=>t.bd B ++ bdA ts B
def bdH:List Lt→Way→List (Int × Way)
 | [],_=>[]
 | t :: _,B=>t.bd B
end
def ks:List Nat→List Int
 | []=>[]
 | lb :: L=>kb lb :: kd lb :: ks L
theorem ks_mem {L:List Nat} {m:Int}:m ∈ ks L↔∃ lb ∈ L,m=kb lb∨m=kd lb:=by
 induction L with
 | nil=>simp [ks]
 | cons x L ih =>
  simp only [ks,List.mem_cons,ih]
  constructor
  ·rintro (h | h | ⟨lb,h1,h2⟩)
   ·exact ⟨x,.inl rfl,.inl h⟩
   ·exact ⟨x,.inl rfl,.inr h⟩
   ·exact ⟨lb,.inr h1,h2⟩
  ·rintro ⟨lb,rfl | h1,h2⟩
   ·rcases h2 with h2 | h2
    ·exact .inl h2
    ·exact .inr (.inl h2)
   ·exact .inr (.inr ⟨lb,h1,h2⟩)
abbrev Lt.env (T:Lt):Nat→Way:=envOf (T.le (.once 1 .through))
theorem env_eo {T:Lt} (hN:T.lbs.Nodup) (hs:T.sf):T.eo T.env (.once 1 .through):=eo_of _ T _ hs (fun x hx=>envOf_mem _ ((le_sub T _).nodup hN) x hx)
theorem le_sum_mem {x:Nat}:∀ {L:List Nat},x ∈ L→x≤L.sum:=by
 intro L
 induction L with
 | nil=>intro h;cases h
 | cons y L ih =>
  intro h
  simp only [List.mem_cons] at h
  simp only [List.sum_cons]
  rcases h with rfl | h
  ·omega
  ·have:=ih h;omega
def Lt.lb:Lt→Nat | .mk lb ..=>lb
def Lt.sub:Lt→List Lt | .mk _ _ _ _ s ..=>s
structure Pl where
 t:Lt
 B:Way
 up:Int
 nth:Nat
def subB:Lt→Way→Nat→Way
 | .mk lb k R a s mn mx lz ix nm,B,i=>if k=4 then fwC (s.drop (i + 1)) B else if k=7 then .noted (2 * ix.toNat + 1) B else if k=6∧mx < 0 then Kd lz lb B else B
mutual
def Lt.ents:Lt→Way→Int→Nat→List Pl
 | .mk lb k R a s mn mx lz ix nm,B,up,nth=>⟨.mk lb k R a s mn mx lz ix nm,B,up,nth⟩ :: entsL (.mk lb k R a s mn mx lz ix nm) B s 0
def entsL (p:Lt) (B:Way):List Lt→Nat→List Pl
 | [],_=>[]
 | t :: ts,i=>t.ents (subB p B i) (p.lb:Int) i ++ entsL p B ts (i + 1)
end
def child (e:Pl) (i:Nat) (h:i < e.t.sub.length):Pl:=⟨e.t.sub[i],subB e.t e.B i,(e.t.lb:Int),i⟩
theorem ents_eq (T:Lt) (B:Way) (up:Int) (nth:Nat):T.ents B up nth=⟨T,B,up,nth⟩ :: entsL T B T.sub 0:=by cases T;simp [Lt.ents,Lt.sub]
theorem entsL_mem (p:Lt) (B:Way):∀ (ts:List Lt) (j:Nat) (x:Pl),x ∈ entsL p B ts j↔∃ i,∃ (h:i < ts.length),x ∈ (ts[i]).ents (subB p B (j + i)) (p.lb:Int) (j + i):=by
 intro ts
 induction ts with
 | nil=>intro j x;simp [entsL]
 | cons t ts ih =>
  intro j x
  rw [entsL,List.mem_append,ih]
  constructor
  ·rintro (h | ⟨i,h,hx⟩)
   ·exact ⟨0,by simp,h⟩
   ·exact ⟨i + 1,by simp;omega,by rw [show j + (i + 1)=j + 1 + i by omega];exact hx⟩
  ·rintro ⟨i,h,hx⟩
   cases i with
   | zero=>exact .inl hx
   | succ i=>exact .inr ⟨i,by simp at h;omega,by rw [show j + 1 + i=j + (i + 1) by omega];exact hx⟩
theorem ents_root (T:Lt) (B:Way) (up:Int) (nth:Nat):⟨T,B,up,nth⟩ ∈ T.ents B up nth:=by rw [ents_eq];exact List.mem_cons_self ..
theorem Lt.rec' {P:Lt→Prop} (h:∀ T,(∀ t ∈ T.sub,P t)→P T):∀ T,P T:=by
 intro T
 refine Lt.rec (motive_1:=P) (motive_2:=fun ts=>∀ t ∈ ts,P t) ?_ ?_ ?_ T
 ·intro lb k R a s mn mx lz ix nm ih
  exact h _ ih
 ·intro t ht;cases ht
 ·intro t ts h1 h2 u hu
  rcases List.mem_cons.1 hu with rfl | hu
  ·exact h1
  ·exact h2 u hu
theorem ents_child:∀ (T:Lt) (B:Way) (up:Int) (nth:Nat) (e:Pl),e ∈ T.ents B up nth→∀ i (hi:i < e.t.sub.length),child e i hi ∈ T.ents B up nth:=by
 refine Lt.rec' ?_
 intro T ih B up nth e he i hi
 rw [ents_eq] at he ⊢
 rcases List.mem_cons.1 he with rfl | he
 ·refine List.mem_cons_of_mem _ ((entsL_mem _ _ _ _ _).2 ⟨i,hi,?_⟩)
  rw [Nat.zero_add]
  exact ents_root _ _ _ _
 ·obtain ⟨j,hj,hx⟩:=(entsL_mem _ _ _ _ _).1 he
  exact List.mem_cons_of_mem _ ((entsL_mem _ _ _ _ _).2 ⟨j,hj,ih _ (List.getElem_mem hj) _ _ _ _ hx i hi⟩)
theorem ents_parent:∀ (T:Lt) (B:Way) (up:Int) (nth:Nat) (e:Pl),e ∈ T.ents B up nth→e=⟨T,B,up,nth⟩∨∃ p ∈ T.ents B up nth,∃ i,∃ (hi:i < p.t.sub.length),e=child p i hi:=by
 refine Lt.rec' ?_
 intro T ih B up nth e he
 rw [ents_eq] at he ⊢
 rcases List.mem_cons.1 he with rfl | he
 ·exact .inl rfl
 ·obtain ⟨j,hj,hx⟩:=(entsL_mem _ _ _ _ _).1 he
  right
  rcases ih _ (List.getElem_mem hj) _ _ _ _ hx with rfl | ⟨p,hp,i,hi,e'⟩
  ·exact ⟨⟨T,B,up,nth⟩,List.mem_cons_self ..,j,hj,by simp [child]⟩
  ·exact ⟨p,List.mem_cons_of_mem _ ((entsL_mem _ _ _ _ _).2 ⟨j,hj,hp⟩),i,hi,e'⟩
theorem fine_sub {T:Lt} (h:T.tn.fine=true):∀ t ∈ T.sub,t.tn.fine=true:=by
 cases T with
 | mk lb k R a s mn mx lz ix nm =>
  simp only [Lt.tn,Tn.fine,Bool.and_eq_true] at h
  have key:∀ ts:List Lt,fineL (tnL ts)=true→∀ t ∈ ts,t.tn.fine=true:=by
   intro ts
   induction ts with
   | nil=>intro _ t ht;cases ht
   | cons u ts ih =>
    intro h t ht
    simp only [tnL,fineL,Bool.and_eq_true] at h
    rcases List.mem_cons.1 ht with rfl | ht
    ·exact h.1
    ·exact ih h.2 t ht
  exact key s h.2
theorem ents_fine:∀ (T:Lt) (B:Way) (up:Int) (nth:Nat),T.tn.fine=true→∀ e ∈ T.ents B up nth,e.t.tn.fine=true:=by
 refine Lt.rec' ?_
 intro T ih B up nth hf e he
 rw [ents_eq] at he
 rcases List.mem_cons.1 he with rfl | he
 ·exact hf
 ·obtain ⟨j,hj,hx⟩:=(entsL_mem _ _ _ _ _).1 he
  exact ih _ (List.getElem_mem hj) _ _ _ (fine_sub hf _ (List.getElem_mem hj)) e hx
theorem node_fine {lb:Nat} {k:Int} {R:List (Int × Int)} {a:Int} {s:List Lt} {mn mx:Int} {lz:Bool} {ix:Int} {nm:ByteArray} (h:(Lt.mk lb k R a s mn mx lz ix nm).tn.fine=true):FineNZ k R a s.length mn mx lz ix nm:=by
 simp only [Lt.tn,Tn.fine,Bool.and_eq_true] at h
 have:=fine_nodeZ h.1
 rwa [tnL_map,List.length_map] at this
theorem eoC_get {E:Nat→Way} {B:Way}:∀ (s:List Lt) (i:Nat) (hi:i < s.length),eoC E s B→(s[i]).eo E (fwC (s.drop (i + 1)) B):=by
 intro s
 induction s with
 | nil=>intro i hi;simp at hi
 | cons t s ih =>
  intro i hi h
  cases i with
  | zero=>exact h.1
  | succ i=>exact ih i (by simpa using hi) h.2
theorem eoA_get {E:Nat→Way} {B:Way}:∀ (s:List Lt) (i:Nat) (hi:i < s.length),eoA E s B→(s[i]).eo E B:=by
 intro s
 induction s with
 | nil=>intro i hi;simp at hi
 | cons t s ih =>
  intro i hi h
  cases i with
  | zero=>exact h.1
  | succ i=>exact ih i (by simpa using hi) h.2
theorem eoH_get {E:Nat→Way} {B:Way} (s:List Lt) (i:Nat) (hi:i < s.length) (h1:s.length=1) (h:eoH E s B):(s[i]).eo E B:=by
 match s,h1,hi,h with
 | [t],_,hi,h =>
  have:i=0:=by simp at hi;exact hi
  subst this
  exact h
theorem ents_eo {E:Nat→Way}:∀ (T:Lt) (B:Way) (up:Int) (nth:Nat),T.tn.fine=true→T.eo E B→∀ e ∈ T.ents B up nth,e.t.eo E e.B:=by
 refine Lt.rec' ?_
 intro T ih B up nth hf ho e he
 rw [ents_eq] at he
 rcases List.mem_cons.1 he with rfl | he
 ·exact ho
 ·obtain ⟨j,hj,hx⟩:=(entsL_mem _ _ _ _ _).1 he
  refine ih _ (List.getElem_mem hj) _ _ _ (fine_sub hf _ (List.getElem_mem hj)) ?_ e hx
  rw [Nat.zero_add]
  cases T with
  | mk lb k R a s mn mx lz ix nm =>
   have hF:=node_fine hf
   simp only [Lt.eo] at ho
   obtain ⟨h4,h5,h7,h6⟩:=ho
   have hj':j < s.length:=hj
   show (s[j]'hj').eo E (if k=4 then fwC (s.drop (j + 1)) B else if k=7 then .noted (2 * ix.toNat + 1) B else if k=6∧mx < 0 then Kd lz lb B else B)
   rcases hF.kind with hk | hk | hk | hk | hk | hk | hk
   ·have:=hF.leaf (by omega);omega
   ·have:=hF.leaf (by omega);omega
   ·have:=hF.leaf (by omega);omega
   ·rw [if_pos hk];exact eoC_get s j hj' (h4 hk)
   ·rw [if_neg (by omega),if_neg (by omega),if_neg (by omega)];exact eoA_get s j hj' (h5 hk)
   ·rw [if_neg (by omega),if_neg (by omega)]
    have h1:=(hF.rep hk).1
    rcases h6 hk with ⟨hc,_,ho⟩ | ⟨hc,ho⟩
    ·rw [if_pos ⟨hk,by omega⟩];exact eoH_get s j hj' h1 ho
    ·rw [if_neg (by omega)];exact eoH_get s j hj' h1 ho
   ·rw [if_neg (by omega),if_pos hk];exact eoH_get s j hj' (hF.grp hk).1 (h7 hk)
mutual
def Tn.num:Tn→Nat→Lt
 | .mk k R a s mn mx lz ix nm,n=>.mk n k R a (numL s (n + 1)) mn mx lz ix nm
def numL:List Tn→Nat→List Lt
 | [],_=>[]
 | t :: ts,n=>t.num n :: numL ts (n + t.nodes)
end
theorem row_cap {w:World} {base e n b cap:Nat} {xs:List Value} (h:w.ownsRow base e 1 (.slice (some ⟨b,0,none⟩) n cap) n xs):n≤cap∧cap≤9223372036854775807:=by
 rcases h.2 with ⟨h,_⟩ | ⟨g,cap',cur,he,hb,hgg,h1,h2,h3,h4⟩
 ·cases h
 ·simp only [Value.slice.injEq,Option.some.injEq,Addr.mk.injEq] at he
  obtain ⟨⟨rfl,_⟩,_,rfl⟩:=he
  unfold maxLen at h2
  omega
theorem text_cell {N:Nat} {w:World} {ad:Option Addr} {n:Nat} {l:List Int} (h:Look.TextAt N w ad n l) {k:Nat} (hk:k < n):∃ b off,ad=some ⟨b,off,none⟩∧b < N∧w.cell? ⟨b,off + k,none⟩=some (.int .i64 (l.getD k 0)):=by
 rcases h.2.2 with h0 | ⟨b,off,ha,hb,hc⟩
 ·omega
 ·exact ⟨b,off,ha,hb,hc k hk⟩
theorem own_text {w:World} {base n:Nat} {v:Value} {L:List Int} (h:w.ownsRow base 3 1 v n (I64 L)) (hn:n≤35184372088832):∃ ad cap,v=.slice ad n cap∧n≤cap∧Look.TextAt w.heap.size w ad n L:=by
 have hl:n=L.length:=by have:=h.1;simp at this;omega
 rcases Joins.ownsRow_forms h with ⟨e,h0⟩ | ⟨b,cap,e⟩
 ·subst h0
  exact ⟨none,0,e,Nat.le_refl _,hl,hn,.inl rfl⟩
 ·have hlt:=(h.lt b (by rw [e];rfl)).2
  subst e
  refine ⟨_,cap,rfl,(row_cap h).1,hl,hn,.inr ⟨b,0,rfl,hlt,fun k hk=>?_⟩⟩
  rw [Nat.zero_add,h.cellAt k (by simp;omega)]
  simp [List.getD_eq_getElem?_getD,List.getElem?_eq_getElem (show k < L.length by omega)]
theorem own_none (w:World):(w.alloc (.cells #[] 3)).ownsRow w.heap.size 3 1 (.slice (some ⟨w.heap.size,0,none⟩) 0 0) 0 []:=
 ⟨by simp,.inr ⟨w.heap.size,0,#[],rfl,Nat.le_refl _,heap_alloc_new w _,Nat.le_refl _,by simp [maxLen],by simp,by simp⟩⟩
theorem src_cells {w:World} {b off n:Nat} {L:List Int} (hl:n=L.length) (hc:∀ k,k < n→w.cell? ⟨b,off + k,none⟩=some (.int .i64 (L.getD k 0))) (o:Obj) (hb:b < w.heap.size):∀ j u,(I64 L)[j]?=some u→(w.alloc o).cell? ((⟨b,off,none⟩:Addr).add j)=some u:=fun j u hj=>by
 have hjl:j < L.length:=by have:=(List.getElem?_eq_some_iff.1 hj).1;simpa using this
 rw [show ((⟨b,off,none⟩:Addr).add j)=⟨b,off + j,none⟩ by by_cases e:j=0 <;> simp [Addr.add,e]]
 rw [World.cell?_alloc_lt _ _ _ hb,hc j (by omega)]
 simp [List.getD_eq_getElem?_getD,List.getElem?_eq_getElem hjl] at hj ⊢
 exact hj
theorem moved_size {w w':World} {v v':Value} (hm:Moved w w' v v'):w.heap.size≤w'.heap.size:=by rcases hm with ⟨_,h⟩ | ⟨_,h⟩ <;> exact h.size
theorem row_put {w:World} {base n b cap:Nat} {L:List Int} (h:w.ownsRow base 3 1 (.slice (some ⟨b,0,none⟩) n cap) n (I64 L)) (k:Nat) (hk:k < n) (x:Int):(w.setCell ⟨b,k,none⟩ (.int .i64 x)).ownsRow base 3 1 (.slice (some ⟨b,0,none⟩) n cap) n (I64 (L.set k x))∧w.frozen? ⟨b,k,none⟩=false:=by
 have hl:L.length=n:=by have:=h.1;simpa using this
 rcases h.2 with ⟨h,_⟩ | ⟨g,cap',cur,he,hb,hgg,h1,h2,h3,h4⟩
 ·cases h
 ·simp only [Value.slice.injEq,Option.some.injEq,Addr.mk.injEq] at he
  obtain ⟨⟨rfl,_⟩,_,rfl⟩:=he
  refine ⟨⟨by simp [hl],.inr ⟨b,cap,cur.setIfInBounds k (.int .i64 x),rfl,hb,Joins.block_setCell hgg _,h1,h2,by simpa using h3,?_⟩⟩,Joins.unfrozen_of_block hgg k⟩
  simp only [Array.toList_setIfInBounds]
  rw [List.take_set,h4]
  simp [I64,List.map_set]
def SrcOf (w:World) (v:Value) (L:List Int):Prop:=(v=.slice none 0 0∧L=[])∨∃ b off cap,v=.slice (some ⟨b,off,none⟩) L.length cap∧0 < L.length∧b < w.heap.size∧∀ k,k < L.length→w.cell? ⟨b,off + k,none⟩=some (.int .i64 (L.getD k 0))
set_option maxRecDepth 100000 in
set_option maxHeartbeats 4000000 in
theorem set39 (L:List Int) (v:Value) (k:Nat) (x:Int) (w:World) (hS:SrcOf w v L) (hk:k < L.length) (hn:L.length≤1000000) :
  Calls Tryz.prog 86 #[v,.int .i64 (k:Int),.int .i64 x] w fun e w'=>∃ v',e=.returned v'∧w'.ownsRow w.heap.size 3 1 v' L.length (I64 (L.set k x))∧Below w.heap.size w w':=by
 obtain ⟨i0,hi0,hz0,hz1,hz2⟩:=info_parts info3
 have hown:=own_none w
 have hb0:=Joins.below_alloc1 w (.cells #[] 3)
 rcases hS with ⟨rfl,rfl⟩ | ⟨b,off,cap,rfl,hp,hbl,hc⟩
 ·simp at hk
 ·have HOWN:=hid hown
  have HB0:=hid hb0
  have HSRC:=hid (src_cells (n:=L.length) rfl hc (.cells #[] 3) hbl)
  obtain ⟨n,hnl⟩:∃ n,n=L.length:=⟨_,rfl⟩
  rw [← hnl] at hp hn hk ⊢
  have HNL:=hid hnl
  have i1:(k:Int) < (n:Int):=by omega
  clear hown hb0 hc hnl
  go_enter Tryz.func86,Tryz.ntmps86
  go_wp2_with (at_builtin;refine wpList_append_move rfl (.tmp 8) (.tmp 9) 26 rfl w.heap.size 3 i0 (.int .i64 0) 8 Tryz.underlying26 hi0 hz0 hz1 hz2 rfl (.slice (some ⟨w.heap.size,0,none⟩) 0 0) 0 [] rfl HOWN.out ⟨b,off,none⟩ n cap (I64 L) rfl (by simp;exact HNL.out.symm) hp HSRC.out (one_cell_ints L) (by unfold maxLen;omega) (by omega) (by simp) ?_;intro v1 w2 ho2 hm2;have ho2':=ho2.out;simp only [Nat.zero_add,List.nil_append] at ho2';have HM2:=hid hm2.out;obtain ⟨vb,vc,rfl⟩:=Joins.ownsRow_form ho2' hp;have HO2:=hid ho2';have hset:=row_put ho2' k hk x;have hfz:=hset.2;have hcell:w2.cell? ⟨vb,k,none⟩=some (.int .i64 (L.getD k 0)):=(by rw [ho2'.cellAt k (by simp;have:=HNL.out;omega)];simp [List.getD_eq_getElem?_getD,List.getElem?_eq_getElem (show k < L.length by have:=HNL.out;omega)]);have HSET:=hid hset.1;clear ho2 hm2 ho2' hset)
  have hb3:Below w.heap.size w (w2.setCell ⟨vb,k,none⟩ (.int .i64 x)):=(moved_below HB0.out (by simp) (fun k hk=>(HOWN.out.lt k hk).1) HM2.out).1.setCell (by exact (HO2.out.lt vb rfl).1) _
  go_ret
  exact ⟨_,rfl,HSET.out,hb3⟩
def Rw (W:World) (v:Value) (L:List Int):Prop:=(v=.slice none 0 0∧L=[])∨(0 < L.length∧W.ownsRow 0 3 1 v L.length (I64 L))
theorem Rw.src {W:World} {v:Value} {L:List Int} (h:Rw W v L):SrcOf W v L:=by
 rcases h with h | ⟨h0,h⟩
 ·exact .inl h
 ·rcases Joins.ownsRow_forms h with ⟨e,h1⟩ | ⟨b,cap,e⟩
  ·omega
  ·subst e
   refine .inr ⟨b,0,cap,rfl,h0,(h.lt b rfl).2,fun k hk=>?_⟩
   rw [Nat.zero_add,h.cellAt k (by omega)]
   simp [List.getD_eq_getElem?_getD,List.getElem?_eq_getElem hk]
theorem own_low0 {w:World} {base e size n:Nat} {v:Value} {xs:List Value} (h:w.ownsRow base e size v n xs):w.ownsRow 0 e size v n xs:=by
 refine ⟨h.1,?_⟩
 rcases h.2 with h | ⟨g',cap,cur,b1,b2,b3⟩
 ·exact .inl h
 ·exact .inr ⟨g',cap,cur,b1,Nat.zero_le _,b3⟩
theorem row_form {w:World} {base e size n:Nat} {v:Value} {xs:List Value} (h:w.ownsRow base e size v n xs):∃ a c,v=.slice a n c∧n≤c∧c≤maxLen:=by
 rcases h.2 with ⟨e,h0⟩ | ⟨g,cap,cur,e,_,_,h1,h2,_⟩
 ·subst h0;exact ⟨none,0,e,Nat.le_refl _,by simp [maxLen]⟩
 ·exact ⟨_,cap,e,h1,h2⟩
theorem Rw.of {W:World} {base n:Nat} {v:Value} {L:List Int} (h:W.ownsRow base 3 1 v n (I64 L)) (h0:0 < n):Rw W v L:=by
 have hn:n=L.length:=by have:=h.1;simp at this;omega
 subst hn
 exact .inr ⟨h0,own_low0 h⟩
theorem Rw.form {W:World} {v:Value} {L:List Int} (h:Rw W v L):∃ ad cap,v=.slice ad L.length cap:=by
 rcases h with ⟨e,h⟩ | ⟨h0,h⟩
 ·exact ⟨none,0,by rw [e,h];rfl⟩
 ·obtain ⟨a,c,e,_,_⟩:=row_form h
  exact ⟨a,c,e⟩
theorem Rw.text {W:World} {ad:Option Addr} {cap:Nat} {L:List Int} (h:Rw W (.slice ad L.length cap) L) (hl:L.length≤35184372088832):Look.TextAt W.heap.size W ad L.length L:=by
 rcases h with ⟨e,h⟩ | ⟨h0,h⟩
 ·subst h;exact ⟨rfl,by simp,.inl rfl⟩
 ·obtain ⟨ad',cap',e,_,ht⟩:=own_text h hl
  simp only [Value.slice.injEq] at e
  obtain ⟨rfl,_,rfl⟩:=e
  exact ht
theorem Parsed.kept' {N:Nat} {w w':World} {v:Value} {l:List (Int × List Int)} (h:Parsed N w v l) (hk:∀ b,N≤b→b < w.heap.size→w'.heap[b]?=w.heap[b]?):Parsed N w' v l:=by
 obtain ⟨cs,F,h1,h2⟩:=h
 exact ⟨cs,F,row_kept h1 (fun b hb=>hk b (h1.lt b hb).1 (h1.lt b hb).2),h2.kept (fun k hk'=>hk k (h2.low k hk').1 (h2.low k hk').2)⟩
theorem step_call3 {P:Program} {ops:Array Oper} {o:Oper} {a:Act} {w:World} {K:Act→World→Prop} {Q:Exit→Act→World→Prop} {E:Prop} (hg:o.guard=none) (f:FuncId) (x y z:Operand) (t u v:TypeId)
  (hop:o.op=Op.call { callee:=Callee.value (.func f),args:=#[x,y,z],argTypes:=#[t,u,v] }) (hen:∀ args w,(callFunc f args).run P w=.ok (.enter f args) w)
  (hc:Calls P f #[a.eval x,a.eval y,a.eval z] w fun e w'=>∃ v,e=.returned v∧K (a.put o.dst v) w') :
  if Region.wanted o (yielded ops a.tmps)=true then Oper.wp P o a w K Q else E:=by
 have hw:Region.wanted o (yielded ops a.tmps)=true:=by simp [Region.wanted,hg]
 rw [if_pos hw]
 have h2:=hen #[a.eval x,a.eval y,a.eval z] w
 unfold Oper.wp
 have ev:a.eval (.func f)=.func (.func f) #[] #[]:=rfl
 simp [execOp,hop,resolve,invoke,ev,Deferred.ofValue,h2,Result.andThen]
 show Calls P f #[a.eval x,a.eval y,a.eval z] w _
 refine hc.mono fun e w' h=>?_
 obtain ⟨v,rfl,hk⟩:=h
 exact hk
theorem step_append {P:Program} {w:World} {ops:Array Oper} {o:Oper} {a:Act} {K:Act→World→Prop} {Q:Exit→Act→World→Prop} {E:Prop} (hgd:o.guard=none) (s x:Operand) (t:TypeId)
  (ho:o.op=.call { callee:=.builtin .append,args:=#[s,x],argTypes:=#[t,t] })
  (base:Nat) (e:TypeId) (i:TypeInfo) (z:Value) (size bytes:Nat) (ht:P.underlying t=some (.slice e)) (hi:P.info? e=some i) (hz:i.zero=some z)
  (hsize:i.size=size) (hby:i.bytes=bytes) (hzs:z.cells.size=size) (hpos:0 < size)
  (v:Value) (n:Nat) (xs:List Value) (hs:a.eval s=v) (hown:w.ownsRow base e size v n xs)
  (ad:Addr) (m c:Nat) (news:List Value) (hx:a.eval x=.slice (some ad) m c) (hl:news.length=m * size) (hm:0 < m) (hnews:∀ j u,news[j]?=some u→w.cell? (ad.add j)=some u) (h1:∀ u ∈ news,u.oneCell'=true)
  (h63:n + m≤maxLen) (hbytes:(n + m) * bytes≤140737488355328) (hbase:base≤w.heap.size)
  (h:∀ v' w',Hid (w'.ownsRow base e size v' (n + m) (xs ++ news))→Hid (Moved w w' v v')→K (a.put o.dst v') w'):if Region.wanted o (yielded ops a.tmps)=true then Oper.wp P o a w K Q else E:=by
 have hw:Region.wanted o (yielded ops a.tmps)=true:=by simp [Region.wanted,hgd]
 rw [if_pos hw]
 obtain ⟨v',w',hr,h2,h3⟩:=run_append_moveN (P:=P) w base t o.type e i z size bytes ht hi hz hsize hby hzs hpos v n xs hown ad m c news hl hm hnews h1 h63 hbytes hbase
 unfold Oper.wp execOp
 simp only [ho,resolve,invoke,builtin,Sem.run_bind,Sem.run_pure,Result.andThen_ok,List.map_toArray,List.map_cons,List.map_nil,hs,hx,hr]
 exact h v' w' h2 h3
end Go.Proofs.YtacaanhnlfpbhaaGreat
