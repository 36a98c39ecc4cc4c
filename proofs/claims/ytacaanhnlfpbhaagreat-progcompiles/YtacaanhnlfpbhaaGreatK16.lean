/- HELPERS: texts of ours put together. -/
import Derived.Test.YtacaanhnlfpbhaaGreatK15
import Derived.Test.YtacaanhnlfpbhaaGreatK11
import Derived.Test.YtacaanhnlfpbhaaGreatK10
namespace Go.Proofs.YtacaanhnlfpbhaaGreat
open Go.RowKit
set_option linter.unusedVariables false
set_option linter.unusedSimpArgs false
def lbl (b n:Nat):List (Int × Int):=List.replicate n ((b:Int),0)
def cellI (w:World) (b o:Nat):Int:=match w.cell? ⟨b,o,none⟩ with
 | some (.int _ z)=>z
 | _=>0
def decW (w:World) (L:List (Int × Int)):List (Int × Int):=(List.range L.length).map fun i=>(cellI w (L.headD (0,0)).1.toNat (i * 2),cellI w (L.headD (0,0)).1.toNat (i * 2 + 1))
theorem decW_len (w:World) (L:List (Int × Int)):(decW w L).length=L.length:=by simp [decW]
theorem decW_nil (w:World):decW w []=[]:=rfl
theorem decW_lbl {w:World} {b n c:Nat} {R:List (Int × Int)} (h:w.ownsRow 0 70 2 (.slice (some ⟨b,0,none⟩) n c) n (O2 R)) (hn:n=R.length):decW w (lbl b n)=R:=by
 apply List.ext_getElem
 ·rw [decW_len];simp [lbl,hn]
 ·intro i h1 h2
  have hb:((lbl b n).headD (0,0)).1.toNat=b:=by
   cases n with
   | zero=>omega
   | succ n=>simp [lbl,List.replicate_succ]
  have:=O2_at R i h2
  simp only [decW,List.getElem_map,List.getElem_range]
  rw [hb]
  simp only [cellI]
  rw [h.cellAt (i * 2) (by omega),h.cellAt (i * 2 + 1) (by omega),this.1,this.2]
mutual
def Tn.mapR (f:List (Int × Int)→List (Int × Int)):Tn→Tn
 | .mk k R a s mn mx lz ix nm=>.mk k (f R) a (mapRL f s) mn mx lz ix nm
def mapRL (f:List (Int × Int)→List (Int × Int)):List Tn→List Tn
 | []=>[]
 | t :: ts=>t.mapR f :: mapRL f ts
end
def In.mapR (f:List (Int × Int)→List (Int × Int)) (I:In):In:=⟨I.op,I.x,I.y,I.a,f I.R⟩
theorem mapRL_map (f:List (Int × Int)→List (Int × Int)):∀ ts,mapRL f ts=ts.map (Tn.mapR f)
 | []=>rfl
 | t :: ts=>by rw [mapRL,mapRL_map f ts];rfl
theorem forkI_mapR {f:List (Int × Int)→List (Int × Int)} (h0:f []=[]) (a b:Nat) (lz:Bool):(forkI a b lz).mapR f=forkI a b lz:=by
 cases lz <;> simp [forkI,In.mapR,h0]
mutual
theorem mapR_len (f:List (Int × Int)→List (Int × Int)):∀ t:Tn,(t.mapR f).len=t.len
 | .mk k R a s mn mx lz ix nm=>by
  have h1:=mapRL_len f s
  have h2:(mapRL f s).length=s.length:=by rw [mapRL_map,List.length_map]
  simp only [Tn.mapR,Tn.len,h1,h2]
theorem mapRL_len (f:List (Int × Int)→List (Int × Int)):∀ ts:List Tn,lenL (mapRL f ts)=lenL ts
 | []=>rfl
 | t :: ts=>by simp only [mapRL,lenL,mapR_len f t,mapRL_len f ts]
end
mutual
theorem mapR_lay {f:List (Int × Int)→List (Int × Int)} (hl:∀ L,(f L).length=L.length) (h0:f []=[]):∀ (t:Tn) (n:Nat),(t.mapR f).lay n=(t.lay n).map (In.mapR f)
 | .mk k R a s mn mx lz ix nm,n=>by
  have h1:=mapRL_lay hl h0 s
  have h2:=mapRA_lay hl h0 s
  have h3:=mapRL_len f s
  have h4:(mapRL f s).length=s.length:=by rw [mapRL_map,List.length_map]
  simp only [Tn.mapR,Tn.lay,h1,h2,h3,h4,hl R]
  split
  ·split <;> simp [In.mapR,h0]
  ·split
   ·simp [In.mapR,h0]
   ·split
    ·simp [In.mapR,h0]
    ·split
     ·rfl
     ·split
      ·rfl
      ·split
       ·split
        ·simp [forkI_mapR h0]
        ·split
         ·simp [forkI_mapR h0]
         ·have e7:In.mapR f ⟨7,(n:Int),0,0,[]⟩=⟨7,(n:Int),0,0,[]⟩:=by simp [In.mapR,h0]
          simp [forkI_mapR h0,e7]
       ·rfl
theorem mapRL_lay {f:List (Int × Int)→List (Int × Int)} (hl:∀ L,(f L).length=L.length) (h0:f []=[]):∀ (ts:List Tn) (n:Nat),layL (mapRL f ts) n=(layL ts n).map (In.mapR f)
 | [],n=>rfl
 | t :: ts,n=>by simp only [mapRL,layL,mapR_lay hl h0 t,mapRL_lay hl h0 ts,mapR_len,List.map_append]
theorem mapRA_lay {f:List (Int × Int)→List (Int × Int)} (hl:∀ L,(f L).length=L.length) (h0:f []=[]):∀ (ts:List Tn) (n:Nat) (e:Int),layA (mapRL f ts) n e=(layA ts n e).map (In.mapR f)
 | [],n,e=>rfl
 | [t],n,e=>by simp only [mapRL,layA,mapR_lay hl h0 t]
 | t :: u :: ts,n,e=>by
  have h1:=mapRA_lay hl h0 (u :: ts) (n + t.len + 2) e
  simp only [mapRL] at h1
  simp only [mapRL,layA,mapR_lay hl h0 t,h1,mapR_len,List.map_append,List.map_cons]
  simp [In.mapR,h0]
end
def hd1 (L:List (Int × Int)):List Int:=(L.head?.map Prod.fst).toList
mutual
def Tn.heads:Tn→List Int
 | .mk k R a s mn mx lz ix nm=>if k=2 then hd1 R else if k=3 then [] else if k=7∨k=4∨k=5∨k=6 then headsL s else []
def headsL:List Tn→List Int
 | []=>[]
 | t :: ts=>t.heads ++ headsL ts
end
theorem headsL_flat:∀ ts:List Tn,headsL ts=ts.flatMap Tn.heads
 | []=>rfl
 | t :: ts=>by rw [headsL,headsL_flat ts];rfl
theorem hd1_nil:hd1 []=[]:=rfl
theorem hd1_fork (a b:Nat) (lz:Bool):hd1 (forkI a b lz).R=[]:=by cases lz <;> simp [forkI,hd1]
mutual
theorem heads_lay:∀ (t:Tn) (n:Nat),(t.lay n).flatMap (fun I=>hd1 I.R)=t.heads
 | .mk k R a s mn mx lz ix nm,n=>by
  have h1:=headsL_lay s
  have h2:=headsA_lay s
  by_cases k2:k=2
  ·subst k2
   simp only [Tn.lay,Tn.heads,if_true]
   by_cases hR:R.length=0
   ·obtain rfl:=List.length_eq_zero_iff.1 hR
    simp [hd1]
   ·simp [hR]
  by_cases k3:k=3
  ·subst k3;simp [Tn.lay,Tn.heads,hd1_nil]
  by_cases k7:k=7
  ·subst k7;simp [Tn.lay,Tn.heads,hd1_nil,h1]
  by_cases k4:k=4
  ·subst k4;simp [Tn.lay,Tn.heads,h1]
  by_cases k5:k=5
  ·subst k5;simp [Tn.lay,Tn.heads,h2]
  by_cases k6:k=6
  ·subst k6
   simp only [Tn.lay,Tn.heads]
   simp only [show ((6:Int)=2)=False by simp,show ((6:Int)=3)=False by simp,show ((6:Int)=7)=False by simp,show ((6:Int)=4)=False by simp,show ((6:Int)=5)=False by simp,if_false,if_true,or_true,or_false]
   split
   ·simp [h1,hd1_fork]
   ·split
    ·simp [h1,hd1_fork]
    ·simp [h1,hd1_fork,hd1_nil]
  ·simp [Tn.lay,Tn.heads,k2,k3,k7,k4,k5,k6]
theorem headsL_lay:∀ (ts:List Tn) (n:Nat),(layL ts n).flatMap (fun I=>hd1 I.R)=headsL ts
 | [],n=>rfl
 | t :: ts,n=>by simp only [layL,headsL,List.flatMap_append,heads_lay t,headsL_lay ts]
theorem headsA_lay:∀ (ts:List Tn) (n:Nat) (e:Int),(layA ts n e).flatMap (fun I=>hd1 I.R)=headsL ts
 | [],n,e=>rfl
 | [t],n,e=>by simp only [layA,headsL,heads_lay t,List.append_nil]
 | t :: u :: ts,n,e=>by
  have h1:=headsA_lay (u :: ts) (n + t.len + 2) e
  simp only [headsL] at h1
  simp only [layA,headsL,List.flatMap_append,List.flatMap_cons,heads_lay t,h1,hd1_nil,List.nil_append]
end
theorem list_choice {α:Type} {P:Nat→α→Prop}:∀ n,(∀ i,i < n→∃ t,P i t)→∃ l:List α,l.length=n∧∀ i (hi:i < l.length),P i l[i]
 | 0,_=>⟨[],rfl,fun i hi=>by simp at hi⟩
 | n + 1,h=>by
  obtain ⟨l,h1,h2⟩:=list_choice n (fun i hi=>h i (by omega))
  obtain ⟨t,ht⟩:=h n (by omega)
  refine ⟨l ++ [t],by simp [h1],fun i hi=>?_⟩
  simp only [List.length_append,List.length_cons,List.length_nil] at hi
  by_cases e:i < l.length
  ·rw [List.getElem_append_left e]
   exact h2 i e
  ·have:i=n:=by omega
   subst this
   rw [List.getElem_append_right (by omega)]
   simpa [h1] using ht
theorem nodup_flat {α β:Type} (f:α→List β):∀ (l:List α),(∀ i (h:i < l.length),(f l[i]).Nodup)→(∀ i j (hi:i < l.length) (hj:j < l.length),i < j→∀ x ∈ f l[i],x ∉ f l[j])→(l.flatMap f).Nodup
 | [],_,_=>by simp
 | a :: l,h1,h2=>by
  rw [List.flatMap_cons,List.nodup_append]
  refine ⟨h1 0 (by simp),nodup_flat f l (fun i h=>h1 (i + 1) (by simpa using h)) (fun i j hi hj hij=>h2 (i + 1) (j + 1) (by simpa using hi) (by simpa using hj) (by omega)),fun x hx y hy e=>?_⟩
  subst e
  rw [List.mem_flatMap] at hy
  obtain ⟨c,hc,hxc⟩:=hy
  obtain ⟨j,hj,rfl⟩:=List.getElem_of_mem hc
  exact h2 0 (j + 1) (by simp) (by simpa using hj) (by omega) x (by simpa using hx) (by simpa using hxc)
theorem flat_apart {α β:Type} (f:α→List β):∀ (l:List α),(l.flatMap f).Nodup→∀ i j (hi:i < l.length) (hj:j < l.length),i≠j→∀ x ∈ f l[i],x ∉ f l[j]
 | [],_,i,j,hi,_,_,_,_=>by simp at hi
 | a :: l,h,i,j,hi,hj,hij,x,hx=>by
  rw [List.flatMap_cons,List.nodup_append] at h
  obtain ⟨_,h2,h3⟩:=h
  cases i with
  | zero =>
   cases j with
   | zero=>exact absurd rfl hij
   | succ j =>
    intro hx2
    simp only [List.getElem_cons_zero] at hx
    simp only [List.getElem_cons_succ] at hx2
    exact h3 x hx x (List.mem_flatMap.2 ⟨_,List.getElem_mem _,hx2⟩) rfl
  | succ i =>
   simp only [List.getElem_cons_succ] at hx
   cases j with
   | zero =>
    intro hx2
    simp only [List.getElem_cons_zero] at hx2
    exact h3 x hx2 x (List.mem_flatMap.2 ⟨_,List.getElem_mem _,hx⟩) rfl
   | succ j =>
    simp only [List.getElem_cons_succ]
    exact flat_apart f l h2 i j (by simpa using hi) (by simpa using hj) (by omega) x hx
def gW (w:World) (A:Nat→Prop) (r1:Option Addr) (r2 r3:Nat) (L:List (Int × Int)):Prop:=(L=[]∧r1=none∧r2=0∧r3=0)∨∃ b,r1=some ⟨b,0,none⟩∧A b∧0 < r2∧L=lbl b r2∧w.ownsRow 0 70 2 (.slice (some ⟨b,0,none⟩) r2 r3) r2 (O2 (decW w L))
def agW (w:World) (A:Nat→Prop):AG:=⟨A,gW w A,.inl ⟨rfl,rfl,rfl,rfl⟩⟩
theorem TPQ.monoW {w:World} {A A':Nat→Prop} {N:Nv} {t:Tn} (h:TPQ w (agW w A) N t) (hA:∀ b,A b→A' b):TPQ w (agW w A') N t:=by
 induction h with
 | mk ok hr hR hRk hs hS hkk ih =>
  refine .mk ok hr (fun hn=>?_) hRk hs (fun hp=>?_) ih
  ·rcases hR hn with h | ⟨b,h1,h2,h3⟩
   ·exact .inl h
   ·exact .inr ⟨b,h1,hA b h2,h3⟩
  ·obtain ⟨b,o,h1,h2,h3⟩:=hS hp
   exact ⟨b,o,h1,hA b h2,h3⟩
theorem TO.lab {w:World} {N:Nv} {t:Tn} {A:Nat→Prop} (h:TO w N t A):∃ t':Tn,t'.mapR (decW w)=t∧TPQ w (agW w A) N t'∧t'.heads.Nodup∧∀ x ∈ t'.heads,∃ b:Nat,x=(b:Int)∧A b:=by
 induction h with
 | @mk N R ts ND AS ok hRk rr sr hkk d1 d2 d3 ih =>
  obtain ⟨ts',hl,hP⟩:=list_choice (P:=fun i t'=>∃ hi:i < ts.length,t'.mapR (decW w)=ts[i]∧TPQ w (agW w (AS i)) (ND i) t'∧t'.heads.Nodup∧∀ x ∈ t'.heads,∃ b:Nat,x=(b:Int)∧AS i b) ts.length (fun i hi=>by
   obtain ⟨t',h⟩:=ih i hi
   exact ⟨t',hi,h⟩)
  have hmap:mapRL (decW w) ts'=ts:=by
   rw [mapRL_map]
   apply List.ext_getElem
   ·simp [hl]
   ·intro i h1 h2
    rw [List.getElem_map]
    exact (hP i (by simpa using h1)).2.1
  have hnd:(headsL ts').Nodup:=by
   rw [headsL_flat]
   refine nodup_flat _ _ (fun i hi=>(hP i hi).2.2.2.1) (fun i j hi hj hij x hx hx2=>?_)
   obtain ⟨b,e1,h1⟩:=(hP i hi).2.2.2.2 x hx
   obtain ⟨b2,e2,h2⟩:=(hP j hj).2.2.2.2 x hx2
   have:b=b2:=by omega
   subst this
   exact d1 i j b (by omega) (by omega) (by omega) h1 h2
  have hmem:∀ x ∈ headsL ts',∃ b:Nat,x=(b:Int)∧(N.rb=some b∨N.sb=some b∨∃ i,i < ts.length∧AS i b):=fun x hx=>by
   rw [headsL_flat,List.mem_flatMap] at hx
   obtain ⟨u,hu,hxu⟩:=hx
   obtain ⟨i,hi,rfl⟩:=List.getElem_of_mem hu
   obtain ⟨b,e,h1⟩:=(hP i hi).2.2.2.2 x hxu
   exact ⟨b,e,.inr (.inr ⟨i,by omega,h1⟩)⟩
  obtain ⟨R',hR1,hR2,hR3,hR4⟩:∃ R',decW w R'=R∧R'.length=R.length∧(R'≠[]→gW w (fun b=>N.rb=some b∨N.sb=some b∨∃ i,i < ts.length∧AS i b) N.r1 N.r2 N.r3 R')∧∀ x ∈ hd1 R',∃ b:Nat,x=(b:Int)∧N.rb=some b:=by
   rcases rr.2 with ⟨e,h0⟩ | ⟨b,cap,cur,e,_⟩
   ·obtain rfl:=List.length_eq_zero_iff.1 h0
    exact ⟨[],rfl,rfl,fun h=>absurd rfl h,fun x hx=>by simp [hd1] at hx⟩
   ·have hrow:=rr
    rw [e] at hrow
    have e':=e
    simp only [Value.slice.injEq] at e
    obtain ⟨e1,e2,e3⟩:=e
    have hb:N.rb=some b:=by show (Value.slice N.r1 N.r2 N.r3).ownBlock=some b;rw [e'];rfl
    have hdec:=decW_lbl hrow rfl
    refine ⟨lbl b R.length,hdec,by simp [lbl],fun hn=>.inr ⟨b,e1,.inl hb,?_,by rw [e2],?_⟩,fun x hx=>?_⟩
    ·rw [e2]
     rcases Nat.eq_zero_or_pos R.length with h0 | h0
     ·exact absurd (by simp [lbl,h0]) hn
     ·exact h0
    ·rw [hdec,e2,e3];exact hrow
    ·refine ⟨b,?_,hb⟩
     cases hRl:R.length with
     | zero=>rw [hRl] at hx;simp [hd1,lbl] at hx
     | succ n=>rw [hRl] at hx;simpa [hd1,lbl,List.replicate_succ] using hx
  refine ⟨.mk N.k R' N.a2 ts' N.a4 N.a5 N.a6 N.a7 N.a8,by rw [Tn.mapR,hR1,hmap],?_,?_,?_⟩
  ·refine .mk (ND:=ND) ok (by rw [hR2];exact row_len rr) hR3 trivial (by rw [hl];exact row_len sr) (fun hp=>?_) (fun i hi=>((hP i hi).2.2.1).monoW fun b hb=>.inr (.inr ⟨i,by omega,hb⟩))
   obtain ⟨b,e1,e2,h9⟩:=row_nine sr (by simp) (by omega)
   refine ⟨b,0,e1,.inr (.inl e2),fun i hi=>?_⟩
   have:=h9 i (by simp;omega)
   simpa using this
  ·simp only [Tn.heads]
   split
   ·cases R' with
    | nil=>simp [hd1]
    | cons a l=>simp [hd1]
   ·split
    ·simp
    ·split
     ·exact hnd
     ·simp
  ·intro x hx
   simp only [Tn.heads] at hx
   split at hx
   ·obtain ⟨b,e,h⟩:=hR4 x hx
    exact ⟨b,e,.inl h⟩
   ·split at hx
    ·simp at hx
    ·split at hx
     ·exact hmem x hx
     ·simp at hx
structure S4 where
 k:Int
 n:Nat
 s:Nat
 d:Nat
abbrev S4.v (S:S4):Value:=.agg #[.int .i64 S.k,.int .i64 (S.n:Int),.int .i64 (S.s:Int),.int .i64 (S.d:Int)]
abbrev S4.c (S:S4):Array Value:=#[.int .i64 S.k,.int .i64 (S.n:Int),.int .i64 (S.s:Int),.int .i64 (S.d:Int)]
structure R7 where
 s:Nat
 n:Nat
 d:Nat
 l:S4
abbrev R7.c (r:R7):Array Value:=#[.int .i64 (r.s:Int),.int .i64 (r.n:Int),.int .i64 (r.d:Int),.int .i64 r.l.k,.int .i64 (r.l.n:Int),.int .i64 (r.l.s:Int),.int .i64 (r.l.d:Int)]
abbrev r0:R7:=⟨0,0,0,⟨0,0,0,0⟩⟩
theorem nf_subs {t:Tn} (h:Nf t) (hk:t.kind=4∨t.kind=5):2≤t.subs.length:=by
 cases h with
 | leaf h1 hn=>simp only [Tn.kind] at hk;omega
 | cat h2 h' hs=>exact h2
 | alt h2 h' hs=>exact h2
 | loop h' hy=>simp only [Tn.kind] at hk;omega
 | grp hn hy=>simp only [Tn.kind] at hk;omega
theorem joinT_us {l:List (Tn × Nat)} (hl:∀ x ∈ l,Nf x.1):joinT l=(match rowS 4 (l.filter keep) with | []=>emptyT | [u]=>u | us=>zN 4 us):=by
 have hf:∀ x ∈ l.filter keep,Nf x.1∧0 < x.2:=fun x hx=>by
  rw [List.mem_filter] at hx
  refine ⟨hl x hx.1,?_⟩
  have:=hx.2
  simp only [keep,Bool.and_eq_true,decide_eq_true_eq] at this
  exact this.1
 have hlen:=rowS_len (k:=4) (l:=l.filter keep) fun x hx=>(nf_within (.inl rfl) (hf x hx).1).1
 unfold joinT joinK
 generalize l.filter keep=K at hf hlen ⊢
 by_cases h0:timesOf K=0
 ·have:K=[]:=by
   cases K with
   | nil=>rfl
   | cons x K=>simp only [timesOf] at h0;have:=(hf x (by simp)).2;omega
  subst this
  rw [if_pos h0]
  rfl
 ·rw [if_neg h0]
  by_cases h1:timesOf K=1
  ·rw [if_pos h1]
   obtain ⟨x,rfl⟩:∃ x,K=[x]:=by
    cases K with
    | nil=>simp [timesOf] at h1
    | cons x K =>
     cases K with
     | nil=>exact ⟨x,rfl⟩
     | cons y K=>simp only [timesOf] at h1;have:=(hf x (by simp)).2;have:=(hf y (by simp)).2;omega
   have hx1:x.2=1:=by simpa [timesOf] using h1
   have e:rowS 4 [x]=within 4 x.1:=by rw [rowS_cons,hx1];simp [rowS]
   rw [e]
   simp only [List.headD_cons]
   have hn:=(hf x (by simp)).1
   generalize x.1=u at hn ⊢
   by_cases hk:u.kind=4
   ·have e2:within 4 u=u.subs:=by unfold within;rw [if_pos hk]
    rw [e2]
    cases hn with
    | leaf h1 hn=>simp only [Tn.kind] at hk;omega
    | @cat s h2 h' hs =>
     match s,h2 with
     | a :: b :: s,_=>rfl
    | alt h2 h' hs=>simp only [Tn.kind] at hk;omega
    | loop h' hy=>simp only [Tn.kind] at hk;omega
    | grp hn hy=>simp only [Tn.kind] at hk;omega
   ·have e2:within 4 u=[u]:=by unfold within;rw [if_neg hk]
    rw [e2]
  ·rw [if_neg h1]
   have h2:2≤(rowS 4 K).length:=by omega
   show zN 4 (rowS 4 K)=_
   match hr:rowS 4 K,h2 with
   | a :: b :: s,_=>rfl
theorem nf_one_len {t:Tn} (h:Nf t) (h1:t.kind=1):t.len=0:=by
 cases h with
 | leaf hk hn=>simp only [Tn.kind] at h1;subst h1;rfl
 | cat h2 h' hs=>simp [Tn.kind] at h1
 | alt h2 h' hs=>simp [Tn.kind] at h1
 | loop h' hy=>simp [Tn.kind] at h1
 | grp hn hy=>simp [Tn.kind] at h1
theorem within4_len {t:Tn} (h:Nf t):lenL (within 4 t)=t.len:=by
 unfold within
 split
 ·rename_i hk
  cases h with
  | leaf h1 hn=>simp only [Tn.kind] at hk;omega
  | cat h2 h' hs=>simp [Tn.subs,Tn.len]
  | alt h2 h' hs=>simp [Tn.kind] at hk
  | loop h' hy=>simp [Tn.kind] at hk
  | grp hn hy=>simp [Tn.kind] at hk
 ·simp [lenL]
def sumR:List (Tn × Nat)→Nat
 | []=>0
 | x :: l=>x.2 * x.1.len + sumR l
theorem rowS4_len {l:List (Tn × Nat)} (hl:∀ x ∈ l,Nf x.1):lenL (rowS 4 (l.filter keep))=sumR l:=by
 induction l with
 | nil=>rfl
 | cons x l ih =>
  have ih':=ih fun y hy=>hl y (by simp [hy])
  have hx:=hl x (by simp)
  rw [List.filter_cons,sumR]
  by_cases h1:x.1.kind=1
  ·have hk:keep x=false:=by simp [keep,h1]
   simp [hk,ih',nf_one_len hx h1]
  ·by_cases h0:x.2=0
   ·have hk:keep x=false:=by simp [keep,h0]
    simp [hk,ih',h0]
   ·have hk:keep x=true:=by simp [keep,h1];omega
    rw [if_pos hk,rowS_cons,lenL_append,lenL_rep,within4_len hx,ih']
theorem join_len {l:List (Tn × Nat)} (hl:∀ x ∈ l,Nf x.1):(joinT l).len=sumR l:=by
 rw [joinT_us hl,← rowS4_len hl]
 generalize rowS 4 (l.filter keep)=us
 match us with
 | []=>rfl
 | [u]=>simp [lenL]
 | a :: b :: s=>simp [Tn.len]
theorem opt_len {y:Tn} (hy:Nf y) (lz:Bool):∀ n,(optT y lz n).len=n * (1 + y.len)
 | 0=>by simp [optT,Tn.len]
 | 1=>by simp [optT,Tn.len,lenL];omega
 | n + 2=>by
  have ih:=opt_len hy lz (n + 1)
  have hj:=join_len (l:=[(y,1),(optT y lz (n + 1),1)]) fun x hx=>by
   simp at hx
   rcases hx with rfl | rfl
   ·exact hy
   ·exact nf_opt lz hy _
  rw [optT_step]
  have e:(loopT 0 1 lz (joinT [(y,1),(optT y lz (n + 1),1)])).len=(joinT [(y,1),(optT y lz (n + 1),1)]).len + 1:=by simp [Tn.len,lenL]
  rw [e,hj]
  simp only [sumR,ih,Nat.one_mul,Nat.add_zero]
  rw [show n + 2=(n + 1) + 1 from rfl,Nat.succ_mul (n + 1)]
  omega
theorem rep_len {y:Tn} (hy:Nf y) (p q:Nat) (lz:Bool):(repT y (p:Int) ((p + q:Nat):Int) lz).len=p * y.len + q * (1 + y.len):=by
 unfold repT
 rw [if_pos (by omega),join_len fun x hx=>by
  simp at hx
  rcases hx with rfl | rfl
  ·exact hy
  ·exact nf_opt lz hy _]
 simp only [sumR,show (p:Int).toNat=p by omega,show (((p + q:Nat):Int) - (p:Int)).toNat=q by omega,opt_len hy,Nat.one_mul,Nat.add_zero]
theorem rep_len_inf {y:Tn} (hy:Nf y) (p:Nat) (lz:Bool):(repT y (p:Int) (-1) lz).len=if p=0 then y.len + 2 else p * y.len + 1:=by
 unfold repT
 rw [if_neg (by decide)]
 by_cases h0:p=0
 ·subst h0;simp [Tn.len,lenL]
 ·rw [if_neg (by omega),if_neg h0,join_len fun x hx=>by
   simp at hx
   rcases hx with rfl | rfl
   ·exact hy
   ·exact .loop (.inr (.inr ⟨rfl,rfl⟩)) hy]
  have e:(loopT 1 (-1) lz y).len=y.len + 1:=by simp [Tn.len,lenL]
  simp only [sumR,e,show ((p:Int) - 1).toNat=p - 1 by omega,Nat.one_mul,Nat.add_zero]
  obtain ⟨r,rfl⟩:∃ r,p=r + 1:=⟨p - 1,by omega⟩
  rw [Nat.add_sub_cancel,Nat.succ_mul]
  omega
theorem row5_len {l:List Tn} (hl:∀ x ∈ l,Nf x):lenL (rowS 5 (ones l)) + 2 * (rowS 5 (ones l)).length=lenL l + 2 * l.length:=by
 induction l with
 | nil=>rfl
 | cons x l ih =>
  have ih':=ih fun y hy=>hl y (by simp [hy])
  have hx:=hl x (by simp)
  have e:ones (x :: l)=(x,1) :: ones l:=rfl
  have e2:(List.replicate 1 (within 5 x)).flatten=within 5 x:=by simp
  rw [e,rowS_cons,e2,lenL_append,List.length_append,lenL,List.length_cons]
  have hw:lenL (within 5 x) + 2 * (within 5 x).length=x.len + 2:=by
   unfold within
   split
   ·rename_i hk
    have h2:=nf_subs hx (.inr hk)
    cases hx with
    | leaf h1 hn=>simp only [Tn.kind] at hk;omega
    | cat h2 h' hs=>simp [Tn.kind] at hk
    | @alt s h3 h' hs=>simp only [Tn.subs,Tn.len] at h2 ⊢;simp;omega
    | loop h' hy=>simp [Tn.kind] at hk
    | grp hn hy=>simp [Tn.kind] at hk
   ·simp [lenL]
  omega
theorem alt_len {l:List Tn} (hl:∀ x ∈ l,Nf x) (h2:1≤l.length):(rowT 5 (ones l)).len=lenL l + 2 * (l.length - 1):=by
 have h:=row5_len hl
 have hlen:=rowS_len (k:=5) (l:=ones l) fun x hx=>(nf_within (.inr rfl) (by obtain ⟨u,hu,rfl⟩:=List.mem_map.1 hx;exact hl u hu)).1
 rw [timesOf_ones] at hlen
 have e:(rowT 5 (ones l)).len=lenL (rowS 5 (ones l)) + 2 * ((rowS 5 (ones l)).length - 1):=by simp [Tn.len]
 rw [e]
 omega
theorem ones_len (l:List Tn):sumR (ones l)=lenL l:=by
 induction l with
 | nil=>rfl
 | cons x l ih =>
  have e:ones (x :: l)=(x,1) :: ones l:=rfl
  rw [e,sumR,ih,lenL];simp only [Nat.one_mul]
theorem mul_cap (m a b:Nat) (h:min a 20001=min b 20001):min (m * a) 20001=min (m * b) 20001:=by
 rcases Nat.eq_zero_or_pos m with h0 | h0
 ·subst h0;simp
 by_cases ha:a≤20000
 ·have:a=b:=by omega
  rw [this]
 ·have h1:20001≤m * a:=Nat.le_trans (by omega) (Nat.le_mul_of_pos_left _ h0)
  have h2:20001≤m * b:=Nat.le_trans (by omega) (Nat.le_mul_of_pos_left _ h0)
  omega
mutual
theorem ln_len:∀ t:Tn,t.fine=true→min t.ln 20001=min t.S.len 20001
 | .mk k R a s mn mx lz ix nm,h=>by
  simp only [Tn.fine,Bool.and_eq_true] at h
  have ih:=lnL_len s h.2 0 (by omega)
  have hnf:=nf_SL s h.2
  have hfk:=fine_kind h.1
  rw [Nat.zero_add] at ih
  simp only [Tn.ln,Tn.S]
  by_cases k2:k=2∨k=3
  ·rw [if_pos k2,if_neg (by omega),if_neg (by omega),if_neg (by omega),if_neg (by omega)]
   simp only [Tn.len]
   rw [if_pos k2]
  rw [if_neg k2]
  by_cases k4:k=4
  ·rw [if_neg (by omega),if_neg (by omega),if_neg (by omega),if_pos k4,join_len (fun x hx=>by obtain ⟨u,hu,rfl⟩:=List.mem_map.1 hx;exact hnf u hu),ones_len]
   omega
  by_cases k5:k=5
  ·rw [if_neg (by omega),if_pos k5,if_neg k4,if_pos k5,alt_len hnf (by rw [SL_len];omega),SL_len]
   omega
  rw [if_neg k4,if_neg k5,if_neg k5]
  have hone:s.length=1→(SL s).headD emptyT ∈ SL s∧lenL (SL s)=((SL s).headD emptyT).len:=fun h1=>by
   match s,h1 with
   | [u],_=>simp [SL,lenL]
  by_cases k6:k=6
  ·obtain ⟨hy,hl⟩:=hone (by omega)
   have hny:=hnf _ hy
   rw [if_neg (by omega),if_pos k6,if_pos k6]
   generalize (SL s).headD emptyT=y at hy hl hny ⊢
   rw [hl] at ih
   obtain ⟨p,rfl⟩:∃ p:Nat,mn=(p:Int):=⟨mn.toNat,by omega⟩
   by_cases hm:mx=-1
   ·subst hm
    rw [if_neg (by decide),rep_len_inf hny]
    by_cases h0:p=0
    ·rw [if_pos (by omega),if_pos h0];omega
    ·rw [if_neg (by omega),if_neg h0,show (p:Int).toNat=p by omega]
     have:=mul_cap p _ _ (show min (lnL s 0) 20001=min y.len 20001 by omega)
     omega
   ·obtain ⟨q,rfl⟩:∃ q:Nat,mx=((p + q:Nat):Int):=⟨(mx - p).toNat,by omega⟩
    rw [if_pos (by omega),rep_len hny,show (p:Int).toNat=p by omega,show (((p + q:Nat):Int) - (p:Int)).toNat=q by omega]
    have h1:=mul_cap p _ _ (show min (lnL s 0) 20001=min y.len 20001 by omega)
    have h2:=mul_cap q (1 + lnL s 0) (1 + y.len) (by omega)
    omega
  by_cases k7:k=7
  ·obtain ⟨hy,hl⟩:=hone (by omega)
   rw [if_pos k7,if_neg k6,if_pos k7]
   have e:(Tn.mk 7 [] 0 [(SL s).headD emptyT] 0 0 false ix nm).len=((SL s).headD emptyT).len + 2:=by simp [Tn.len,lenL]
   rw [e,← hl]
   omega
  ·have hz:s=[]:=List.length_eq_zero_iff.1 (by omega)
   subst hz
   rw [if_neg k7,if_neg k6,if_neg k6,if_neg k7]
   simp [Tn.len,lnL,k2,k7,k4,k5,k6]
theorem lnL_len:∀ ts:List Tn,fineL ts=true→∀ a,a≤20001→lnL ts a=min (a + lenL (SL ts)) 20001
 | [],_=>fun a ha=>by simp only [lnL,SL,lenL];omega
 | t :: ts,h=>fun a ha=>by
  simp only [fineL,Bool.and_eq_true] at h
  have h1:=ln_len t h.1
  have h2:=lnL_len ts h.2 (min (a + t.ln) 20001) (by omega)
  simp only [lnL,SL,lenL,h2]
  omega
end
abbrev Gk:=Int × List UInt8
mutual
def Tn.inG (q:Gk):Tn→Prop
 | .mk k _ _ s _ mx _ ix nm=>¬ (k=6∧mx=0)∧((k=7∧(ix,nm.toList)=q)∨inGL q s)
def inGL (q:Gk):List Tn→Prop
 | []=>False
 | t :: ts=>t.inG q∨inGL q ts
end
theorem inGL_iff {q:Gk} {ts:List Tn}:inGL q ts↔∃ u ∈ ts,u.inG q:=by
 induction ts with
 | nil=>simp [inGL]
 | cons t ts ih=>simp [inGL,ih]
theorem inG_zN {k:Int} (hk:k=4∨k=5) {s:List Tn} {q:Gk}:(zN k s).inG q↔∃ u ∈ s,u.inG q:=by
 simp only [Tn.inG,inGL_iff]
 constructor
 ·rintro ⟨_,⟨h,_⟩ | h⟩
  ·omega
  ·exact h
 ·exact fun h=>⟨by omega,.inr h⟩
theorem inG_within {k:Int} (hk:k=4∨k=5) {t:Tn} {q:Gk}:(∃ u ∈ within k t,u.inG q)↔t.inG q:=by
 unfold within
 split
 ·rename_i h
  cases t with
  | mk k' R a s mn mx lz ix nm =>
   simp only [Tn.kind] at h
   subst h
   simp only [Tn.subs,Tn.inG,inGL_iff]
   constructor
   ·exact fun h=>⟨by omega,.inr h⟩
   ·rintro ⟨_,⟨h,_⟩ | h⟩
    ·omega
    ·exact h
 ·simp
theorem inG_row {k:Int} (hk:k=4∨k=5) {l:List (Tn × Nat)} {q:Gk}:(rowT k l).inG q↔∃ x ∈ l,0 < x.2∧x.1.inG q:=by
 rw [inG_zN hk]
 constructor
 ·rintro ⟨u,hu,hq⟩
  simp only [rowS,List.mem_flatMap,List.mem_flatten,List.mem_replicate] at hu
  obtain ⟨x,hx,y,⟨h0,rfl⟩,hy⟩:=hu
  exact ⟨x,hx,by omega,(inG_within hk).1 ⟨u,hy,hq⟩⟩
 ·rintro ⟨x,hx,h0,hq⟩
  obtain ⟨u,hu,hq'⟩:=(inG_within hk).2 hq
  refine ⟨u,?_,hq'⟩
  simp only [rowS,List.mem_flatMap,List.mem_flatten,List.mem_replicate]
  exact ⟨x,hx,within k x.1,⟨by omega,rfl⟩,hu⟩
theorem nf_one {t:Tn} (h:Nf t) (h1:t.kind=1) (q:Gk):¬ t.inG q:=by
 cases h with
 | leaf hk hn=>simp only [Tn.kind] at h1;simp [Tn.inG,inGL,h1]
 | cat h2 h hs=>simp [Tn.kind] at h1
 | alt h2 h hs=>simp [Tn.kind] at h1
 | loop h hy=>simp [Tn.kind] at h1
 | grp hn hy=>simp [Tn.kind] at h1
theorem not_empty (q:Gk):¬ emptyT.inG q:=nf_one nf_empty rfl q
theorem inG_join {l:List (Tn × Nat)} (hl:∀ x ∈ l,Nf x.1) {q:Gk}:(joinT l).inG q↔∃ x ∈ l,0 < x.2∧x.1.inG q:=by
 have hf:(∃ x ∈ l.filter keep,0 < x.2∧x.1.inG q)↔∃ x ∈ l,0 < x.2∧x.1.inG q:=by
  constructor
  ·rintro ⟨x,hx,h⟩
   exact ⟨x,(List.mem_filter.1 hx).1,h⟩
  ·rintro ⟨x,hx,h0,hq⟩
   refine ⟨x,List.mem_filter.2 ⟨hx,?_⟩,h0,hq⟩
   simp only [keep,Bool.and_eq_true,decide_eq_true_eq,Bool.not_eq_true',beq_eq_false_iff_ne]
   exact ⟨h0,fun h1=>nf_one (hl x hx) h1 q hq⟩
 rw [← hf]
 have hp:∀ x ∈ l.filter keep,0 < x.2:=fun x hx=>by
  have:=(List.mem_filter.1 hx).2
  simp only [keep,Bool.and_eq_true,decide_eq_true_eq] at this
  exact this.1
 unfold joinT joinK
 split
 ·rename_i h0
  constructor
  ·exact fun h=>absurd h (not_empty q)
  ·rintro ⟨x,hx,h1,_⟩
   exfalso
   have:∀ (l:List (Tn × Nat)),x ∈ l→x.2≤timesOf l:=by
    intro l
    induction l with
    | nil=>intro h;cases h
    | cons y l ih =>
     intro h
     simp only [timesOf]
     rcases List.mem_cons.1 h with rfl | h
     ·omega
     ·have:=ih h;omega
   have:=this _ hx
   omega
 ·split
  ·rename_i h0 h1
   cases hfl:l.filter keep with
   | nil=>rw [hfl] at h1;simp [timesOf] at h1
   | cons x l' =>
    have hl':l'=[]:=by
     cases l' with
     | nil=>rfl
     | cons y l'' =>
      rw [hfl] at h1 hp
      simp only [timesOf] at h1
      have:=hp x (by simp)
      have:=hp y (by simp)
      omega
    subst hl'
    have:=hp x (by rw [hfl];simp)
    simp [this]
  ·exact inG_row (.inl rfl)
theorem inG_loop {mn mx:Int} {lz:Bool} {y:Tn} {q:Gk} (h:mx≠0):(loopT mn mx lz y).inG q↔y.inG q:=by
 simp only [Tn.inG,inGL]
 constructor
 ·rintro ⟨_,⟨h,_⟩ | h | h⟩
  ·omega
  ·exact h
  ·exact h.elim
 ·exact fun h'=>⟨fun hh=>h hh.2,.inr (.inl h')⟩
theorem inG_opt {y:Tn} {lz:Bool} {q:Gk} (hy:Nf y):∀ n,(optT y lz n).inG q↔0 < n∧y.inG q
 | 0=>by
  have e:optT y lz 0=emptyT:=rfl
  rw [e]
  exact ⟨fun h=>absurd h (not_empty q),fun h=>absurd h.1 (by omega)⟩
 | 1=>by
  have e:optT y lz 1=loopT 0 1 lz y:=rfl
  rw [e,inG_loop (by decide)]
  simp
 | n + 2=>by
  rw [optT_step,inG_loop (by decide),inG_join]
  ·constructor
   ·rintro ⟨x,hx,h0,hq⟩
    simp at hx
    rcases hx with rfl | rfl
    ·exact ⟨by omega,hq⟩
    ·exact ⟨by omega,((inG_opt hy (n + 1)).1 hq).2⟩
   ·rintro ⟨_,hq⟩
    exact ⟨(y,1),by simp,by simp,hq⟩
  ·intro x hx
   simp at hx
   rcases hx with rfl | rfl
   ·exact hy
   ·exact nf_opt lz hy (n + 1)
theorem inG_rep {y:Tn} {mn mx:Int} {lz:Bool} {q:Gk} (hy:Nf y) (h1:0≤mn) (h3:mx=-1∨mn≤mx∧mx≤1000):(repT y mn mx lz).inG q↔mx≠0∧y.inG q:=by
 unfold repT
 split
 ·rename_i hm
  rw [inG_join]
  ·constructor
   ·rintro ⟨x,hx,h0,hq⟩
    simp at hx
    rcases hx with rfl | rfl
    ·simp only at h0 hq;exact ⟨by omega,hq⟩
    ·simp only at h0 hq
     have:=(inG_opt hy _).1 hq
     exact ⟨by omega,this.2⟩
   ·rintro ⟨h0,hq⟩
    by_cases hmn:0 < mn
    ·exact ⟨(y,mn.toNat),by simp,by simp only;omega,hq⟩
    ·exact ⟨(optT y lz (mx - mn).toNat,1),by simp,by simp,(inG_opt hy _).2 ⟨by omega,hq⟩⟩
  ·intro x hx
   simp at hx
   rcases hx with rfl | rfl
   ·exact hy
   ·exact nf_opt lz hy _
 ·rename_i hm
  have hm':mx=-1:=by omega
  split
  ·rw [inG_loop (by decide)]
   simp [hm']
  ·rw [inG_join]
   ·constructor
    ·rintro ⟨x,hx,h0,hq⟩
     simp at hx
     rcases hx with rfl | rfl
     ·exact ⟨by omega,hq⟩
     ·exact ⟨by omega,(inG_loop (by decide)).1 hq⟩
    ·rintro ⟨_,hq⟩
     exact ⟨(loopT 1 (-1) lz y,1),by simp,by simp,(inG_loop (by decide)).2 hq⟩
   ·intro x hx
    simp at hx
    rcases hx with rfl | rfl
    ·exact hy
    ·exact .loop (.inr (.inr ⟨rfl,rfl⟩)) hy
mutual
theorem S_inG:∀ (t:Tn) (q:Gk),t.fine=true→(t.S.inG q↔t.inG q)
 | .mk k R a s mn mx lz ix nm,q,h=>by
  simp only [Tn.fine,Bool.and_eq_true] at h
  have ih:=SL_inG s q h.2
  have hnf:=nf_SL s h.2
  have hfk:=fine_kind h.1
  have hones:∀ x ∈ ones (SL s),Nf x.1:=fun x hx=>by obtain ⟨u,hu,rfl⟩:=List.mem_map.1 hx;exact hnf u hu
  have hon:(∃ x ∈ ones (SL s),0 < x.2∧x.1.inG q)↔inGL q s:=by
   rw [← ih]
   constructor
   ·rintro ⟨x,hx,_,hq⟩
    obtain ⟨u,hu,rfl⟩:=List.mem_map.1 hx
    exact inGL_iff.2 ⟨u,hu,hq⟩
   ·intro hq
    obtain ⟨u,hu,hq⟩:=inGL_iff.1 hq
    exact ⟨(u,1),List.mem_map.2 ⟨u,hu,rfl⟩,by simp,hq⟩
  have hhead:s.length=1→(((SL s).headD emptyT).inG q↔inGL q s)∧Nf ((SL s).headD emptyT):=fun hl=>by
   rw [← ih]
   match s,hl with
   | [u],_=>exact ⟨by simp [SL,inGL],hnf _ (by simp [SL])⟩
  simp only [Tn.S]
  split
  ·rename_i h4
   subst h4
   rw [inG_join hones,hon]
   simp [Tn.inG]
  ·split
   ·rename_i h4 h5
    subst h5
    rw [inG_row (.inr rfl),hon]
    simp [Tn.inG]
   ·split
    ·rename_i h6
     subst h6
     obtain ⟨hh,hN⟩:=hhead (by omega)
     rw [inG_rep hN (by omega) (by omega),hh]
     simp [Tn.inG]
    ·split
     ·rename_i h7
      subst h7
      obtain ⟨hh,hN⟩:=hhead (by omega)
      simp only [List.headD_eq_head?_getD] at hh
      simp [Tn.inG,inGL,hh]
     ·rename_i h4 h5 h6 h7
      have hz:s.length=0:=by
       rcases hfk with hh | hh | hh | hh
       ·exact hh.2.1
       ·exact absurd hh.1 (by omega)
       ·exact absurd hh.1 h6
       ·exact absurd hh.1 h7
      have hz:=List.length_eq_zero_iff.1 hz
      subst hz
      simp [Tn.inG,inGL]
theorem SL_inG:∀ (ts:List Tn) (q:Gk),fineL ts=true→(inGL q (SL ts)↔inGL q ts)
 | [],q,_=>by simp [SL]
 | t :: ts,q,h=>by
  simp only [fineL,Bool.and_eq_true] at h
  simp only [SL,inGL]
  rw [S_inG t q h.1,SL_inG ts q h.2]
end
end Go.Proofs.YtacaanhnlfpbhaaGreat
