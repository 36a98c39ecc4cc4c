/- HELPERS: texts of ours put together. -/
import Derived.Test.YtacaanhnlfpbhaaGreatK16
import Derived.Test.YtacaanhnlfpbhaaGreatK15
import Derived.Test.YtacaanhnlfpbhaaGreatK13
import Derived.Test.YtacaanhnlfpbhaaGreatK03
import Derived.Test.YtacaanhnlfpbhaaGreatK06
import Derived.Laws.EntriesVeiled
namespace Go.Proofs.YtacaanhnlfpbhaaGreat
open Go.RowKit
set_option linter.unusedVariables false
set_option linter.unusedSimpArgs false
structure PS (t:Tn) (K:Nat) (tx:List Int) (p:Nat) (l:List (Int × List Int)):Prop where
 ex:∃ (E:Nat→Way) (W:Way) (n1:Int) (s':Sg),Beg E t 1 (.once 1 .through) n1 W∧(∀ b,Gw (E b)∧(E b).ua=[])∧Gw W∧Ex tx E W p ⟨[],(List.replicate K (-1)).set 0 (p:Int),[]⟩ s'∧l=s'.parses
def envOf (LE:List (Nat × Way)) (b:Nat):Way:=((LE.find? fun p=>p.1 == b).map Prod.snd).getD (.inOrder [])
theorem envOf_mem:∀ (LE:List (Nat × Way)),(LE.map Prod.fst).Nodup→∀ p ∈ LE,envOf LE p.1=p.2:=by
 intro LE
 induction LE with
 | nil=>intro _ p hp;cases hp
 | cons q LE ih =>
  intro hn p hp
  simp only [List.map_cons,List.nodup_cons] at hn
  simp only [List.mem_cons] at hp
  rcases hp with rfl | hp
  ·simp [envOf]
  ·have hne:q.1≠p.1:=fun e=>hn.1 (by rw [e];exact List.mem_map_of_mem hp)
   have:=ih hn.2 p hp
   simp only [envOf,List.find?_cons] at this ⊢
   rw [show (q.1 == p.1)=false by simpa using hne]
   exact this
theorem envOf_good (LE:List (Nat × Way)) (h:∀ p ∈ LE,Gw p.2∧p.2.ua=[]) (b:Nat):Gw (envOf LE b)∧(envOf LE b).ua=[]:=by
 unfold envOf
 cases hf:LE.find? fun p=>p.1 == b with
 | none=>exact ⟨.inOrder .nil,by simp [Way.ua,uaL]⟩
 | some p=>exact h p (List.mem_of_find?_eq_some hf)
theorem walks_from (t:Tn) (K g p:Nat) (tx:List Int) (ad:Option Addr) (tn tcap lo:Nat) (n1:Int) (W:Way) (u:Value) (F FE B:List Nat) (C:Cx) (LE:List (Nat × Way)) (w w':World) (htx:Look.TextAt w.heap.size w ad tn tx) (htc:tn≤tcap) (htn:tn≤64) (hb:Below w.heap.size w w') (hg:g=w.heap.size + 1 + 1)
  (hW:WS w.heap.size w' g C ⟨[],List.replicate K (-1),[]⟩ B) (htv:C.tv=.slice ad tn tcap) (hh:∃ hb,TX w' C.hv (hols tx) [hb]∧w.heap.size≤hb∧hb ∉ B∧hb < w'.heap.size) (hwh:C.wh=u) (hCK:C.K=K) (hR:Rep g K AL w' u W F) (hgw:Gw W)
  (hB:BgR g K lo [] (fun E=>Beg E t 1 (.once 1 .through) n1 W) W.ags LE FE w') (aF:∀ k ∈ F,k ∉ B) (aE:∀ k ∈ FE,k ∉ B) (aB:∀ k ∈ B,w.heap.size≤k) (hp:p≤tn) :
  ∃ l,PS t K tx p l∧l.length≤65∧Calls Tryz.prog 45 #[pt g,.int .i64 (p:Int)] w' fun e w''=>∃ pv,e=.returned pv∧ParsedD w.heap.size w'' pv l∧Below w.heap.size w w'':=by
 obtain ⟨hb1,hT2,h3,h4,h5⟩:=hh
 have hlen:=htx.1
 have hE:=envOf_good LE hB.wf
 have hrel:=hB.rel (envOf LE) (envOf_mem LE hB.nd)
 obtain ⟨s',hx,hpar,hl2,hno⟩:=good_all (tx:=tx) (E:=envOf LE) (top:=1000000000) (fun b=>⟨(hE b).1.tg,(hE b).2⟩) _ ⟨[],(List.replicate K (-1)).set 0 (p:Int),[]⟩ W p (Nat.le_refl _) hgw.tg (by omega)
 have hcount:s'.parses.length≤65:=by
  have h1:left1 tx.length ⟨[],(List.replicate K (-1)).set 0 (p:Int),[]⟩≤tx.length + 1:=by
   unfold left1
   exact Nat.le_trans List.countP_le_length (by simp)
  simp only [List.length_nil] at hpar
  omega
 have hL:∀ b ∈ W.ags,b ∈ LE.map Prod.fst:=fun b hb=>by
  rcases hB.agw b hb with h | h
  ·cases h
  ·exact h
 have hLL:∀ q ∈ LE,∀ b ∈ q.2.ags,b ∈ LE.map Prod.fst:=fun q hq b hb=>by
  rcases hB.agl q hq b hb with h | h
  ·cases h
  ·exact h
 refine ⟨s'.parses,⟨envOf LE,W,n1,s',hrel,hE,hgw,hx,rfl⟩,hcount,?_⟩
 obtain ⟨tb,hT1,htb⟩:∃ tb:List Nat,TX w' C.tv tx tb∧∀ k ∈ tb,k < w.heap.size:=by
  obtain ⟨e1,e2,h | ⟨b,off,ha,hbN,hc⟩⟩:=htx.below hb
  ·exact ⟨[],⟨ad,tcap,by rw [htv,e1],by omega,.inl (by omega)⟩,fun k hk=>by cases hk⟩
  ·exact ⟨[b],⟨ad,tcap,by rw [htv,e1],by omega,.inr ⟨b,off,ha,by simp,by have:=hb.size;omega,fun k hk=>hc k (by omega)⟩⟩,fun k hk=>by simp at hk;omega⟩
 have hwide:∀ {v:Value} {l:List Int} {G G':List Nat},TX w' v l G→(∀ k ∈ G,k ∈ G')→TX w' v l G':=fun h hG=>by
  obtain ⟨a,c,e1,e2,h | ⟨b,off,ha,hbN,hc⟩⟩:=h
  ·exact ⟨a,c,e1,e2,.inl h⟩
  ·exact ⟨a,c,e1,e2,.inr ⟨b,off,ha,hG b hbN,hc⟩⟩
 have hs:=hb.size
 refine (from32g w.heap.size g p C (fun b=>b ∈ LE.map Prod.fst) (envOf LE) W tx ⟨[],List.replicate K (-1),[]⟩ s' u F FE (tb ++ [hb1]) B w' hs hW hwh (by rw [hCK];exact hR.only hL) (fun b hbm=>?_) true (fun k=>(hE k).1.few) hgw.few
  ⟨hwide hT1 (fun k hk=>by simp [hk]),fun _=>hwide hT2 (fun k hk=>by simp at hk;simp [hk])⟩ (by omega) aF aE (fun k hk=>?_) hB.low (fun k hk=>?_) (by omega) (by omega) hx).mono ?_
 ·simp only [List.mem_map] at hbm
  obtain ⟨q,hq,rfl⟩:=hbm
  obtain ⟨a1,v,F',a2,a3,a4⟩:=hB.env q hq
  rw [envOf_mem LE hB.nd q hq,hCK]
  exact ⟨a1,v,F',a2,a3.only (hLL q hq),a4⟩
 ·rcases List.mem_append.1 hk with h | h
  ·intro hm
   have:=aB k hm
   have:=htb k h
   omega
  ·simp at h
   rw [h]
   exact h4
 ·rcases List.mem_append.1 hk with h | h
  ·have:=htb k h;omega
  ·simp at h;omega
 ·rintro e w'' ⟨pv,rfl,hP,B',hC⟩
  exact ⟨pv,rfl,hP,hb.trans (hC.below hs aB)⟩
mutual
def Way.upto (k:Int):Way→Prop
 | .through=>True
 | .once n d=>n≤k∧d.upto k
 | .noted _ d=>d.upto k
 | .runeOf _ d=>d.upto k
 | .ifHolds _ d=>d.upto k
 | .inOrder l=>uptoL k l
 | .again b=>True
def uptoL (k:Int):List Way→Prop
 | []=>True
 | d :: l=>d.upto k∧uptoL k l
end
mutual
theorem one_ext {Bd Bd':Int→Way} {A A':Nat→Prop} {k k':Int} (hk:k≤k') (hB:∀ m,m≤k→Bd' m=Bd m) (hA:∀ b,A b→A' b):∀ (W:Way),W.one Bd A→W.upto k→W.one Bd' A'∧W.upto k'
 | .through,h,_=>by simp [Way.one] at h
 | .once n d,h,hu=>by
  simp only [Way.one,Way.upto] at h hu ⊢
  obtain ⟨h1,⟨rfl,rfl⟩ | ⟨h2,h3⟩⟩:=h
  ·exact ⟨⟨(hB _ hu.1).trans h1,.inl ⟨rfl,rfl⟩⟩,by omega,hu.2⟩
  ·have:=one_ext hk hB hA d h3 hu.2
   exact ⟨⟨(hB _ hu.1).trans h1,.inr ⟨h2,this.1⟩⟩,by omega,this.2⟩
 | .noted _ d,h,hu=>by simp only [Way.one,Way.upto] at h hu ⊢;exact one_ext hk hB hA d h hu
 | .runeOf _ d,h,hu=>by simp only [Way.one,Way.upto] at h hu ⊢;exact one_ext hk hB hA d h hu
 | .ifHolds _ d,h,hu=>by simp only [Way.one,Way.upto] at h hu ⊢;exact one_ext hk hB hA d h hu
 | .inOrder l,h,hu=>by simp only [Way.one,Way.upto] at h hu ⊢;exact oneL_ext hk hB hA l h hu
 | .again b,h,hu=>by simp only [Way.one,Way.upto] at h hu ⊢;exact ⟨hA b h,trivial⟩
theorem oneL_ext {Bd Bd':Int→Way} {A A':Nat→Prop} {k k':Int} (hk:k≤k') (hB:∀ m,m≤k→Bd' m=Bd m) (hA:∀ b,A b→A' b):∀ (l:List Way),oneL Bd A l→uptoL k l→oneL Bd' A' l∧uptoL k' l
 | [],_,_=>by simp [oneL,uptoL]
 | d :: l,h,hu=>by
  simp only [oneL,uptoL] at h hu ⊢
  have h1:=one_ext hk hB hA d h.1 hu.1
  have h2:=oneL_ext hk hB hA l h.2 hu.2
  exact ⟨⟨h1.1,h2.1⟩,h1.2,h2.2⟩
end
theorem oneL_snoc {Bd:Int→Way} {A:Nat→Prop} {k:Int} {d:Way} (hd:d.one Bd A) (hu:d.upto k):∀ {l:List Way},oneL Bd A l→uptoL k l→oneL Bd A (l ++ [d])∧uptoL k (l ++ [d]):=by
 intro l
 induction l with
 | nil=>intro _ _;simp [oneL,uptoL,hd,hu]
 | cons e l ih =>
  intro h1 h2
  simp only [oneL,uptoL,List.cons_append] at h1 h2 ⊢
  have:=ih h1.2 h2.2
  exact ⟨⟨h1.1,this.1⟩,h2.1,this.2⟩
structure Ext (E:Nat→Way) (n:Int) (Bd:Int→Way) (A:Nat→Prop) (n1:Int) (Bd':Int→Way) (A':Nat→Prop):Prop where
 le:n≤n1
 bd:∀ m,m≤n→Bd' m=Bd m
 sub:∀ b,A b→A' b
 new:∀ b,A' b→A b∨((E b).one Bd' A'∧(E b).upto n1)
section
variable {E:Nat→Way}
theorem Ext.refl (n:Int) (Bd:Int→Way) (A:Nat→Prop):Ext E n Bd A n Bd A:=⟨Int.le_refl _,fun _ _=>rfl,fun _ h=>h,fun _ h=>.inl h⟩
theorem Ext.one {n n1:Int} {Bd Bd':Int→Way} {A A':Nat→Prop} (h:Ext E n Bd A n1 Bd' A') {W:Way} (h1:W.one Bd A) (h2:W.upto n):W.one Bd' A'∧W.upto n1:=one_ext h.le h.bd h.sub W h1 h2
theorem Ext.trans {n n1 n2:Int} {Bd Bd1 Bd2:Int→Way} {A A1 A2:Nat→Prop} (h:Ext E n Bd A n1 Bd1 A1) (h':Ext E n1 Bd1 A1 n2 Bd2 A2):Ext E n Bd A n2 Bd2 A2:=
 ⟨Int.le_trans h.le h'.le,fun m hm=>(h'.bd m (Int.le_trans hm h.le)).trans (h.bd m hm),fun b hb=>h'.sub b (h.sub b hb),fun b hb=>by
  rcases h'.new b hb with hb | hb
  ·rcases h.new b hb with hb | hb
   ·exact .inl hb
   ·exact .inr (h'.one hb.1 hb.2)
  ·exact .inr hb⟩
def upd (Bd:Int→Way) (n:Int) (W:Way):Int→Way:=fun m=>if m=n then W else Bd m
theorem Ext.thing (n:Int) (Bd:Int→Way) (A:Nat→Prop) (W:Way):Ext E n Bd A (n + 1) (upd Bd (n + 1) W) A:=⟨by omega,fun m hm=>by simp only [upd];rw [if_neg (by omega)],fun _ h=>h,fun _ h=>.inl h⟩
def OneM (E:Nat→Way) (n:Int) (B:Way) (n1:Int) (W:Way):Prop:=∀ Bd A,1≤n→B.one Bd A→B.upto n→∃ Bd' A',Ext E n Bd A n1 Bd' A'∧W.one Bd' A'∧W.upto n1
theorem OneM.self (n:Int) (B:Way):OneM E n B n B:=fun Bd A _ h1 h2=>⟨Bd,A,.refl _ _ _,h1,h2⟩
theorem OneM.seq {n n1 n2:Int} {B W W':Way} (h:OneM E n B n1 W) (h':OneM E n1 W n2 W'):OneM E n B n2 W':=fun Bd A hn h1 h2=>by
 obtain ⟨Bd1,A1,e1,a1,b1⟩:=h Bd A hn h1 h2
 obtain ⟨Bd2,A2,e2,a2,b2⟩:=h' Bd1 A1 (by have:=e1.le;omega) a1 b1
 exact ⟨Bd2,A2,e1.trans e2,a2,b2⟩
theorem thing_one {n:Int} {Bd:Int→Way} {A:Nat→Prop} {W:Way} (hn:1≤n) (h1:W.one Bd A) (h2:W.upto n):(Way.once (n + 1) W).one (upd Bd (n + 1) W) A∧(Way.once (n + 1) W).upto (n + 1):=by
 have:=(Ext.thing (E:=fun _=>.through) n Bd A W).one h1 h2
 simp only [Way.one,Way.upto]
 exact ⟨⟨by simp [upd],.inr ⟨by omega,this.1⟩⟩,Int.le_refl _,this.2⟩
theorem OneM.thing {n n1:Int} {B W:Way} (h:OneM E n B n1 W):OneM E n B (n1 + 1) (.once (n1 + 1) W):=fun Bd A hn h1 h2=>by
 obtain ⟨Bd1,A1,e1,a1,b1⟩:=h Bd A hn h1 h2
 have:=thing_one (n:=n1) (by have:=e1.le;omega) a1 b1
 exact ⟨_,A1,e1.trans (.thing n1 Bd1 A1 W),this.1,this.2⟩
theorem OneM.map {n n1:Int} {B B' W W':Way} (h:OneM E n B n1 W) (hB:∀ Bd A k,B'.one Bd A→B'.upto k→B.one Bd A∧B.upto k) (hW:∀ Bd A k,W.one Bd A→W.upto k→W'.one Bd A∧W'.upto k):OneM E n B' n1 W':=fun Bd A hn h1 h2=>by
 have hb:=hB Bd A n h1 h2
 obtain ⟨Bd1,A1,e1,a1,b1⟩:=h Bd A hn hb.1 hb.2
 exact ⟨Bd1,A1,e1,hW _ _ _ a1 b1⟩
theorem Ext.round {n n2:Int} {b:Nat} {B:Way} {Bd:Int→Way} {A:Nat→Prop} (lz:Bool) (hn:1≤n) (h1:B.one Bd A) (h2:B.upto n) (h:OneM E (n + 1) (Dcd lz n b B) n2 (E b)) :
  ∃ Bd' A',Ext E n Bd A n2 Bd' A'∧(E b).one Bd' A'∧(E b).upto n2∧(Dcd lz n b B).one Bd' A'∧(Dcd lz n b B).upto n2:=by
 obtain ⟨I,hI⟩:∃ I,I=Way.inOrder (if lz=true then [B,.again b] else [.again b,B]):=⟨_,rfl⟩
 have hD:Dcd lz n b B=.once (n + 1) I:=by rw [hI]
 obtain ⟨A1,hA1⟩:∃ A1:Nat→Prop,A1=fun x=>A x∨x=b:=⟨_,rfl⟩
 have hB:=one_ext (k:=n) (k':=n) (Bd:=Bd) (Bd':=Bd) (A:=A) (A':=A1) (Int.le_refl _) (fun _ _=>rfl) (fun x hx=>by rw [hA1];exact .inl hx) B h1 h2
 have hb:A1 b:=by rw [hA1];exact .inr rfl
 have hI1:I.one Bd A1∧I.upto n:=by
  rw [hI]
  simp only [Way.one,Way.upto]
  cases lz <;> simp [oneL,uptoL,hB.1,hB.2,Way.one,Way.upto,hb]
 have hT:=thing_one hn hI1.1 hI1.2
 rw [hD] at h ⊢
 obtain ⟨Bd2,A2,e2,a2,b2⟩:=h _ A1 (by omega) hT.1 hT.2
 have hE:=e2.one hT.1 hT.2
 refine ⟨Bd2,A2,⟨by have:=e2.le;omega,fun m hm=>(e2.bd m (by omega)).trans (by simp only [upd];rw [if_neg (by omega)]),fun x hx=>e2.sub x (by rw [hA1];exact .inl hx),fun x hx=>?_⟩,a2,b2,hE.1,hE.2⟩
 rcases e2.new x hx with hx | hx
 ·rw [hA1] at hx
  rcases hx with hx | rfl
  ·exact .inl hx
  ·exact .inr ⟨a2,b2⟩
 ·exact .inr hx
theorem Beg.ones {t:Tn} {n n1:Int} {B W:Way} (h:Beg E t n B n1 W):OneM E n B n1 W:=by
 refine Beg.rec (motive_1:=fun t n B n1 W _=>OneM E n B n1 W) (motive_2:=fun ts n B n1 W _=>OneM E n B n1 W)
  (motive_3:=fun ts n B n1 Ws _=>∀ Bd A,1≤n→B.one Bd A→B.upto n→∃ Bd' A',Ext E n Bd A n1 Bd' A'∧oneL Bd' A' Ws∧uptoL n1 Ws)
  (motive_4:=fun t c n B n1 W _=>OneM E n B n1 W) (motive_5:=fun t lz B c n n1 W _=>OneM E n B n1 W)
  ?_ ?_ ?_ ?_ ?_ ?_ ?_ ?_ ?_ ?_ ?_ ?_ ?_ ?_ ?_ ?_ ?_ h
 ·intro R a s mn mx lz ix nm n B
  exact (OneM.self n B).thing
 ·intro R a s mn mx lz ix nm n B
  exact ((OneM.self n B).map (fun _ _ _ h1 h2=>⟨h1,h2⟩) (fun _ _ _ h1 h2=>by simp only [Way.one,Way.upto];exact ⟨h1,h2⟩)).thing
 ·intro R a s mn mx lz ix nm n B
  exact ((OneM.self n B).map (fun _ _ _ h1 h2=>⟨h1,h2⟩) (fun _ _ _ h1 h2=>by simp only [Way.one,Way.upto];exact ⟨h1,h2⟩)).thing
 ·intro R a s mn mx lz ix nm n n' B W _ h
  exact h
 ·intro R a s mn mx lz ix nm n n' B Ws _ h
  refine OneM.thing fun Bd A hn h1 h2=>?_
  obtain ⟨Bd1,A1,e1,a1,b1⟩:=h Bd A hn h1 h2
  exact ⟨Bd1,A1,e1,by simp only [Way.one];exact a1,by simp only [Way.upto];exact b1⟩
 ·intro R a t mn mx lz i nm n n' B W _ h
  exact (h.map (fun _ _ _ h1 h2=>by simp only [Way.one,Way.upto];exact ⟨h1,h2⟩) (fun _ _ _ h1 h2=>by simp only [Way.one,Way.upto];exact ⟨h1,h2⟩)).thing
 ·intro R a t lz ix nm n n2 b B _ h Bd A hn h1 h2
  obtain ⟨Bd2,A2,e2,a2,b2,d2⟩:=Ext.round lz hn h1 h2 h
  exact ⟨Bd2,A2,e2,d2⟩
 ·intro R a t c lz ix nm n n2 n3 b B W3 _ _ h hT
  refine OneM.seq (fun Bd A hn h1 h2=>?_) hT
  obtain ⟨Bd2,A2,e2,a2,b2,d2⟩:=Ext.round lz hn h1 h2 h
  exact ⟨Bd2,A2,e2,a2,b2⟩
 ·intro R a t c m lz ix nm n n1 n2 B W1 W2 _ _ hO hT
  exact hO.seq hT
 ·intro n B
  exact .self n B
 ·intro t ts n n1 n2 B W1 W2 _ _ h h2
  exact h.seq h2
 ·intro n B Bd A _ _ _
  exact ⟨Bd,A,.refl _ _ _,by simp [oneL],by simp [uptoL]⟩
 ·intro t ts n n1 n2 B W2 Ws _ _ hl hl2 Bd A hn h1 h2
  obtain ⟨Bd1,A1,e1,a1,b1⟩:=hl Bd A hn h1 h2
  have hb:=e1.one h1 h2
  obtain ⟨Bd2,A2,e2,a2,b2⟩:=hl2 Bd1 A1 (by have:=e1.le;omega) hb.1 hb.2
  have hL:=oneL_ext e2.le e2.bd e2.sub Ws a1 b1
  have hS:=oneL_snoc a2 b2 hL.1 hL.2
  exact ⟨Bd2,A2,e1.trans e2,hS.1,hS.2⟩
 ·intro t n W
  exact .self n W
 ·intro t c n n1 n2 W W1 W2 _ _ h h2
  exact h.seq h2
 ·intro t lz B n
  exact .self n B
 ·intro t lz B c n n1 n2 W1 W2 _ _ h h2
  refine OneM.thing fun Bd A hn h1 h3=>?_
  obtain ⟨Bd1,A1,e1,a1,b1⟩:=(h.seq h2) Bd A hn h1 h3
  have hb:=e1.one h1 h3
  refine ⟨Bd1,A1,e1,?_,?_⟩
  ·simp only [Way.one]
   cases lz <;> simp [oneL,a1,hb.1]
  ·simp only [Way.upto]
   cases lz <;> simp [uptoL,b1,hb.2]
end
def errP (t:Tn) (tn:Nat) (at_:Int):Int:=if 64 < tn then 2 else if t.sound=false then 50 else if 2000 < t.sz then 3 else if at_ < 0∨(tn:Int) < at_ then 1 else 0
theorem fine_gi:∀ (t:Tn),t.fine=true→0≤t.gi∧t.gi≤500:=by
 have key:∀ (ts:List Tn) (m:Int),(∀ t ∈ ts,t.gi≤500)→m≤500→giL ts m≤500:=by
  intro ts
  induction ts with
  | nil=>intro m _ h;simpa [giL] using h
  | cons t ts ih=>intro m h1 h2;simp only [giL];exact ih _ (fun u hu=>h1 u (by simp [hu])) (by have:=h1 t (by simp);omega)
 have hix:∀ {k:Int} {R:List (Int × Int)} {a:Int} {n:Nat} {mn mx:Int} {lz:Bool} {ix:Int} {nm:ByteArray},nodeB k R a n mn mx lz ix nm=true→0≤ix∧ix≤500:=fun h=>by
  have FN:=fine_nodeZ h
  rename_i k _ _ _ _ _ _ _ _
  by_cases h7:k=7
  ·have:=FN.grp h7;omega
  ·have:=FN.idx h7;omega
 intro t
 obtain ⟨d,hd⟩:∃ d,t.depth≤d:=⟨_,Nat.le_refl _⟩
 induction d generalizing t with
 | zero=>cases t;simp [Tn.depth] at hd
 | succ d ih =>
  cases t with
  | mk k R a s mn mx lz ix nm =>
   intro hf
   simp only [Tn.fine,Bool.and_eq_true] at hf
   simp only [Tn.depth] at hd
   have hi:=hix hf.1
   have hs:∀ u ∈ s,u.gi≤500:=by
    intro u hu
    have hdu:u.depth≤d:=by
     have:∀ (l:List Tn),u ∈ l→u.depth≤depthL l:=by
      intro l
      induction l with
      | nil=>intro h;cases h
      | cons v l ihl =>
       intro h
       simp only [List.mem_cons] at h
       simp only [depthL]
       rcases h with rfl | h
       ·omega
       ·have:=ihl h;omega
     have:=this s hu
     omega
    obtain ⟨i,hi2,rfl⟩:=List.mem_iff_getElem.1 hu
    exact (ih _ hdu (fineL_get hf.2 i hi2)).2
   simp only [Tn.gi]
   exact ⟨by have:=(giL_ge s ix).1;omega,key s ix hs hi.2⟩
theorem sound_parts {t:Tn} (h:t.sound=true):t.fine=true∧t.depth≤10000∧t.nodes≤200000:=by
 simp only [Tn.sound,Bool.and_eq_true,decide_eq_true_eq] at h
 exact ⟨h.1.1,h.1.2,h.2⟩
abbrev Tn.notes (t:Tn):Nat:=(2 * t.gi + 2).toNat
theorem walks31 (N:Nv) (t:Tn) (tx:List Int) (ad:Option Addr) (tn tcap p:Nat) (w:World) (hTI:TI w w.heap.size N t) (hs:t.sound=true) (hz:t.sz≤2000) (htx:Look.TextAt w.heap.size w ad tn tx) (htc:tn≤tcap) (htn:tn≤64) (hp:p≤tn) :
  Calls Tryz.prog 44 #[N.v,.slice ad tn tcap] w fun e w'=>∃ g l,e=.returned (pt g)∧PS t t.notes tx p l∧l.length≤65∧Calls Tryz.prog 45 #[pt g,.int .i64 (p:Int)] w' fun e2 w''=>∃ pv,e2=.returned pv∧ParsedD w.heap.size w'' pv l∧Below w.heap.size w w'':=by
 obtain ⟨hf,_,hno⟩:=sound_parts hs
 have hgi:=fine_gi t hf
 have hBG:=fun A=>begin53 hTI (w.heap.size + 1 + 1) t.notes A (by omega) hf hno (by simp only [Tn.notes];omega)
 refine (newWalks31g N.nd N.k tx ad tn tcap t.notes t.gi w htx htn (by simp only [Tn.notes];omega) hgi (fun w' hb=>greatestg52 hTI w' hb.size (fun b hb2=>hb.block b hb2))
  (fun n W F FE w'=>Gw W∧∃ lo LE,BgR (w.heap.size + 1 + 1) t.notes lo [] (fun E=>Beg E t 1 (.once 1 .through) n W) W.ags LE FE w') (fun n W F FE w' w'' h h1 h2=>by obtain ⟨hg,lo,LE,hB⟩:=h;exact ⟨hg,lo,LE,hB.stab h1 h2⟩)
  (fun A w' v F0 hb hO hR hg hF=>?_)).mono ?_
 ·refine (hBG A w' v 1 (.once 1 .through) F0 hb.size (fun b hb2=>hb.block b hb2) hO hR hg ⟨by simp [Way.tg],by simp [Way.few]⟩ (by omega) ?_).mono ?_
  ·have:t.sz * t.sz≤2000 * 2000:=Nat.mul_le_mul hz hz
   omega
  ·rintro e w'' ⟨u,F,FE,n1,W,rfl,hM,⟨LE,hB⟩,hE,h1,h2,h3,h4⟩
   exact ⟨u,F,FE,n1,W,rfl,hM,⟨h3,_,LE,hB⟩,hE⟩
 ·rintro e w' ⟨g,u,F,FE,B,C,n1,W,rfl,rfl,hW,htv,hh,hwh,hCK,hR,⟨hgw,lo,LE,hB⟩,aF,aE,aB,hb⟩
  obtain ⟨l,h1,h2,h3⟩:=walks_from t t.notes (w.heap.size + 1 + 1) p tx ad tn tcap lo n1 W u F FE B C LE w w' htx htc htn hb rfl hW htv hh hwh hCK hR hgw hB aF aE aB hp
  exact ⟨_,l,rfl,h1,h2,h3⟩
theorem PR.le {N N':Nat} {w:World} {cs:List Value} {l:List (Int × List Int)} {F:List Nat} (h:PR N w cs l F) (hN:N'≤N):PR N' w cs l F:=by
 induction h with
 | nil=>exact .nil
 | cons h hl ih=>exact .cons (Joins.ownsRow_le h hN) ih
def AnswersD (t:Tn) (tx:List Int) (tn:Nat) (at_:Int) (w:World) (e:Ending) (w':World):Prop:=
 ∃ pv l,e=.returned (.tuple #[pv,.int .i64 (errP t tn at_)])∧ParsedD w.heap.size w' pv l∧(errP t tn at_=0→PS t t.notes tx at_.toNat l∧l.length≤65)∧(errP t tn at_≠0→pv=.slice none 0 0∧l=[])∧Below w.heap.size w w'
theorem answersD_none {t:Tn} {tx:List Int} {tn:Nat} {at_ x:Int} {w w':World} (hx:errP t tn at_=x) (h0:x≠0) (hb:Below w.heap.size w w'):AnswersD t tx tn at_ w (.returned (.tuple #[.slice none 0 0,.int .i64 x])) w':=by
 subst hx
 exact ⟨.slice none 0 0,[],rfl,⟨[],[],World.ownsRow_nil _ _ _ _,.nil,List.nodup_nil⟩,fun h=>absurd h h0,fun _=>⟨rfl,rfl⟩,hb⟩
set_option maxRecDepth 100000 in
set_option maxHeartbeats 4000000 in
theorem parses13D (N:Nv) (t:Tn) (tx:List Int) (ad:Option Addr) (tn tcap:Nat) (at_:Int) (w:World) (hTI:TI w w.heap.size N t) (htx:Look.TextAt w.heap.size w ad tn tx) (htc:tn≤tcap) :
  Calls Tryz.prog 13 #[N.v,.slice ad tn tcap,.int .i64 at_] w fun e w'=>AnswersD t tx tn at_ w e w':=by
 have htm:tn≤35184372088832:=htx.2.1
 have hb0:Below w.heap.size w (w.alloc (.cells #[.int .i64 N.k,.slice N.r1 N.r2 N.r3,.int .i64 N.a2,.slice N.s1 N.s2 N.s3,.int .i64 N.a4,.int .i64 N.a5,.bool N.a6,.int .i64 N.a7,.string N.a8] 25)):=Joins.below_alloc1 w _
 have HB0:=hid hb0
 by_cases c1:64 < tn
 ·have e1:errP t tn at_=2:=by simp [errP,c1]
  have HA:∀ w',Below w.heap.size w w'→AnswersD t tx tn at_ w (.returned (.tuple #[.slice none 0 0,.int .i64 2])) w':=fun w' h=>answersD_none e1 (by decide) h
  have HHA:=hid HA
  have b1:decide ((tn:Int) > 64)=true:=by simp;omega
  have b1':decide (64 < (tn:Int))=true:=by simp;omega
  obtain ⟨k,r1,r2,r3,a2,s1,s2,s3,a4,a5,a6,a7,a8⟩:=N
  obtain ⟨Q,hQ⟩:∃ Q,Q=AnswersD t tx tn at_ w:=⟨_,rfl⟩
  rw [← hQ] at HHA ⊢
  clear HA hTI htx e1 hQ hb0
  go_enter Tryz.func13,Tryz.ntmps13
  go_wp2
  try go_ret2
  exact HHA.out _ HB0.out
 have b1:decide ((tn:Int) > 64)=false:=by simp;omega
 have b1':decide (64 < (tn:Int))=false:=by simp;omega
 have hT1:∀ w1,Below w.heap.size w w1→TI w1 w1.heap.size N t:=fun w1 h=>(hTI.kept fun b hb=>h.block b hb).le h.size
 have H29:=sound29g (hT1 _ hb0)
 cases hs:t.sound with
 | false =>
  have e1:errP t tn at_=50:=by simp [errP,c1,hs]
  have HA:∀ w',Below w.heap.size w w'→AnswersD t tx tn at_ w (.returned (.tuple #[.slice none 0 0,.int .i64 50])) w':=fun w' h=>answersD_none e1 (by decide) h
  have HHA:=hid HA
  rw [hs] at H29
  obtain ⟨k,r1,r2,r3,a2,s1,s2,s3,a4,a5,a6,a7,a8⟩:=N
  obtain ⟨Q,hQ⟩:∃ Q,Q=AnswersD t tx tn at_ w:=⟨_,rfl⟩
  rw [← hQ] at HHA ⊢
  dsimp only at H29
  simp only [Bool.false_eq_true,if_false] at H29
  clear HA hTI htx e1 hQ hb0 hT1 hs
  go_enter Tryz.func13,Tryz.ntmps13
  go_wp2_with (first | (go_at_call 42;(with_reducible refine H29.mono ?_);rintro e w1 ⟨rfl,hb1⟩;have HB1:=hid hb1;clear hb1 H29))
  try go_ret2
  exact HHA.out _ (HB0.out.trans (Joins.below_le HB1.out (by simp)))
 | true =>
  obtain ⟨hf,_,hno⟩:=sound_parts hs
  have hT2:∀ w1,Below w.heap.size w w1→Calls Tryz.prog 43 #[N.v] w1 fun e w'=>e=.returned (.int .i64 (min 2001 t.sz:Nat))∧Below w1.heap.size w1 w':=fun w1 h=>size30g hTI hf hno w1 h.size (fun b hb=>h.block b hb)
  have hnode:∀ w1,Below (w.alloc (.cells #[.int .i64 N.k,.slice N.r1 N.r2 N.r3,.int .i64 N.a2,.slice N.s1 N.s2 N.s3,.int .i64 N.a4,.int .i64 N.a5,.bool N.a6,.int .i64 N.a7,.string N.a8] 25)).heap.size (w.alloc (.cells #[.int .i64 N.k,.slice N.r1 N.r2 N.r3,.int .i64 N.a2,.slice N.s1 N.s2 N.s3,.int .i64 N.a4,.int .i64 N.a5,.bool N.a6,.int .i64 N.a7,.string N.a8] 25)) w1→w1.heap[w.heap.size]?=some (.cells #[.int .i64 N.k,.slice N.r1 N.r2 N.r3,.int .i64 N.a2,.slice N.s1 N.s2 N.s3,.int .i64 N.a4,.int .i64 N.a5,.bool N.a6,.int .i64 N.a7,.string N.a8] 25 (0,0)):=fun w1 h=>(h.block w.heap.size (by simp)).trans (heap_alloc_new w _)
  rw [hs] at H29
  simp only [if_true] at H29
  have HN:=hid hnode
  have HT2:=hid hT2
  by_cases c3:2000 < t.sz
  ·have e1:errP t tn at_=3:=by simp [errP,c1,hs,c3]
   have HA:∀ w',Below w.heap.size w w'→AnswersD t tx tn at_ w (.returned (.tuple #[.slice none 0 0,.int .i64 3])) w':=fun w' h=>answersD_none e1 (by decide) h
   have HHA:=hid HA
   have b3:decide (((min 2001 t.sz:Nat):Int) > 2000)=true:=by simp;omega
   have b3':decide (2000 < ((min 2001 t.sz:Nat):Int))=true:=by simp;omega
   obtain ⟨r,hr⟩:∃ r,r=min 2001 t.sz:=⟨_,rfl⟩
   rw [← hr] at HT2 b3 b3'
   obtain ⟨k,r1,r2,r3,a2,s1,s2,s3,a4,a5,a6,a7,a8⟩:=N
   obtain ⟨Q,hQ⟩:∃ Q,Q=AnswersD t tx tn at_ w:=⟨_,rfl⟩
   rw [← hQ] at HHA ⊢
   dsimp only at H29 HN
   clear HA hTI htx e1 hQ hb0 hT1 hT2 hnode hs hf hno hr
   go_enter Tryz.func13,Tryz.ntmps13
   go_wp2_with (first | (go_at_call 42;(with_reducible refine H29.mono ?_);rintro e w1 ⟨rfl,hb1⟩;obtain ⟨o0,o1,o2,o3,o4,o5,o6,o7,o8⟩:=nine' (HN.out w1 hb1);have HC1:=HT2.out w1 (HB0.out.trans (Joins.below_le hb1 (by simp)));have HB1:=hid hb1;clear hb1 H29) | (go_at_call 43;(with_reducible refine HC1.mono ?_);rintro e w2 ⟨rfl,hb2⟩;have HB2:=hid hb2;clear hb2 HC1))
   try go_ret2
   exact HHA.out _ (HB0.out.trans (Joins.below_le (HB1.out.trans (Joins.below_le HB2.out HB1.out.size)) (by simp)))
  ·have b3:decide (((min 2001 t.sz:Nat):Int) > 2000)=false:=by simp;omega
   have b3':decide (2000 < ((min 2001 t.sz:Nat):Int))=false:=by simp;omega
   obtain ⟨r,hr⟩:∃ r,r=min 2001 t.sz:=⟨_,rfl⟩
   rw [← hr] at HT2 b3 b3'
   by_cases c4:at_ < 0∨(tn:Int) < at_
   ·have e1:errP t tn at_=1:=by simp [errP,c1,hs,c3,c4]
    have HA:∀ w',Below w.heap.size w w'→AnswersD t tx tn at_ w (.returned (.tuple #[.slice none 0 0,.int .i64 1])) w':=fun w' h=>answersD_none e1 (by decide) h
    have HHA:=hid HA
    obtain ⟨k,r1,r2,r3,a2,s1,s2,s3,a4,a5,a6,a7,a8⟩:=N
    obtain ⟨Q,hQ⟩:∃ Q,Q=AnswersD t tx tn at_ w:=⟨_,rfl⟩
    rw [← hQ] at HHA ⊢
    dsimp only at H29 HN
    clear HA hTI htx e1 hQ hb0 hT1 hT2 hnode hs hf hno hr
    by_cases c5:at_ < 0
    ·have b5:decide (at_ < 0)=true:=by simp;omega
     go_enter Tryz.func13,Tryz.ntmps13
     go_wp2_with (first | (go_at_call 42;(with_reducible refine H29.mono ?_);rintro e w1 ⟨rfl,hb1⟩;obtain ⟨o0,o1,o2,o3,o4,o5,o6,o7,o8⟩:=nine' (HN.out w1 hb1);have HC1:=HT2.out w1 (HB0.out.trans (Joins.below_le hb1 (by simp)));have HB1:=hid hb1;clear hb1 H29) | (go_at_call 43;(with_reducible refine HC1.mono ?_);rintro e w2 ⟨rfl,hb2⟩;have HB2:=hid hb2;clear hb2 HC1))
     try go_ret2
     exact HHA.out _ (HB0.out.trans (Joins.below_le (HB1.out.trans (Joins.below_le HB2.out HB1.out.size)) (by simp)))
    ·have b5:decide (at_ < 0)=false:=by simp;omega
     have b6:decide (at_ > (tn:Int))=true:=by simp;omega
     have b6':decide ((tn:Int) < at_)=true:=by simp;omega
     go_enter Tryz.func13,Tryz.ntmps13
     go_wp2_with (first | (go_at_call 42;(with_reducible refine H29.mono ?_);rintro e w1 ⟨rfl,hb1⟩;obtain ⟨o0,o1,o2,o3,o4,o5,o6,o7,o8⟩:=nine' (HN.out w1 hb1);have HC1:=HT2.out w1 (HB0.out.trans (Joins.below_le hb1 (by simp)));have HB1:=hid hb1;clear hb1 H29) | (go_at_call 43;(with_reducible refine HC1.mono ?_);rintro e w2 ⟨rfl,hb2⟩;have HB2:=hid hb2;clear hb2 HC1))
     try go_ret2
     exact HHA.out _ (HB0.out.trans (Joins.below_le (HB1.out.trans (Joins.below_le HB2.out HB1.out.size)) (by simp)))
   ·have e1:errP t tn at_=0:=by simp [errP,c1,hs,c3,c4]
    obtain ⟨p,hp⟩:∃ p:Nat,at_=(p:Int):=⟨at_.toNat,by omega⟩
    have b5:decide (at_ < 0)=false:=by simp;omega
    have b6:decide (at_ > (tn:Int))=false:=by simp;omega
    have b6':decide ((tn:Int) < at_)=false:=by simp;omega
    have hT3:∀ w1,Below w.heap.size w w1→Calls Tryz.prog 44 #[N.v,.slice ad tn tcap] w1 fun e w'=>∃ g l,e=.returned (pt g)∧PS t t.notes tx p l∧l.length≤65∧Calls Tryz.prog 45 #[pt g,.int .i64 at_] w' fun e2 w''=>∃ pv,e2=.returned pv∧ParsedD w1.heap.size w'' pv l∧Below w1.heap.size w1 w'':=fun w1 h=>by
     rw [hp]
     exact walks31 N t tx ad tn tcap p w1 (hT1 w1 h) hs (by omega) (text_below htx h h.size) htc (by omega) (by omega)
    have HT3:=hid hT3
    have HA:∀ (w1 w':World) (pv:Value) (l:List (Int × List Int)),Below w.heap.size w w1→PS t t.notes tx p l→l.length≤65→ParsedD w1.heap.size w' pv l→Below w1.heap.size w1 w'→AnswersD t tx tn at_ w (.returned (.tuple #[pv,.int .i64 0])) w':=fun w1 w' pv l h1 h2 h3 h4 h5=>by
     refine ⟨pv,l,by rw [e1],?_,fun _=>⟨by rw [hp];exact h2,h3⟩,fun h=>absurd e1 h,h1.trans (Joins.below_le h5 h1.size)⟩
     obtain ⟨cs,F,q1,q2,q3⟩:=h4
     exact ⟨cs,F,Joins.ownsRow_le q1 h1.size,q2.le h1.size,q3⟩
    have HHA:=hid HA
    obtain ⟨k,r1,r2,r3,a2,s1,s2,s3,a4,a5,a6,a7,a8⟩:=N
    obtain ⟨Q,hQ⟩:∃ Q,Q=AnswersD t tx tn at_ w:=⟨_,rfl⟩
    rw [← hQ] at HHA ⊢
    dsimp only at H29 HN
    clear HA hTI htx e1 hQ hb0 hT1 hT2 hT3 hnode hs hf hno hr hp
    go_enter Tryz.func13,Tryz.ntmps13
    go_wp2_with (first | (go_at_call 42;(with_reducible refine H29.mono ?_);rintro e w1 ⟨rfl,hb1⟩;obtain ⟨o0,o1,o2,o3,o4,o5,o6,o7,o8⟩:=nine' (HN.out w1 hb1);have HC1:=HT2.out w1 (HB0.out.trans (Joins.below_le hb1 (by simp)));have HB1:=hid hb1;clear hb1 H29) | (go_at_call 43;(with_reducible refine HC1.mono ?_);rintro e w2 ⟨rfl,hb2⟩;obtain ⟨p0,p1,p2,p3,p4,p5,p6,p7,p8⟩:=nine' (HN.out w2 (HB1.out.trans (Joins.below_le hb2 HB1.out.size)));have HC2:=HT3.out w2 (HB0.out.trans (Joins.below_le (HB1.out.trans (Joins.below_le hb2 HB1.out.size)) (by simp)));have HB2:=hid hb2;clear hb2 HC1 o0 o1 o2 o3 o4 o5 o6 o7 o8) | (go_at_call 44;(with_reducible refine HC2.mono ?_);rintro e w3 ⟨g,l,rfl,hps,hln,hC3⟩;have HPS:=hid hps;have HLN:=hid hln;clear HC2 hps hln) | (go_at_call 45;(with_reducible refine hC3.mono ?_);rintro e w4 ⟨pv,rfl,hP,hB⟩;obtain ⟨cs,FF,hrow,hPR⟩:=hP;obtain ⟨q1,q2,q3,rfl⟩:=row_slice hrow;have HP4:Hid (ParsedD w2.heap.size w4 (.slice q1 q2 q3) l):=⟨cs,FF,hrow,hPR⟩;have HB4:=hid hB;clear hB hC3 hrow hPR))
    try go_ret2
    exact HHA.out w2 w4 _ l (HB0.out.trans (Joins.below_le (HB1.out.trans (Joins.below_le HB2.out HB1.out.size)) (by simp))) HPS.out HLN.out HP4.out HB4.out
def Answers (t:Tn) (tx:List Int) (tn:Nat) (at_:Int) (w:World) (e:Ending) (w':World):Prop:=
 ∃ pv l,e=.returned (.tuple #[pv,.int .i64 (errP t tn at_)])∧Parsed w.heap.size w' pv l∧(errP t tn at_=0→PS t t.notes tx at_.toNat l∧l.length≤65)∧(errP t tn at_≠0→pv=.slice none 0 0∧l=[])∧Below w.heap.size w w'
theorem parses13g (N:Nv) (t:Tn) (tx:List Int) (ad:Option Addr) (tn tcap:Nat) (at_:Int) (w:World) (hTI:TI w w.heap.size N t) (htx:Look.TextAt w.heap.size w ad tn tx) (htc:tn≤tcap) :
  Calls Tryz.prog 13 #[N.v,.slice ad tn tcap,.int .i64 at_] w fun e w'=>Answers t tx tn at_ w e w':=
 (parses13D N t tx ad tn tcap at_ w hTI htx htc).mono fun e w' h=>by
  obtain ⟨pv,l,h1,h2,h3⟩:=h
  exact ⟨pv,l,h1,h2.parsed,h3⟩
end Go.Proofs.YtacaanhnlfpbhaaGreat
