/- HELPERS: texts of ours put together. -/
import Derived.Test.YtacaanhnlfpbhaaGreatK04
import Derived.Test.YtacaanhnlfpbhaaGreatK03
import Derived.Test.YtacaanhnlfpbhaaGreatK01
import Derived.Deep.SlicePairs
import Derived.RowKit
import Derived.Test.YtacaanhnlfpbhaaGreatK06
import Derived.Laws.EntriesVeiled
import Derived.Test.YtacaanhnlfpbhaaGreatK07
import Derived.Test.YtacaanhnlfpbhaaGreatK02
import Derived.WalkKit
import Derived.Laws.BitsLemmas
import Derived.Deep.RegionHeld2
import Derived.Lib.MinMax
import Derived.BigQuiet
import Derived.Deep.Cut
import Derived.Laws.StructEq
import Derived.Deep.DrawnRows
import Derived.Test.YtacaanhnlfpbhaaGreatK24
namespace Go.Proofs.YtacaanhnlfpbhaaGreat
open Go.RowKit
set_option linter.unusedVariables false
set_option linter.unusedSimpArgs false
theorem spreadL_snoc (ts:List Tn) (t:Tn):spreadL (ts ++ [t])=spreadL ts ++ [t.spread]:=by simp [spreadL_map]
theorem beg_spread {E E':Nat→Way} {t:Tn} {n' n1':Int} {B' W':Way} (h:Beg E' t n' B' n1' W'):∀ n B n1 W,Beg E t.spread n B n1 W→SM E E' false n B n1 W n' B' n1' W':=by
 refine Beg.rec (motive_1:=fun t n' B' n1' W' _=>∀ n B n1 W,Beg E t.spread n B n1 W→SM E E' false n B n1 W n' B' n1' W') (motive_2:=fun ts n' B' n1' W' _=>∀ n B n1 W,BegC E (spreadL ts) n B n1 W→SM E E' false n B n1 W n' B' n1' W')
  (motive_3:=fun ts n' B' n1' Ws' _=>∀ n B n1 Ws,BegA E (spreadL ts) n B n1 Ws→∀ G,G.drop=false→MInv n n' G→SimY G B B'→(∃ h,Hdp G B h)→∃ G',MInv n1 n1' G'∧GrowY E E' n n' G n1 n1' G'∧SimY G' (.inOrder Ws) (.inOrder Ws'))
  (motive_4:=fun t c n' B' n1' W' _=>∀ n B n1 W,BegT E t.spread c n B n1 W→SM E E' false n B n1 W n' B' n1' W') (motive_5:=fun t lz B' c n' n1' W' _=>∀ n B n1 W,BegO E t.spread lz B c n n1 W→SM E E' false n B n1 W n' B' n1' W')
  ?_ ?_ ?_ ?_ ?_ ?_ ?_ ?_ ?_ ?_ ?_ ?_ ?_ ?_ ?_ ?_ ?_ h
 ·intro R a s mn mx lz ix nm n' B' n B n1 W hr
  simp [Tn.spread] at hr
  obtain ⟨rfl,rfl⟩:=hr.empties
  exact SM.pair fun G _ hI hS _=>⟨G,hI,.refl _ _ _,hS⟩
 ·intro R a s mn mx lz ix nm n' B' n B n1 W hr
  simp [Tn.spread] at hr
  obtain ⟨rfl,rfl⟩:=hr.classes
  exact SM.pair fun G _ hI hS _=>⟨G,hI,.refl _ _ _,.runeOf hS⟩
 ·intro R a s mn mx lz ix nm n' B' n B n1 W hr
  simp [Tn.spread] at hr
  obtain ⟨rfl,rfl⟩:=hr.asserts
  exact SM.pair fun G _ hI hS _=>⟨G,hI,.refl _ _ _,.ifHolds hS⟩
 ·intro R a s mn mx lz ix nm n' n1' B' W' _ ih n B n1 W hr
  simp [Tn.spread] at hr
  exact ih _ _ _ _ hr.cats
 ·intro R a s mn mx lz ix nm n' n1' B' Ws' _ ih n B n1 W hr
  simp [Tn.spread] at hr
  obtain ⟨n2,Ws,rfl,rfl,r1⟩:=hr.alts
  exact SM.pair fun G hd hI hS hH=>ih _ _ _ _ r1 G hd hI hS hH
 ·intro R a t mn mx lz i nm n' n1' B' W' _ ih n B n1 W hr
  simp [Tn.spread,spreadL] at hr
  obtain ⟨t',i',n2,W1,e1,e2,rfl,rfl,r1⟩:=hr.group
  simp only [List.cons.injEq,and_true] at e1
  subst e1
  obtain rfl:i=i':=by omega
  refine SM.pair fun G hd hI hS ⟨h0,hH⟩=>?_
  obtain ⟨G1,i1,g1,s1,h1,d1⟩:=ih _ _ _ _ r1 G hd hI (.noted hd hS) ⟨h0,.noted hH⟩
  exact ⟨G1,i1,g1,.noted (g1.dr.trans hd) s1⟩
 ·intro R a t lz ix nm n' n2' b' B' _ ih n B n1 W hr
  simp [Tn.spread,spreadL] at hr
  obtain ⟨b,r1,rfl⟩:=spr_any0 hr
  intro G hd hI hS hH
  obtain ⟨G1,i1,g1,_,s1,_,d1⟩:=(ih _ _ _ _ r1).round G hd hI hS
  exact ⟨G1,i1,g1,s1,d1⟩
 ·intro R a t c lz ix nm n' n2' n3' b' B' W3' _ _ ih ihT n B n1 W hr
  simp [Tn.spread,spreadL] at hr
  obtain ⟨b,n2,r1,hT⟩:=spr_any hr
  refine SM.seq (fun G hd hI hS hH=>?_) (ihT _ _ _ _ hT)
  obtain ⟨G1,i1,g1,s1,_,d1,_⟩:=(ih _ _ _ _ r1).round G hd hI hS
  exact ⟨G1,i1,g1,s1,d1⟩
 ·intro R a t c m lz ix nm n' n1' n2' B' W1' W2' hO0 hT0 ihO ihT n B n1 W hr
  simp [Tn.spread,spreadL] at hr
  rcases spr_bnd hr with ⟨rfl,rfl,rfl,rfl⟩ | ⟨n2,W1,hO,hT⟩
  ·obtain ⟨rfl,rfl⟩:=hT0.none
   obtain ⟨rfl,rfl⟩:=hO0.none
   exact (SM.self _ _ _ _ _).extra
  ·exact (ihO _ _ _ _ hO).seq (ihT _ _ _ _ hT)
 ·intro n' B' n B n1 W hr
  obtain ⟨rfl,rfl⟩:=hr.none
  exact .self _ _ _ _ _
 ·intro t ts n' n1' n2' B' W1' W2' _ _ h h2 n B n1 W hr
  simp only [spreadL] at hr
  obtain ⟨_,_,r1,r2⟩:=hr.first
  exact (h _ _ _ _ r1).seq (h2 _ _ _ _ r2)
 ·intro n' B' n B n1 Ws hr G hd hI hS hH
  obtain ⟨rfl,rfl⟩:=hr.none
  exact ⟨G,hI,.refl _ _ _,.inOrder rfl fun i hi=>by simp at hi⟩
 ·intro t ts n' n1' n2' B' W2' Ws' _ _ hl hl2 n B n1 Ws hr G hd hI hS hH
  rw [spreadL_snoc] at hr
  obtain ⟨_,Ws1,W2,rfl,r1,r2⟩:=hr.last
  obtain ⟨G1,i1,g1,s1⟩:=hl _ _ _ _ r1 G hd hI hS hH
  obtain ⟨h0,hH⟩:=hH
  obtain ⟨G2,i2,g2,s2,_⟩:=hl2 _ _ _ _ r2 G1 (g1.dr.trans hd) i1 (g1.sim hI hS) ⟨h0,hH.up g1.c g1.x⟩
  have s3:=g2.sim i1 s1
  cases s3 with
  | inOrder el s3 =>
   refine ⟨G2,i2,g1.trans g2 i1,.inOrder (by simp [el]) fun i hi hi'=>?_⟩
   by_cases hi2:i < Ws1.length
   ·rw [List.getElem_append_left hi2,List.getElem_append_left (by omega)]
    exact s3 i hi2 (by omega)
   ·simp only [List.length_append,List.length_cons,List.length_nil] at hi hi'
    obtain rfl:i=Ws1.length:=by omega
    rw [List.getElem_concat_length rfl,List.getElem_concat_length el]
    exact s2
 ·intro t n' W' n B n1 W hr
  obtain ⟨rfl,rfl⟩:=hr.none
  exact .self _ _ _ _ _
 ·intro t c n' n1' n2' W' W1' W2' _ _ h h2 n B n1 W hr
  obtain ⟨_,_,r1,r2⟩:=hr.next
  exact (h _ _ _ _ r1).seq (h2 _ _ _ _ r2)
 ·intro t lz B' n' n B n1 W hr
  obtain ⟨rfl,rfl⟩:=hr.none
  exact .self _ _ _ _ _
 ·intro t lz B' c n' n1' n2' W1' W2' _ _ h h2 n B n1 W hr
  obtain ⟨_,n2,_,_,rfl,rfl,r1,r2⟩:=hr.next
  refine SM.pair fun G hd hI hS hH=>?_
  obtain ⟨G1,i1,g1,s1,_⟩:=((h _ _ _ _ r1).seq (h2 _ _ _ _ r2)) G hd hI hS hH
  exact ⟨G1,i1,g1,sim_two s1 (g1.sim hI hS) lz⟩


mutual
def Tn.eff (K:Nat):Tn→Prop
 | .mk k R a s mn mx lz ix nm=>(k=7→2 * ix + 1 < (K:Int))∧(¬ (k=6∧mx=0)→effL K s)
def effL (K:Nat):List Tn→Prop
 | []=>True
 | t :: ts=>t.eff K∧effL K ts
end

theorem giL_le {G:Int}:∀ (ts:List Tn) (m:Int),giL ts m≤G↔m≤G∧∀ t ∈ ts,t.gi≤G:=by
 intro ts
 induction ts with
 | nil=>intro m;simp [giL]
 | cons t ts ih =>
  intro m
  simp only [giL,ih,List.mem_cons]
  constructor
  ·rintro ⟨h1,h2⟩
   refine ⟨by omega,fun u hu=>?_⟩
   rcases hu with rfl | hu
   ·omega
   ·exact h2 u hu
  ·rintro ⟨h1,h2⟩
   have:=h2 t (.inl rfl)
   exact ⟨by omega,fun u hu=>h2 u (.inr hu)⟩
theorem gi_loopN {x:Tn} {mn mx:Int} {lz:Bool} {G:Int}:(loopN x mn mx lz).gi≤G↔0≤G∧x.gi≤G:=by
 simp only [loopN,Tn.gi,giL_le]
 simp
theorem gi_rowN {l:List Tn} {G:Int} (hG:0≤G):(rowN l).gi≤G↔∀ x ∈ l,x.gi≤G:=by
 match l with
 | []=>simp [rowN,Tn.gi,giL,hG]
 | [x]=>simp [rowN]
 | x :: y :: l=>simp only [rowN,Tn.gi,giL_le,hG,true_and]
theorem gi_optN {x:Tn} {lz:Bool} {G:Int} (hG:0≤G):∀ k,(optN x lz k).gi≤G↔x.gi≤G:=by
 intro k
 induction k with
 | zero=>simp only [optN,gi_loopN,hG,true_and]
 | succ k ih =>
  simp only [optN,gi_loopN,hG,true_and,gi_rowN hG]
  simp [ih]
theorem gi_sprN {x:Tn} {mn mx:Int} {lz:Bool} {G:Int} (hG:0≤G) (h0:0≤mn) (hx:mx=-1∨mn≤mx):(x.gi≤G→(sprN x mn mx lz).gi≤G)∧(mx≠0→(sprN x mn mx lz).gi≤G→x.gi≤G):=by
 unfold sprN
 by_cases c0:mx < 0
 ·rw [if_pos c0]
  by_cases c1:mn < 2
  ·rw [if_pos c1]
   simp only [gi_loopN,hG,true_and]
   exact ⟨fun h=>h,fun _ h=>h⟩
  ·rw [if_neg c1]
   simp only [gi_rowN hG,List.mem_append,List.mem_singleton,List.mem_replicate]
   refine ⟨fun h y hy=>?_,fun _ h=>?_⟩
   ·rcases hy with ⟨_,rfl⟩ | rfl
    ·exact h
    ·exact gi_loopN.2 ⟨hG,h⟩
   ·exact (gi_loopN.1 (h _ (.inr rfl))).2
 ·rw [if_neg c0]
  simp only [gi_rowN hG,List.mem_append,List.mem_replicate]
  refine ⟨fun h y hy=>?_,fun hne h=>?_⟩
  ·rcases hy with ⟨_,rfl⟩ | hy
   ·exact h
   ·split at hy
    ·simp only [List.mem_singleton] at hy
     subst hy
     exact (gi_optN hG _).2 h
    ·cases hy
  ·by_cases c2:mn < mx
   ·rw [if_pos c2] at h
    exact (gi_optN hG _).1 (h _ (.inr (List.mem_singleton.2 rfl)))
   ·exact h x (.inl ⟨by omega,rfl⟩)
mutual
theorem spread_gi:∀ (t:Tn),t.fine=true→∀ (G:Int),0≤G→(t.gi≤G→t.spread.gi≤G)∧(t.spread.gi≤G→t.eff (2 * G + 2).toNat)
 | .mk k R a s mn mx lz ix nm,hf,G,hG=>by
  simp only [Tn.fine,Bool.and_eq_true] at hf
  have FN:=fine_nodeZ hf.1
  obtain ⟨i1,i2⟩:=spreadL_gi s hf.2 G hG
  by_cases h6:k=6
  ·subst h6
   obtain ⟨q1,q2,q3,q4⟩:=FN.rep rfl
   match s,q1,i1,i2 with
   | [x],_,i1,i2 =>
   simp only [spreadL,List.mem_singleton,forall_eq] at i1 i2
   have e:(Tn.mk 6 R a [x] mn mx lz ix nm).spread=sprN x.spread mn mx lz:=by simp [Tn.spread,spreadL]
   rw [e]
   obtain ⟨j1,j2⟩:=gi_sprN (x:=x.spread) (lz:=lz) hG q2 (by omega:mx=-1∨mn≤mx)
   refine ⟨fun h=>?_,fun h=>?_⟩
   ·simp only [Tn.gi,giL_le] at h
    exact j1 (i1 (h.2 x (by simp)))
   ·simp only [Tn.eff]
    exact ⟨fun h=>by omega,fun hn=>i2 (j2 (fun h0=>hn (by simp [h0])) h)⟩
  ·have e:(Tn.mk k R a s mn mx lz ix nm).spread=.mk k R a (spreadL s) mn mx lz ix nm:=by simp [Tn.spread,h6]
   rw [e]
   simp only [Tn.gi,giL_le,Tn.eff]
   exact ⟨fun h=>⟨h.1,i1 h.2⟩,fun h=>⟨fun h7=>by have:=(FN.grp h7).2;omega,fun _=>i2 h.2⟩⟩
theorem spreadL_gi:∀ (ts:List Tn),fineL ts=true→∀ (G:Int),0≤G→((∀ t ∈ ts,t.gi≤G)→∀ t ∈ spreadL ts,t.gi≤G)∧((∀ t ∈ spreadL ts,t.gi≤G)→effL (2 * G + 2).toNat ts)
 | [],_,G,_=>by simp [spreadL,effL]
 | t :: ts,hf,G,hG=>by
  simp only [fineL,Bool.and_eq_true] at hf
  obtain ⟨a1,a2⟩:=spread_gi t hf.1 G hG
  obtain ⟨b1,b2⟩:=spreadL_gi ts hf.2 G hG
  simp only [spreadL,List.mem_cons,forall_eq_or_imp,effL]
  exact ⟨fun h=>⟨a1 h.1,b1 h.2⟩,fun h=>⟨a2 h.1,b2 h.2⟩⟩
end
end Go.Proofs.YtacaanhnlfpbhaaGreat
