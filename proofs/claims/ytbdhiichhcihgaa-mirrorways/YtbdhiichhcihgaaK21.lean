/- HELPERS: texts of ours put together. -/
import Derived.Test.YtbdhiichhcihgaaK20
namespace Go.Proofs.Ytbdhiichhcihgaa
open Go.RowKit Go.Lk
set_option linter.unusedVariables false
set_option linter.unusedSimpArgs false
set_option maxHeartbeats 1000000 in
theorem nineSet (X:World) (b:Nat) {c0 c1 c2 c3 c4 c5 c6 c7 c8:Value} {t:TypeId} (v0 v1 v2 v3 v4 v5 v6 v7 v8:Value) (h:X.heap[b]? = some (.cells #[c0,c1,c2,c3,c4,c5,c6,c7,c8] t (0,0))) :
  ((((((((((((((((((X).setCell ⟨b,0,none⟩ v0)).setCell ⟨b,1,none⟩ v1)).setCell ⟨b,2,none⟩ v2)).setCell ⟨b,3,none⟩ v3)).setCell ⟨b,4,none⟩ v4)).setCell ⟨b,5,none⟩ v5)).setCell ⟨b,6,none⟩ v6)).setCell ⟨b,7,none⟩ v7)).setCell ⟨b,8,none⟩ v8).heap[b]? = some (.cells #[v0,v1,v2,v3,v4,v5,v6,v7,v8] t (0,0)) ∧ (∀ k,k ≠ b → ((((((((((((((((((X).setCell ⟨b,0,none⟩ v0)).setCell ⟨b,1,none⟩ v1)).setCell ⟨b,2,none⟩ v2)).setCell ⟨b,3,none⟩ v3)).setCell ⟨b,4,none⟩ v4)).setCell ⟨b,5,none⟩ v5)).setCell ⟨b,6,none⟩ v6)).setCell ⟨b,7,none⟩ v7)).setCell ⟨b,8,none⟩ v8).heap[k]? = X.heap[k]?) ∧ ((((((((((((((((((X).setCell ⟨b,0,none⟩ v0)).setCell ⟨b,1,none⟩ v1)).setCell ⟨b,2,none⟩ v2)).setCell ⟨b,3,none⟩ v3)).setCell ⟨b,4,none⟩ v4)).setCell ⟨b,5,none⟩ v5)).setCell ⟨b,6,none⟩ v6)).setCell ⟨b,7,none⟩ v7)).setCell ⟨b,8,none⟩ v8).heap.size = X.heap.size ∧ ∀ {B0:Nat} {w:World},Below B0 w X → B0 ≤ b → Below B0 w ((((((((((((((((((X).setCell ⟨b,0,none⟩ v0)).setCell ⟨b,1,none⟩ v1)).setCell ⟨b,2,none⟩ v2)).setCell ⟨b,3,none⟩ v3)).setCell ⟨b,4,none⟩ v4)).setCell ⟨b,5,none⟩ v5)).setCell ⟨b,6,none⟩ v6)).setCell ⟨b,7,none⟩ v7)).setCell ⟨b,8,none⟩ v8):=by
 refine ⟨?_,fun k hk => ?_,by simp [World.setCell],fun hB hb => ?_⟩
 ·have h0:(X.setCell ⟨b,0,none⟩ v0).heap[b]? = some (.cells #[v0,c1,c2,c3,c4,c5,c6,c7,c8] t (0,0)):=Joins.block_setCell (i:=0) h v0
  have h1:((X.setCell ⟨b,0,none⟩ v0).setCell ⟨b,1,none⟩ v1).heap[b]? = some (.cells #[v0,v1,c2,c3,c4,c5,c6,c7,c8] t (0,0)):=Joins.block_setCell (i:=1) h0 v1
  have h2:(((X.setCell ⟨b,0,none⟩ v0).setCell ⟨b,1,none⟩ v1).setCell ⟨b,2,none⟩ v2).heap[b]? = some (.cells #[v0,v1,v2,c3,c4,c5,c6,c7,c8] t (0,0)):=Joins.block_setCell (i:=2) h1 v2
  have h3:((((X.setCell ⟨b,0,none⟩ v0).setCell ⟨b,1,none⟩ v1).setCell ⟨b,2,none⟩ v2).setCell ⟨b,3,none⟩ v3).heap[b]? = some (.cells #[v0,v1,v2,v3,c4,c5,c6,c7,c8] t (0,0)):=Joins.block_setCell (i:=3) h2 v3
  have h4:(((((X.setCell ⟨b,0,none⟩ v0).setCell ⟨b,1,none⟩ v1).setCell ⟨b,2,none⟩ v2).setCell ⟨b,3,none⟩ v3).setCell ⟨b,4,none⟩ v4).heap[b]? = some (.cells #[v0,v1,v2,v3,v4,c5,c6,c7,c8] t (0,0)):=Joins.block_setCell (i:=4) h3 v4
  have h5:((((((X.setCell ⟨b,0,none⟩ v0).setCell ⟨b,1,none⟩ v1).setCell ⟨b,2,none⟩ v2).setCell ⟨b,3,none⟩ v3).setCell ⟨b,4,none⟩ v4).setCell ⟨b,5,none⟩ v5).heap[b]? = some (.cells #[v0,v1,v2,v3,v4,v5,c6,c7,c8] t (0,0)):=Joins.block_setCell (i:=5) h4 v5
  have h6:(((((((X.setCell ⟨b,0,none⟩ v0).setCell ⟨b,1,none⟩ v1).setCell ⟨b,2,none⟩ v2).setCell ⟨b,3,none⟩ v3).setCell ⟨b,4,none⟩ v4).setCell ⟨b,5,none⟩ v5).setCell ⟨b,6,none⟩ v6).heap[b]? = some (.cells #[v0,v1,v2,v3,v4,v5,v6,c7,c8] t (0,0)):=Joins.block_setCell (i:=6) h5 v6
  have h7:((((((((X.setCell ⟨b,0,none⟩ v0).setCell ⟨b,1,none⟩ v1).setCell ⟨b,2,none⟩ v2).setCell ⟨b,3,none⟩ v3).setCell ⟨b,4,none⟩ v4).setCell ⟨b,5,none⟩ v5).setCell ⟨b,6,none⟩ v6).setCell ⟨b,7,none⟩ v7).heap[b]? = some (.cells #[v0,v1,v2,v3,v4,v5,v6,v7,c8] t (0,0)):=Joins.block_setCell (i:=7) h6 v7
  have h8:(((((((((X.setCell ⟨b,0,none⟩ v0).setCell ⟨b,1,none⟩ v1).setCell ⟨b,2,none⟩ v2).setCell ⟨b,3,none⟩ v3).setCell ⟨b,4,none⟩ v4).setCell ⟨b,5,none⟩ v5).setCell ⟨b,6,none⟩ v6).setCell ⟨b,7,none⟩ v7).setCell ⟨b,8,none⟩ v8).heap[b]? = some (.cells #[v0,v1,v2,v3,v4,v5,v6,v7,v8] t (0,0)):=Joins.block_setCell (i:=8) h7 v8
  exact h8
 ·have k0:(X.setCell ⟨b,0,none⟩ v0).heap[k]? = X.heap[k]?:=Below.heap_setCell _ _ _ _ hk
  have k1:((X.setCell ⟨b,0,none⟩ v0).setCell ⟨b,1,none⟩ v1).heap[k]? = (X.setCell ⟨b,0,none⟩ v0).heap[k]?:=Below.heap_setCell _ _ _ _ hk
  have k2:(((X.setCell ⟨b,0,none⟩ v0).setCell ⟨b,1,none⟩ v1).setCell ⟨b,2,none⟩ v2).heap[k]? = ((X.setCell ⟨b,0,none⟩ v0).setCell ⟨b,1,none⟩ v1).heap[k]?:=Below.heap_setCell _ _ _ _ hk
  have k3:((((X.setCell ⟨b,0,none⟩ v0).setCell ⟨b,1,none⟩ v1).setCell ⟨b,2,none⟩ v2).setCell ⟨b,3,none⟩ v3).heap[k]? = (((X.setCell ⟨b,0,none⟩ v0).setCell ⟨b,1,none⟩ v1).setCell ⟨b,2,none⟩ v2).heap[k]?:=Below.heap_setCell _ _ _ _ hk
  have k4:(((((X.setCell ⟨b,0,none⟩ v0).setCell ⟨b,1,none⟩ v1).setCell ⟨b,2,none⟩ v2).setCell ⟨b,3,none⟩ v3).setCell ⟨b,4,none⟩ v4).heap[k]? = ((((X.setCell ⟨b,0,none⟩ v0).setCell ⟨b,1,none⟩ v1).setCell ⟨b,2,none⟩ v2).setCell ⟨b,3,none⟩ v3).heap[k]?:=Below.heap_setCell _ _ _ _ hk
  have k5:((((((X.setCell ⟨b,0,none⟩ v0).setCell ⟨b,1,none⟩ v1).setCell ⟨b,2,none⟩ v2).setCell ⟨b,3,none⟩ v3).setCell ⟨b,4,none⟩ v4).setCell ⟨b,5,none⟩ v5).heap[k]? = (((((X.setCell ⟨b,0,none⟩ v0).setCell ⟨b,1,none⟩ v1).setCell ⟨b,2,none⟩ v2).setCell ⟨b,3,none⟩ v3).setCell ⟨b,4,none⟩ v4).heap[k]?:=Below.heap_setCell _ _ _ _ hk
  have k6:(((((((X.setCell ⟨b,0,none⟩ v0).setCell ⟨b,1,none⟩ v1).setCell ⟨b,2,none⟩ v2).setCell ⟨b,3,none⟩ v3).setCell ⟨b,4,none⟩ v4).setCell ⟨b,5,none⟩ v5).setCell ⟨b,6,none⟩ v6).heap[k]? = ((((((X.setCell ⟨b,0,none⟩ v0).setCell ⟨b,1,none⟩ v1).setCell ⟨b,2,none⟩ v2).setCell ⟨b,3,none⟩ v3).setCell ⟨b,4,none⟩ v4).setCell ⟨b,5,none⟩ v5).heap[k]?:=Below.heap_setCell _ _ _ _ hk
  have k7:((((((((X.setCell ⟨b,0,none⟩ v0).setCell ⟨b,1,none⟩ v1).setCell ⟨b,2,none⟩ v2).setCell ⟨b,3,none⟩ v3).setCell ⟨b,4,none⟩ v4).setCell ⟨b,5,none⟩ v5).setCell ⟨b,6,none⟩ v6).setCell ⟨b,7,none⟩ v7).heap[k]? = (((((((X.setCell ⟨b,0,none⟩ v0).setCell ⟨b,1,none⟩ v1).setCell ⟨b,2,none⟩ v2).setCell ⟨b,3,none⟩ v3).setCell ⟨b,4,none⟩ v4).setCell ⟨b,5,none⟩ v5).setCell ⟨b,6,none⟩ v6).heap[k]?:=Below.heap_setCell _ _ _ _ hk
  have k8:(((((((((X.setCell ⟨b,0,none⟩ v0).setCell ⟨b,1,none⟩ v1).setCell ⟨b,2,none⟩ v2).setCell ⟨b,3,none⟩ v3).setCell ⟨b,4,none⟩ v4).setCell ⟨b,5,none⟩ v5).setCell ⟨b,6,none⟩ v6).setCell ⟨b,7,none⟩ v7).setCell ⟨b,8,none⟩ v8).heap[k]? = ((((((((X.setCell ⟨b,0,none⟩ v0).setCell ⟨b,1,none⟩ v1).setCell ⟨b,2,none⟩ v2).setCell ⟨b,3,none⟩ v3).setCell ⟨b,4,none⟩ v4).setCell ⟨b,5,none⟩ v5).setCell ⟨b,6,none⟩ v6).setCell ⟨b,7,none⟩ v7).heap[k]?:=Below.heap_setCell _ _ _ _ hk
  exact k8.trans (k7.trans (k6.trans (k5.trans (k4.trans (k3.trans (k2.trans (k1.trans k0)))))))
 ·exact ((((((((hB.setCell (by exact hb) v0).setCell (by exact hb) v1).setCell (by exact hb) v2).setCell (by exact hb) v3).setCell (by exact hb) v4).setCell (by exact hb) v5).setCell (by exact hb) v6).setCell (by exact hb) v7).setCell (by exact hb) v8
theorem row_base {w:World} {base base' e size n:Nat} {v:Value} {xs:List Value} (h:w.ownsRow base e size v n xs) (hb:base' ≤ base):w.ownsRow base' e size v n xs:=by
 refine ⟨h.1,?_⟩
 rcases h.2 with h | ⟨g,cap,cur,h1,h2,h3⟩
 ·exact .inl h
 ·exact .inr ⟨g,cap,cur,h1,by omega,h3⟩
theorem row_shape {w:World} {base e size n:Nat} {v:Value} {xs:List Value} (h:w.ownsRow base e size v n xs):∃ a c,v = .slice a n c ∧ n ≤ c ∧ c ≤ maxLen:=by
 rcases h.2 with ⟨rfl,rfl⟩ | ⟨g,cap,cur,h1,h2,h3,h4,h5,_⟩
 ·exact ⟨none,0,rfl,Nat.le_refl _,by simp [maxLen]⟩
 ·exact ⟨_,cap,h1,h4,h5⟩
theorem R2.src {w:World} {B:Nat} {ad:Option Addr} {R:List (Int × Int)} (h:R2 w B ad R) (hp:0 < R.length):∃ b f,ad = some ⟨b,f,none⟩ ∧ ∀ j u,(O2 R)[j]? = some u → w.cell? ⟨b,f + j,none⟩ = some u:=by
 obtain ⟨b,f,h1,_,h3⟩:=h (fun e => by rw [e] at hp;simp at hp)
 refine ⟨b,f,h1,fun j u hj => ?_⟩
 have hlt:j < R.length * 2:=by rw [← O2_len];exact (List.getElem?_eq_some_iff.1 hj).1
 obtain ⟨i,r,hr,rfl⟩:∃ i r,r < 2 ∧ j = i * 2 + r:=⟨j / 2,j % 2,by omega,by omega⟩
 have h2:=O2_at R i (by omega)
 have h4:=h3 i (by omega)
 have hr':r = 0 ∨ r = 1:=by omega
 rcases hr' with rfl | rfl
 ·rw [Nat.add_zero] at hj ⊢
  rw [h4.1,← hj,h2.1]
 ·rw [← Nat.add_assoc,h4.2,← hj,h2.2]
theorem TO.build {w:World} {N:Nv} {R:List (Int × Int)} {ts:List Tn} (ND:Nat → Nv) (AS:Nat → Nat → Prop) (b:Nat) (ok:N.ok) (hRk:∀ x ∈ R,I64ok x.1 ∧ I64ok x.2)
  (rr:w.ownsRow 0 39 2 (.slice N.r1 N.r2 N.r3) R.length (O2 R)) (hF:FR w b ts.length ND) (hm:ts.length ≤ 200000) (e:N.s1 = some ⟨b,0,none⟩ ∧ N.s2 = ts.length ∧ N.s3 = ts.length) (hk:∀ i (hi:i < ts.length),TO w (ND i) ts[i] (AS i))
  (d1:∀ i j c,i < ts.length → j < ts.length → i ≠ j → AS i c → ¬ AS j c) (d2:∀ c,N.rb = some c → c ≠ b) (d3:∀ i c,i < ts.length → AS i c → c ≠ b ∧ N.rb ≠ some c) :
  TO w N (.mk N.k R N.a2 ts N.a4 N.a5 N.a6 N.a7 N.a8) (fun c => N.rb = some c ∨ N.sb = some c ∨ ∃ i,i < ts.length ∧ AS i c):=by
 obtain ⟨e1,e2,e3⟩:=e
 have hsb:N.sb = some b:=by show (Value.slice N.s1 N.s2 N.s3).ownBlock = some b;rw [e1];rfl
 refine .mk ok hRk rr ?_ hk d1 (fun c hc h => d2 c hc ?_) (fun i c hi hc => ⟨(d3 i c hi hc).2,fun h => (d3 i c hi hc).1 ?_⟩)
 ·rw [e1,e2,e3]
  exact hF.owns (by unfold maxLen;omega)
 ·rw [hsb] at h;simp at h;exact h.symm
 ·rw [hsb] at h;simp at h;exact h.symm
theorem getD_lt {ts:List Tn} {i:Nat} (hi:i < ts.length):ts.getD i default = ts[i]:=by simp [List.getD_eq_getElem?_getD,List.getElem?_eq_getElem hi]
abbrev BxN (w:World) (b:Nat) (N:Nv):Prop:=w.heap[b]? = some (.cells #[.int .i64 N.k,.slice N.r1 N.r2 N.r3,.int .i64 N.a2,.slice N.s1 N.s2 N.s3,.int .i64 N.a4,.int .i64 N.a5,.bool N.a6,.int .i64 N.a7,.string N.a8] 25 (0,0))
abbrev BxZ (w:World) (b:Nat):Prop:=w.heap[b]? = some (.cells #[.int .i64 0,.slice none 0 0,.int .i64 0,.slice none 0 0,.int .i64 0,.int .i64 0,.bool false,.int .i64 0,.string ⟨#[]⟩] 25 (0,0))
set_option maxRecDepth 100000 in
set_option maxHeartbeats 8000000 in
theorem mirror27 {w0:World} {B:Nat} {N:Nv} {t:Tn} (h:TI w0 B N t):t.fine = true → t.nodes ≤ 200000 → ∀ (w:World),B ≤ w.heap.size → (∀ b,b < B → w.heap[b]? = w0.heap[b]?) →
  Calls Try.prog 14 #[N.v] w fun e w' => ∃ M A,e = .returned (Nv.v M) ∧ TO w' M t.mir A ∧ (∀ b,A b → w.heap.size ≤ b) ∧ Below w.heap.size w w':=by
 induction h with
 | @mk N R ts ND ok hr hR hRk hs hS hk ih =>
 intro hf hno w hB hw
 simp only [Tn.fine,Bool.and_eq_true] at hf
 simp only [Tn.nodes] at hno
 have FN:=fine_node hf.1
 have hfg:=fineL_get hf.2
 have IH:∀ i (hi:i < ts.length) (w:World),B ≤ w.heap.size → (∀ b,b < B → w.heap[b]? = w0.heap[b]?) → Calls Try.prog 14 #[(ND i).v] w fun e w' => ∃ M A,e = .returned (Nv.v M) ∧ TO w' M ts[i].mir A ∧ (∀ b,A b → w.heap.size ≤ b) ∧ Below w.heap.size w w':=fun i hi => ih i hi (hfg i hi) (by have:=nodes_get ts i hi;omega)
 have hlen:ts.length ≤ 200000:=by have:=nodes_ge ts;omega
 have hok:=ok
 have HRL:Hid (N.r2 = R.length):=hr
 have hR5:R.length ≤ 5000:=by
  by_cases h2:N.k = 2
  ·exact rightB_len (FN.cls h2)
  ·have:=FN.rng h2;omega
 have HRW:Hid (∀ w1:World,(∀ b,b < B → w1.heap[b]? = w0.heap[b]?) → R2 w1 B N.r1 R):=fun w1 h1 => hR.kept h1
 obtain ⟨k,r1,r2,r3,a2,s1,s2,s3,a4,a5,a6,a7,a8⟩:=N
 dsimp only at hs hS HRL HRW
 have HW:=hid hw
 have HS:=hid hS
 have HIH:=hid IH
 have HL:=hid hs
 by_cases k7:k = 7
 ·subst k7
  have h1:=FN.grp rfl
  obtain ⟨t,rfl⟩:∃ t,ts = [t]:=List.length_eq_one_iff.1 h1
  have e0:(Tn.mk 7 R a2 [t] a4 a5 a6 a7 a8).mir = t.mir:=by simp [Tn.mir,mirL]
  rw [e0]
  obtain ⟨b,o,hs1,hb,hc⟩:=HS.out (by simp)
  have hs2:s2 = 1:=hs
  subst hs1 hs2
  obtain ⟨n0,n1,n2,n3,n4,n5,n6,n7,n8⟩:=(hc 0 (by simp)).kept (hw b hb)
  simp only [Nat.zero_mul,Nat.add_zero] at n0 n1 n2 n3 n4 n5 n6 n7 n8
  have HC:=HIH.out 0 (by simp) ((w.alloc (.cells #[.int .i64 7,.slice r1 r2 r3,.int .i64 a2,.slice (some ⟨b,o,none⟩) 1 s3,.int .i64 a4,.int .i64 a5,.bool a6,.int .i64 a7,.string a8] 25)).alloc (.cells #[.int .i64 0,.slice none 0 0,.int .i64 0,.slice none 0 0,.int .i64 0,.int .i64 0,.bool false,.int .i64 0,.string ⟨#[]⟩] 25)) (by simp;omega) (fun b hb => (heap_alloc_old _ _ (by simp;omega)).trans ((heap_alloc_old w _ (by omega)).trans (hw b hb)))
  have hbl:b < w.heap.size:=by omega
  have i1:(0:Int) < 1:=by decide
  obtain ⟨P,hP⟩:∃ P,P = ND 0:=⟨_,rfl⟩
  rw [← hP] at HC n0 n1 n2 n3 n4 n5 n6 n7 n8
  clear ok hr hR hk hS hw ih hs hf FN hfg IH hno hlen hok hc hP HS HIH HL HRW HW HRL
  go_enter Try.func14,Try.ntmps14
  go_wp2_with (first | (go_at_call 14;(with_reducible refine HC.mono ?_);rintro e w2 ⟨M,A,rfl,hM,hA,hb2⟩;have hY:BxZ w2 (w.heap.size + 1):=(hb2.block (w.heap.size + 1) (by simp)).trans (two_new w _ _ _);have f0:=Joins.unfrozen_of_block hY 0;have f1:=Joins.unfrozen_of_block hY 1;have f2:=Joins.unfrozen_of_block hY 2;have f3:=Joins.unfrozen_of_block hY 3;have f4:=Joins.unfrozen_of_block hY 4;have f5:=Joins.unfrozen_of_block hY 5;have f6:=Joins.unfrozen_of_block hY 6;have f7:=Joins.unfrozen_of_block hY 7;have f8:=Joins.unfrozen_of_block hY 8;obtain ⟨q0,q1,q2,q3,q4,q5,q6,q7,q8⟩:=nine' hY;have HYY:=hid hY;have HM:=hid hM;have HA:=hid hA;have HB2:=hid hb2;clear hY hM hA hb2 HC))
  obtain ⟨y1,y2,y3,y4⟩:=nineSet w2 (w.heap.size + 1) (.int .i64 M.k) (.slice M.r1 M.r2 M.r3) (.int .i64 M.a2) (.slice M.s1 M.s2 M.s3) (.int .i64 M.a4) (.int .i64 M.a5) (.bool M.a6) (.int .i64 M.a7) (.string M.a8) HYY.out
  obtain ⟨Y,hY⟩:∃ Y,Y = ((((((((((((((((((w2).setCell ⟨w.heap.size + 1,0,none⟩ (.int .i64 M.k))).setCell ⟨w.heap.size + 1,1,none⟩ (.slice M.r1 M.r2 M.r3))).setCell ⟨w.heap.size + 1,2,none⟩ (.int .i64 M.a2))).setCell ⟨w.heap.size + 1,3,none⟩ (.slice M.s1 M.s2 M.s3))).setCell ⟨w.heap.size + 1,4,none⟩ (.int .i64 M.a4))).setCell ⟨w.heap.size + 1,5,none⟩ (.int .i64 M.a5))).setCell ⟨w.heap.size + 1,6,none⟩ (.bool M.a6))).setCell ⟨w.heap.size + 1,7,none⟩ (.int .i64 M.a7))).setCell ⟨w.heap.size + 1,8,none⟩ (.string M.a8)):=⟨_,rfl⟩
  rw [← hY] at y1 y2 y3 y4
  have y4':=y4 ((below_two' w _ _).trans (Joins.below_le HB2.out (by simp;omega))) (by omega)
  rw [← hY]
  refine bodyPost_ret (results_cell_row rfl _ _ (w.heap.size + 1) 25 _ (0,0) _ rfl y1 Try.underlying25 rfl (by kernel_rfl)) rfl ?_
  have hA2:∀ b,A b → w.heap.size + 1 + 1 ≤ b:=fun b hb => by have:=HA.out b hb;simpa using this
  exact ⟨M,A,rfl,HM.out.kept (fun b hb => y2 b (by have:=hA2 b hb;omega)),fun b hb => by have:=hA2 b hb;omega,y4'⟩
 ·have k7':(k == 7) = false:=by simpa using k7
  have hm2:s2 ≤ 200000:=by omega
  have e0:(Tn.mk k R a2 ts a4 a5 a6 a7 a8).mir = .mk k R (flipI a2) (if k = 4 then (ts.map Tn.mir).reverse else ts.map Tn.mir) a4 a5 a6 a7 a8:=by simp only [Tn.mir,k7,if_false,mirL_map]
  rw [e0]
  obtain ⟨i0,hi0,hz0,hz1,hz2⟩:=info_parts info53
  have HOK:=hid hok
  have hr2:r2 ≤ 5000:=by have:=HRL.out;omega
  have HFl:=fun W => flip14 a2 W hok.a2
  obtain ⟨fa,hfa⟩:∃ fa,fa = flipI a2:=⟨_,rfl⟩
  rw [← hfa] at HFl ⊢
  have HFI:Hid (I64ok fa):=by rw [hfa];exact flip_in a2 hok.a2
  clear ok hr hR hk hS hw ih hs hf FN hfg IH hno hlen hok hfa
  go_enter Try.func14,Try.ntmps14
  go_upto_region 4 with (go_at_call 22;(with_reducible refine (HFl _).mono ?_);rintro e w2 ⟨rfl,hb2⟩;have hX:BxN w2 w.heap.size ⟨k,r1,r2,r3,a2,s1,s2,s3,a4,a5,a6,a7,a8⟩:=(hb2.block w.heap.size (by simp;omega)).trans ((heap_alloc_old _ _ (by simp)).trans (heap_alloc_new w _));have hY:BxZ w2 (w.heap.size + 1):=(hb2.block (w.heap.size + 1) (by simp)).trans (two_new w _ _ _);have f2:=Joins.unfrozen_of_block hX 2;obtain ⟨q0,q1,q2,q3,q4,q5,q6,q7,q8⟩:=nine' hX;have HX:=hid hX;have HY:=hid hY;have HB2:=hid hb2;clear hX hY hb2 HFl)
  obtain ⟨W3,hW3⟩:∃ W3,W3 = w2.setCell ⟨w.heap.size,2,none⟩ (.int .i64 fa):=⟨_,rfl⟩
  rw [← hW3]
  have hX3:BxN W3 w.heap.size ⟨k,r1,r2,r3,fa,s1,s2,s3,a4,a5,a6,a7,a8⟩:=by rw [hW3];exact Joins.block_setCell (i:=2) HX.out _
  have hY3:BxZ W3 (w.heap.size + 1):=by rw [hW3];exact (Below.heap_setCell _ _ _ _ (by simp)).trans HY.out
  have hb3:Below w.heap.size w W3:=by rw [hW3];exact ((below_two' w _ _).trans (Joins.below_le HB2.out (by simp;omega))).setCell (by exact Nat.le_refl _) _
  have hl3:w.heap.size + 1 < W3.heap.size:=(Array.getElem?_eq_some_iff.1 hY3).1
  have hwk3:∀ b,b < B → W3.heap[b]? = w0.heap[b]?:=fun b hb => (hb3.block b (by omega)).trans (HW.out b hb)
  have HSRC:Hid (0 < r2 → ∃ b f,r1 = some ⟨b,f,none⟩ ∧ ∀ j u,(O2 R)[j]? = some u → W3.cell? ⟨b,f + j,none⟩ = some u):=fun hp => (HRW.out W3 hwk3).src (by have:=HRL.out;omega)
  have HO2:Hid ((O2 R).length = r2 * 2):=(O2_len R).trans (by rw [HRL.out])
  have HX3:=hid hX3
  have HY3:=hid hY3
  have HB3:=hid hb3
  clear q0 q1 q2 q3 q4 q5 q6 q7 q8 f2 HX HY HB2 hW3 hwk3 hY3 hb3
  obtain ⟨q0,q1,q2,q3,q4,q5,q6,q7,q8⟩:=nine' hX3
  clear hX3
  go_upto_region 5 with (at_builtin;refine wpList_append_nil rfl _ (.tmp 16) 22 rfl 39 i0 (.agg #[.int .i64 0,.int .i64 0]) 2 16 Try.underlying22 hi0 hz0 hz1 hz2 rfl (by decide) rfl r1 r2 r3 (O2 R) rfl HO2.out HSRC.out (O2_one R) (by unfold maxLen;omega) (by omega) ?_;intro v4 w4 ho4 hb4 hl4;obtain ⟨c1,c3,rfl,hc3⟩:=row_shape ho4.out;have HC3:=hid hc3;have hX4:BxN w4 w.heap.size ⟨k,r1,r2,r3,fa,s1,s2,s3,a4,a5,a6,a7,a8⟩:=(hb4.out.block _ (by omega)).trans HX3.out;have f1:=Joins.unfrozen_of_block hX4 1;clear q0 q1 q2 q3 q4 q5 q6 q7 q8 hc3;obtain ⟨q0,q1,q2,q3,q4,q5,q6,q7,q8⟩:=nine' hX4;have HX4:=hid hX4;clear hX4)
  obtain ⟨W5,hW5⟩:∃ W5,W5 = w4.setCell ⟨w.heap.size,1,none⟩ (.slice c1 r2 c3):=⟨_,rfl⟩
  rw [← hW5]
  have hX5:BxN W5 w.heap.size ⟨k,c1,r2,c3,fa,s1,s2,s3,a4,a5,a6,a7,a8⟩:=by rw [hW5];exact Joins.block_setCell (i:=1) HX4.out _
  have hY5:BxZ W5 (w.heap.size + 1):=by rw [hW5];exact (Below.heap_setCell _ _ _ _ (by simp)).trans ((hb4.out.block _ (by omega)).trans HY3.out)
  have hb5:Below w.heap.size w W5:=by rw [hW5];exact (HB3.out.trans (Joins.below_le hb4.out (by omega))).setCell (by exact Nat.le_refl _) _
  have hl5:w.heap.size + 1 < W5.heap.size:=(Array.getElem?_eq_some_iff.1 hY5).1
  have hrow5:W5.ownsRow (w.heap.size + 2) 39 2 (.slice c1 r2 c3) r2 (O2 R):=by
   rw [hW5]
   exact own_setCell (row_base ho4.out (by omega)) (fun e => by have:=(ho4.out.lt _ e).1;simp at this;omega)
  have hwk5:∀ b,b < B → W5.heap[b]? = w0.heap[b]?:=fun b hb => (hb5.block b (by omega)).trans (HW.out b hb)
  have HC34:=mirrors34 s2 ND (fun i => (ts.getD i default).mir) s1 s3 W5 hm2 (fun hp => by
    obtain ⟨b,o,h1,h2,h3⟩:=HS.out (by have:=HL.out;omega)
    exact ⟨b,o,h1,by omega,fun i hi => (h3 i (by have:=HL.out;omega)).kept (hwk5 b h2)⟩)
   (fun i hi w1 h1 h2 => by
    have hlt:i < ts.length:=by have:=HL.out;omega
    have:=HIH.out i hlt w1 (by omega) (fun b hb => (h2 b (by omega)).trans (hwk5 b hb))
    rw [getD_lt hlt]
    exact this)
  have HX5:=hid hX5
  have HY5:=hid hY5
  have HB5:=hid hb5
  have HR5:=hid hrow5
  clear q0 q1 q2 q3 q4 q5 q6 q7 q8 f1 HX4 HX3 HY3 HB3 hW5 hwk5 hY5 hb5 hrow5 ho4 hb4 hl4 HSRC HO2
  obtain ⟨q0,q1,q2,q3,q4,q5,q6,q7,q8⟩:=nine' hX5
  clear hX5
  obtain ⟨z5,hz5⟩:∃ z5,z5 = W5.heap.size:=⟨_,rfl⟩
  rw [← hz5] at HC34 hl5
  have HZ5:=hid hz5
  clear hz5
  go_upto_region 6 with (go_at_call 23;(with_reducible refine HC34.mono ?_);rintro e w6 ⟨MS,AS,rfl,hF,hT,hA,hD,hb6⟩;have hX6:BxN w6 w.heap.size ⟨k,c1,r2,c3,fa,s1,s2,s3,a4,a5,a6,a7,a8⟩:=(hb6.block _ (by omega)).trans HX5.out;have f3:=Joins.unfrozen_of_block hX6 3;clear q0 q1 q2 q3 q4 q5 q6 q7 q8;obtain ⟨q0,q1,q2,q3,q4,q5,q6,q7,q8⟩:=nine' hX6;have HX6:=hid hX6;have HF:=hid hF;have HT:=hid hT;have HA:=hid hA;have HD:=hid hD;have HB6:=hid hb6;clear hX6 HC34 hF hT hA hD hb6)
  obtain ⟨W7,hW7⟩:∃ W7,W7 = w6.setCell ⟨w.heap.size,3,none⟩ (.slice (some ⟨z5,0,none⟩) s2 s2):=⟨_,rfl⟩
  rw [← hW7]
  have hold7:∀ b,b ≠ w.heap.size → W7.heap[b]? = w6.heap[b]?:=fun b hb => by rw [hW7];exact Below.heap_setCell _ _ _ _ hb
  have hX7:BxN W7 w.heap.size ⟨k,c1,r2,c3,fa,some ⟨z5,0,none⟩,s2,s2,a4,a5,a6,a7,a8⟩:=by rw [hW7];exact Joins.block_setCell (i:=3) HX6.out _
  have hY7:BxZ W7 (w.heap.size + 1):=(hold7 _ (by omega)).trans ((HB6.out.block _ (by omega)).trans HY5.out)
  have hs7:W7.heap.size = w6.heap.size:=by rw [hW7];simp [World.setCell]
  have hb7:Below w.heap.size w W7:=by rw [hW7];exact (HB5.out.trans (Joins.below_le HB6.out (by omega))).setCell (by exact Nat.le_refl _) _
  have hrow7:W7.ownsRow (w.heap.size + 2) 39 2 (.slice c1 r2 c3) r2 (O2 R):=row_kept HR5.out (fun b hb => by
   have h1:=HR5.out.lt b hb
   exact (hold7 b (by omega)).trans (HB6.out.block b (by have:=HZ5.out;omega)))
  have hrz:∀ b,(Value.slice c1 r2 c3).ownBlock = some b → w.heap.size + 2 ≤ b ∧ b < z5:=fun b hb => by have:=HR5.out.lt b hb;have:=HZ5.out;omega
  have hF7:FR W7 z5 s2 MS:=HF.out.kept (hold7 z5 (by omega))
  have hT7:∀ i,i < s2 → TO W7 (MS i) (ts.getD i default).mir (AS i):=fun i hi => (HT.out i hi).kept fun b hb => hold7 b (by have:=HA.out i b hi hb;omega)
  have HX7:=hid hX7
  have HY7:=hid hY7
  have HB7:=hid hb7
  have HR7:=hid hrow7
  have HRZ:=hid hrz
  have HF7:=hid hF7
  have HT7:=hid hT7
  clear q0 q1 q2 q3 q4 q5 q6 q7 q8 f3 HX6 HX5 HY5 HB5 HR5 hY7 hb7 hrow7 hW7 hold7 HF HT HB6 hrz hT7
  obtain ⟨q0,q1,q2,q3,q4,q5,q6,q7,q8⟩:=nine' hX7
  have hl7:w.heap.size + 1 < W7.heap.size:=(Array.getElem?_eq_some_iff.1 HY7.out).1
  have hz7:z5 < W7.heap.size:=hF7.lt
  by_cases k4:k = 4
  ·subst k4
   have HC35:=turned35 s2 MS (some ⟨z5,0,none⟩) s2 W7 hm2 (fun _ => ⟨z5,0,rfl,hz7,fun i hi => hF7.2 i hi⟩)
   obtain ⟨z7,hz7'⟩:∃ z7,z7 = W7.heap.size:=⟨_,rfl⟩
   rw [← hz7'] at HC35 hl7 hz7
   have HZ7:=hid hz7'
   clear hX7 hF7 hz7' hs7
   go_wp2_with (first | (go_at_call 24;(with_reducible refine HC35.mono ?_);rintro e w8 ⟨rfl,hF8,hb8⟩;have hX8:BxN w8 w.heap.size ⟨4,c1,r2,c3,fa,some ⟨z5,0,none⟩,s2,s2,a4,a5,a6,a7,a8⟩:=(hb8.block _ (by omega)).trans HX7.out;have hY8:BxZ w8 (w.heap.size + 1):=(hb8.block _ (by omega)).trans HY7.out;have f3:=Joins.unfrozen_of_block hX8 3;clear q0 q1 q2 q3 q4 q5 q6 q7 q8;obtain ⟨q0,q1,q2,q3,q4,q5,q6,q7,q8⟩:=nine' hX8;have g0:=Joins.unfrozen_of_block hY8 0;have g1:=Joins.unfrozen_of_block hY8 1;have g2:=Joins.unfrozen_of_block hY8 2;have g3:=Joins.unfrozen_of_block hY8 3;have g4:=Joins.unfrozen_of_block hY8 4;have g5:=Joins.unfrozen_of_block hY8 5;have g6:=Joins.unfrozen_of_block hY8 6;have g7:=Joins.unfrozen_of_block hY8 7;have g8:=Joins.unfrozen_of_block hY8 8;obtain ⟨y0,y1,y2,y3,y4,y5,y6,y7,y8⟩:=nine' hY8;have HX8:=hid hX8;have HY8:=hid hY8;have HF8:=hid hF8;have HB8:=hid hb8;clear hX8 hY8 hF8 hb8 HC35))
   obtain ⟨X,hX⟩:∃ X,X = w8.setCell ⟨w.heap.size,3,none⟩ (.slice (some ⟨z7,0,none⟩) s2 s2):=⟨_,rfl⟩
   rw [← hX]
   have hXo:∀ b,b ≠ w.heap.size → X.heap[b]? = w8.heap[b]?:=fun b hb => by rw [hX];exact Below.heap_setCell _ _ _ _ hb
   have hXs:X.heap.size = w8.heap.size:=by rw [hX];simp [World.setCell]
   have hXb:Below w.heap.size w X:=by rw [hX];exact (HB7.out.trans (Joins.below_le HB8.out (by omega))).setCell (by exact Nat.le_refl _) _
   obtain ⟨y1,y2,y3,y4⟩:=nineSet X (w.heap.size + 1) (.int .i64 4) (.slice c1 r2 c3) (.int .i64 fa) (.slice (some ⟨z7,0,none⟩) s2 s2) (.int .i64 a4) (.int .i64 a5) (.bool a6) (.int .i64 a7) (.string a8) ((hXo _ (by omega)).trans HY8.out)
   obtain ⟨Y,hY⟩:∃ Y,Y = (((((((((X.setCell ⟨w.heap.size + 1,0,none⟩ (.int .i64 4)).setCell ⟨w.heap.size + 1,1,none⟩ (.slice c1 r2 c3)).setCell ⟨w.heap.size + 1,2,none⟩ (.int .i64 fa)).setCell ⟨w.heap.size + 1,3,none⟩ (.slice (some ⟨z7,0,none⟩) s2 s2)).setCell ⟨w.heap.size + 1,4,none⟩ (.int .i64 a4)).setCell ⟨w.heap.size + 1,5,none⟩ (.int .i64 a5)).setCell ⟨w.heap.size + 1,6,none⟩ (.bool a6)).setCell ⟨w.heap.size + 1,7,none⟩ (.int .i64 a7)).setCell ⟨w.heap.size + 1,8,none⟩ (.string a8)):=⟨_,rfl⟩
   rw [← hY] at y1 y2 y3 y4
   have y4':=y4 hXb (by omega)
   rw [← hY]
   refine bodyPost_ret (results_cell_row rfl _ _ (w.heap.size + 1) 25 _ (0,0) _ rfl y1 Try.underlying25 rfl (by kernel_rfl)) rfl ?_
   have hkeep:∀ b,w.heap.size + 2 ≤ b → Y.heap[b]? = w8.heap[b]?:=fun b hb => (y2 b (by omega)).trans (hXo b (by omega))
   have hs8:z7 < w8.heap.size:=HF8.out.lt
   have hRlen:r2 = R.length:=HRL.out
   have hTlen:(ts.map Tn.mir).reverse.length = s2:=by rw [List.length_reverse,List.length_map];exact HL.out.symm
   have hold:∀ b,w.heap.size + 2 ≤ b → b < z7 → Y.heap[b]? = W7.heap[b]?:=fun b h1 h2 => (hkeep b h1).trans (HB8.out.block b h2)
   have hrowY:Y.ownsRow (w.heap.size + 2) 39 2 (.slice c1 r2 c3) r2 (O2 R):=row_kept HR7.out (fun b hb => by have:=HRZ.out b hb;exact hold b (by omega) (by omega))
   have hTY:∀ i,i < s2 → TO Y (MS i) (ts.getD i default).mir (AS i):=fun i hi => (HT7.out i hi).kept fun b hb => hold b (by have:=HA.out i b hi hb;omega) (by have:=(HT7.out i hi).low b hb;have:=HZ7.out;omega)
   have hlow:∀ i b,i < s2 → AS i b → b < z7:=fun i b hi hb => by have:=(HT7.out i hi).low b hb;have:=HZ7.out;omega
   refine ⟨⟨4,c1,r2,c3,fa,some ⟨z7,0,none⟩,s2,s2,a4,a5,a6,a7,a8⟩,rfl,_,TO.build (N:=⟨4,c1,r2,c3,fa,some ⟨z7,0,none⟩,s2,s2,a4,a5,a6,a7,a8⟩) (R:=R) (ts:=(ts.map Tn.mir).reverse) (fun i => MS (s2 - 1 - i)) (fun i => AS (s2 - 1 - i)) z7 ⟨HOK.out.k,HFI.out,HOK.out.a4,HOK.out.a5,HOK.out.a7,HOK.out.a8,HC3.out,⟨Nat.le_refl _,by show s2 ≤ maxLen;unfold maxLen;omega⟩⟩ hRk ?_ ?_ (by omega) ⟨rfl,by rw [hTlen],by rw [hTlen]⟩ (fun i hi => ?_) (fun i j b hi hj hne h h' => ?_) (fun b hb => ?_) (fun i b hi hb => ?_),?_,y4'⟩
   ·rw [← hRlen];exact row_base hrowY (by omega)
   ·rw [hTlen];exact HF8.out.kept (hkeep z7 (by omega))
   ·have hi':i < s2:=by omega
    have e:(ts.map Tn.mir).reverse[i] = (ts.getD (s2 - 1 - i) default).mir:=by
     rw [List.getElem_reverse,List.getElem_map]
     have hl:=HL.out
     rw [getD_lt (by omega)]
     simp only [List.length_map,hl]
    rw [e]
    exact hTY _ (by omega)
   ·exact HD.out (s2 - 1 - i) (s2 - 1 - j) b (by omega) (by omega) (by omega) h h'
   ·have:=HRZ.out b hb;omega
   ·have h1:=HA.out (s2 - 1 - i) b (by omega) hb
    have h2:=hlow (s2 - 1 - i) b (by omega) hb
    exact ⟨by omega,fun h => by have:=HRZ.out b h;omega⟩
   ·rintro b (h | h | ⟨i,hi,h⟩)
    ·have:=HRZ.out b h;omega
    ·have h':some z7 = some b:=h;simp only [Option.some.injEq] at h';omega
    ·have:=HA.out (s2 - 1 - i) b (by omega) h;omega
  ·have k4':(k == 4) = false:=by simpa using k4
   have hY7':=HY7.out
   have g0:=Joins.unfrozen_of_block hY7' 0
   have g1:=Joins.unfrozen_of_block hY7' 1
   have g2:=Joins.unfrozen_of_block hY7' 2
   have g3:=Joins.unfrozen_of_block hY7' 3
   have g4:=Joins.unfrozen_of_block hY7' 4
   have g5:=Joins.unfrozen_of_block hY7' 5
   have g6:=Joins.unfrozen_of_block hY7' 6
   have g7:=Joins.unfrozen_of_block hY7' 7
   have g8:=Joins.unfrozen_of_block hY7' 8
   obtain ⟨y0,y1,y2,y3,y4,y5,y6,y7,y8⟩:=nine' hY7'
   clear hX7 hF7 hY7'
   go_wp2
   obtain ⟨X,hX⟩:∃ X,X = W7:=⟨_,rfl⟩
   rw [← hX]
   have hXo:∀ b,b ≠ w.heap.size → X.heap[b]? = W7.heap[b]?:=fun b hb => by rw [hX]
   have hXs:X.heap.size = W7.heap.size:=by rw [hX]
   have hXb:Below w.heap.size w X:=by rw [hX];exact HB7.out
   obtain ⟨y1,y2,y3,y4⟩:=nineSet X (w.heap.size + 1) (.int .i64 k) (.slice c1 r2 c3) (.int .i64 fa) (.slice (some ⟨z5,0,none⟩) s2 s2) (.int .i64 a4) (.int .i64 a5) (.bool a6) (.int .i64 a7) (.string a8) ((hXo _ (by omega)).trans HY7.out)
   obtain ⟨Y,hY⟩:∃ Y,Y = (((((((((X.setCell ⟨w.heap.size + 1,0,none⟩ (.int .i64 k)).setCell ⟨w.heap.size + 1,1,none⟩ (.slice c1 r2 c3)).setCell ⟨w.heap.size + 1,2,none⟩ (.int .i64 fa)).setCell ⟨w.heap.size + 1,3,none⟩ (.slice (some ⟨z5,0,none⟩) s2 s2)).setCell ⟨w.heap.size + 1,4,none⟩ (.int .i64 a4)).setCell ⟨w.heap.size + 1,5,none⟩ (.int .i64 a5)).setCell ⟨w.heap.size + 1,6,none⟩ (.bool a6)).setCell ⟨w.heap.size + 1,7,none⟩ (.int .i64 a7)).setCell ⟨w.heap.size + 1,8,none⟩ (.string a8)):=⟨_,rfl⟩
   rw [← hY] at y1 y2 y3 y4
   have y4':=y4 hXb (by omega)
   rw [← hY]
   refine bodyPost_ret (results_cell_row rfl _ _ (w.heap.size + 1) 25 _ (0,0) _ rfl y1 Try.underlying25 rfl (by kernel_rfl)) rfl ?_
   have hkeep:∀ b,w.heap.size + 2 ≤ b → Y.heap[b]? = W7.heap[b]?:=fun b hb => (y2 b (by omega)).trans (hXo b (by omega))
   have hRlen:r2 = R.length:=HRL.out
   have hTlen:(ts.map Tn.mir).length = s2:=by rw [List.length_map];exact HL.out.symm
   have hrowY:Y.ownsRow (w.heap.size + 2) 39 2 (.slice c1 r2 c3) r2 (O2 R):=row_kept HR7.out (fun b hb => by have:=HRZ.out b hb;exact hkeep b (by omega))
   have hTY:∀ i,i < s2 → TO Y (MS i) (ts.getD i default).mir (AS i):=fun i hi => (HT7.out i hi).kept fun b hb => hkeep b (by have:=HA.out i b hi hb;omega)
   refine ⟨⟨k,c1,r2,c3,fa,some ⟨z5,0,none⟩,s2,s2,a4,a5,a6,a7,a8⟩,rfl,_,TO.build (N:=⟨k,c1,r2,c3,fa,some ⟨z5,0,none⟩,s2,s2,a4,a5,a6,a7,a8⟩) (R:=R) (ts:=ts.map Tn.mir) MS AS z5 ⟨HOK.out.k,HFI.out,HOK.out.a4,HOK.out.a5,HOK.out.a7,HOK.out.a8,HC3.out,⟨Nat.le_refl _,by show s2 ≤ maxLen;unfold maxLen;omega⟩⟩ hRk ?_ ?_ (by omega) ⟨rfl,by rw [hTlen],by rw [hTlen]⟩ (fun i hi => ?_) (fun i j b hi hj hne h h' => ?_) (fun b hb => ?_) (fun i b hi hb => ?_),?_,y4'⟩
   ·rw [← hRlen];exact row_base hrowY (by omega)
   ·rw [hTlen];exact HF7.out.kept (hkeep z5 (by omega))
   ·have hi':i < s2:=by omega
    have e:(ts.map Tn.mir)[i] = (ts.getD i default).mir:=by
     rw [List.getElem_map,getD_lt (by have:=HL.out;omega)]
    rw [e]
    exact hTY _ (by omega)
   ·exact HD.out i j b (by omega) (by omega) hne h h'
   ·have:=HRZ.out b hb;omega
   ·have h1:=HA.out i b (by omega) hb
    exact ⟨by omega,fun h => by have:=HRZ.out b h;omega⟩
   ·rintro b (h | h | ⟨i,hi,h⟩)
    ·have:=HRZ.out b h;omega
    ·have h':some z5 = some b:=h;simp only [Option.some.injEq] at h';omega
    ·have:=HA.out i b (by omega) h;omega
end Go.Proofs.Ytbdhiichhcihgaa
