/- HELPERS: texts of ours put together. -/
import Derived.Test.YtacaanhnlfpbhaaGreatK05
namespace Go.Proofs.YtacaanhnlfpbhaaGreat
open Go.RowKit
set_option linter.unusedVariables false
set_option linter.unusedSimpArgs false
abbrev BN (w:World) (b:Nat) (N:Nv):Prop:=w.heap[b]?=some (.cells #[.int .i64 N.k,.slice N.r1 N.r2 N.r3,.int .i64 N.a2,.slice N.s1 N.s2 N.s3,.int .i64 N.a4,.int .i64 N.a5,.bool N.a6,.int .i64 N.a7,.string N.a8] 25 (0,0))
theorem optT_dle (y:Tn) (lz:Bool) (n:Nat):(optT y lz n).depth≤y.depth + 2 * n + 1:=by
 cases n with
 | zero=>simp [optT,Tn.depth,depthL]
 | succ n =>
  rw [optT_depth]
  have:n * (1 + if y.kind=1 then 0 else 1)≤n * 2:=Nat.mul_le_mul_left _ (by split <;> omega)
  omega
theorem two_runs {w:World} {A:Nat→Prop} {z g f:Nat} {y o:Tn} {m:Nat} (hz:w.heap[z]?=some (.cells #[pt g,.int .i64 (m:Int),pt f,.int .i64 1] 245 (0,0))) (hzA:A z):RV w A (some ⟨z,0,none⟩) (fun i=>if i=0 then g else f) [(y,m),(o,1)]:=fun _=>by
 refine ⟨z,0,rfl,hzA,fun i hi=>?_⟩
 have h0:w.cell? ⟨z,0,none⟩=some (pt g):=Joins.cell_of_block hz 0
 have h1:w.cell? ⟨z,1,none⟩=some (.int .i64 (m:Int)):=Joins.cell_of_block hz 1
 have h2:w.cell? ⟨z,2,none⟩=some (pt f):=Joins.cell_of_block hz 2
 have h3:w.cell? ⟨z,3,none⟩=some (.int .i64 1):=Joins.cell_of_block hz 3
 have:i=0∨i=1:=by simp at hi;omega
 rcases this with rfl | rfl
 ·exact ⟨h0,h1⟩
 ·exact ⟨h2,h3⟩
theorem join_pair {w:World} {A:Nat→Prop} {z g f:Nat} {y o:Tn} {m:Nat} (hz:w.heap[z]?=some (.cells #[pt g,.int .i64 (m:Int),pt f,.int .i64 1] 245 (0,0))) (hm:m≤1000) (hA:∀ b,A b→b < w.heap.size) (hzA:A z) (hg:FA w A g y) (hf:FA w A f o) (dy:y.depth≤4000000000) (dO:o.depth≤4000000000) :
  Calls Tryz.prog 130 #[.slice (some ⟨z,0,none⟩) 2 2] w fun e w'=>∃ f',e=.returned (pt f')∧FA w' (New A w w') f' (joinT [(y,m),(o,1)])∧Below w.heap.size w w':=by
 refine join43 A (some ⟨z,0,none⟩) 2 _ [(y,m),(o,1)] w hA (two_runs hz hzA) ?_ (by simp) ?_ ?_
 ·intro x hx;simp at hx;rcases hx with rfl | rfl <;> simp <;> omega
 ·intro i hi
  have:i=0∨i=1:=by simp at hi;omega
  rcases this with rfl | rfl
  ·exact hg
  ·exact hf
 ·intro x hx;simp at hx;rcases hx with rfl | rfl <;> assumption
theorem wrapN (x:Nat) (h:x≤4611686018427387904):IntKind.i64.wrap (x:Int)=(x:Int):=by simp [IntKind.wrap,IntKind.bits,IntKind.signed];omega
theorem wrapNN (x y:Nat) (h:x + y≤4611686018427387904):IntKind.i64.wrap ((x:Int) + (y:Int))=(x:Int) + (y:Int):=by simp [IntKind.wrap,IntKind.bits,IntKind.signed];omega
set_option maxRecDepth 100000 in
set_option maxHeartbeats 8000000 in
theorem opt65 (A:Nat→Prop) (g:Nat) (y:Tn) (n:Nat) (lz:Bool) (w:World) (hA:∀ b,A b→b < w.heap.size) (hg:FA w A g y) (hn:n≤1000) (hd:y.depth≤1000000000) :
  Calls Tryz.prog 200 #[pt g,.int .i64 (n:Int),.bool lz] w fun e w'=>∃ f,e=.returned (pt f)∧FA w' (New A w w') f (optT y lz n)∧Below w.heap.size w w':=by
 obtain ⟨W,hW⟩:∃ W,W=((w.alloc (.cells #[pt g] 146)).alloc (.cells #[.int .i64 (n:Int)] 3)).alloc (.cells #[.bool lz] 4):=⟨_,rfl⟩
 obtain ⟨t0,t1,t2,t3⟩:=three_new w (.cells #[pt g] 146) (.cells #[.int .i64 (n:Int)] 3) (.cells #[.bool lz] 4)
 have hbW:Below w.heap.size w W:=by rw [hW];exact ((Joins.below_alloc1 w _).alloc (by simp) _).alloc (by simp;omega) _
 have hsW:W.heap.size=w.heap.size + 1 + 1 + 1:=by rw [hW];simp
 rw [← hW] at t0 t1 t2
 obtain ⟨z,hz⟩:∃ z,z=w.heap.size:=⟨_,rfl⟩
 rw [← hz] at t0 t1 t2 hsW
 have hgW:FA W A g y:=hg.up hA hbW (fun _ h=>h)
 have HAW:Hid (∀ b,A b→b < W.heap.size):=fun b hb=>by have:=hA b hb;have:=hbW.size;omega
 have c0:=bx0 t0
 have c1:=bx0 t1
 have c2:=bx0 t2
 have HBW:=hid hbW
 have HGW:=hid hgW
 have HZ:=hid hz
 have HSW:=hid hsW
 have T0:=hid t0
 have T1:=hid t1
 have T2:=hid t2
 clear hg hbW hgW hsW t0 t1 t2 t3 hA
 rcases Nat.eq_zero_or_pos n with h0 | h0
 ·have b0:((n:Int) == 0)=true:=by simp;omega
  have H0:=hid h0
  clear h0
  have HC:=empty61 A W
  go_enter Tryz.func200,Tryz.ntmps200
  go_upto_region 1 with fail
  rw [← hz,← hW]
  clear hW hz
  go_wp2_with (first | (go_at_call 196;(with_reducible refine HC.mono ?_);rintro e w1 ⟨f,rfl,hf,hb⟩;have HFF:=hid hf;have HB1:=hid hb;clear hf hb HC))
  all_goals go_ret
  all_goals rw [H0.out]
  all_goals exact ⟨f,rfl,HFF.out.kept (fun _ _=>rfl) (fun b hb=>hb.more HBW.out.size (Nat.le_refl _)),HBW.out.trans (Joins.below_le HB1.out (by have:=HZ.out;have:=HSW.out;omega))⟩
 ·have b0:((n:Int) == 0)=false:=by simp;omega
  have HC:=loop66 0 1 lz W
  go_enter Tryz.func200,Tryz.ntmps200
  go_upto_region 1 with fail
  rw [← hz,← hW]
  clear hW hz
  go_upto_region 4 with (first | (go_at_call 201;(with_reducible refine HC.mono ?_);rintro e w1 ⟨rfl,hb⟩;have HB1:=hid hb;clear hb HC))
  obtain ⟨Q,hQ⟩:∃ Q,Q=w1.alloc (.cells #[.int .i64 6,.slice none 0 0,.int .i64 0,.slice none 0 0,.int .i64 0,.int .i64 1,.bool lz,.int .i64 0,.string ⟨#[]⟩] 25):=⟨_,rfl⟩
  rw [← hQ]
  obtain ⟨qb,hqb⟩:∃ qb,qb=w1.heap.size:=⟨_,rfl⟩
  rw [← hqb]
  have hbQ:Below W.heap.size W Q:=by rw [hQ];exact HB1.out.alloc HB1.out.size _
  have hBN:BN Q qb (NO 6 0 1 lz 0 ⟨#[]⟩):=by rw [hQ,hqb];exact heap_alloc_new w1 _
  have hzQ:z + 1 + 1 < W.heap.size:=by have:=HSW.out;omega
  have hqW:W.heap.size≤qb:=by rw [hqb];exact HB1.out.size
  have d0:=bx0 ((hbQ.block z (by omega)).trans T0.out)
  have d1:=bx0 ((hbQ.block (z + 1) (by omega)).trans T1.out)
  obtain ⟨q0,q1,q2,q3,q4,q5,q6,q7,q8⟩:=nine' hBN
  have hAQ:∀ b,A b→b < Q.heap.size:=fun b hb=>by have:=HAW.out b hb;have:=hbQ.size;omega
  have HC2:=over47 A 6 0 1 lz 0 ⟨#[]⟩ g y Q (ok_NO 6 0 1 lz 0 ⟨#[]⟩ (by decide) (by decide) (by decide) (by decide) (Nat.zero_le _)) hAQ (HGW.out.up HAW.out hbQ (fun _ h=>h)) (by omega)
  have HAQ:=hid hAQ
  have HBQ:=hid hbQ
  have HBN:=hid hBN
  have hqQ:qb < Q.heap.size:=(Array.getElem?_eq_some_iff.1 hBN).1
  clear hQ hqb hbQ hBN c0 c1 c2 HB1 hAQ
  by_cases h1:n=1
  ·have b1:((n:Int) == 1)=true:=by simp;omega
   have H1:=hid h1
   clear h1
   go_upto_region 5 with (first | (go_at_call 134;(with_reducible refine HC2.mono ?_);rintro e w2 ⟨f1,rfl,hf1,hb2⟩;have HF1:=hid hf1;have HB2:=hid hb2;have d12:=bx0 ((hb2.block (z + 1) (by omega)).trans ((HBQ.out.block (z + 1) (by omega)).trans T1.out));clear hf1 hb2 HC2))
   go_wp2
   all_goals go_ret
   all_goals rw [H1.out]
   all_goals exact ⟨f1,rfl,HF1.out.kept (fun _ _=>rfl) (fun b hb=>hb.more (Nat.le_trans HBW.out.size HBQ.out.size) (Nat.le_refl _)),(HBW.out.trans (Joins.below_le HBQ.out (by have:=HZ.out;omega))).trans (Joins.below_le HB2.out (by have:=HZ.out;omega))⟩
  ·have b1:((n:Int) == 1)=false:=by simp;omega
   go_upto_region 5 with (first | (go_at_call 134;(with_reducible refine HC2.mono ?_);rintro e w2 ⟨f1,rfl,hf1,hb2⟩;have HF1:=hid hf1;have HB2:=hid hb2;have d12:=bx0 ((hb2.block (z + 1) (by omega)).trans ((HBQ.out.block (z + 1) (by omega)).trans T1.out));clear hf1 hb2 HC2))
   go_upto_region 7 with fail
   have hzs:W.heap.size≤Q.heap.size:=HBQ.out.size
   have hs2:Q.heap.size≤w2.heap.size:=HB2.out.size
   obtain ⟨V,hV⟩:∃ V,V=(w2.alloc (.cells #[pt g,.int .i64 1,pt f1,.int .i64 1] 245)).drew:=⟨_,rfl⟩
   have hVb:Below w2.heap.size w2 V:=by rw [hV];exact (Joins.below_alloc1 w2 _).trans (Joins.below_le (below_drew _) (by simp))
   have hVn:V.heap[w2.heap.size]?=some (.cells #[pt g,.int .i64 ((1:Nat):Int),pt f1,.int .i64 1] 245 (0,0)):=by rw [hV];exact heap_alloc_new w2 _
   have hgy2:FA w2 A g y:=(HGW.out.up HAW.out HBQ.out (fun _ h=>h)).up HAQ.out HB2.out (fun _ h=>h)
   have hA2:∀ b,A b→b < w2.heap.size:=fun b hb=>by have:=HAQ.out b hb;omega
   have hsV:V.heap.size=w2.heap.size + 1:=by rw [hV];show (w2.alloc _).heap.size=_;simp
   have HC3:=join_pair (A:=New A Q V) hVn (by omega) (New.low HAQ.out (by omega)) (.inr ⟨by omega,by omega⟩) (hgy2.up hA2 hVb (fun b hb=>.inl hb)) (HF1.out.up (New.low HAQ.out hs2) hVb (fun b hb=>hb.more (Nat.le_refl _) (by omega))) (by omega) (by rw [loopT_depth];omega)
   have hS:∀ w3,Below w2.heap.size w2 w3→w3.cell? ⟨qb,0,none⟩=some (.int .i64 6)∧w3.cell? ⟨qb,1,none⟩=some (.slice none 0 0)∧w3.cell? ⟨qb,2,none⟩=some (.int .i64 0)∧w3.cell? ⟨qb,3,none⟩=some (.slice none 0 0)∧w3.cell? ⟨qb,4,none⟩=some (.int .i64 0)∧w3.cell? ⟨qb,5,none⟩=some (.int .i64 1)∧w3.cell? ⟨qb,6,none⟩=some (.bool lz)∧w3.cell? ⟨qb,7,none⟩=some (.int .i64 0)∧w3.cell? ⟨qb,8,none⟩=some (.string ⟨#[]⟩)∧w3.cell? ⟨z,0,none⟩=some (pt g):=fun w3 h3=>by
    have hq3:=(h3.block qb (by omega)).trans ((HB2.out.block qb hqQ).trans HBN.out)
    have hz3:=(h3.block z (by omega)).trans ((HB2.out.block z (by omega)).trans ((HBQ.out.block z (by omega)).trans T0.out))
    obtain ⟨q0,q1,q2,q3,q4,q5,q6,q7,q8⟩:=nine' hq3
    exact ⟨q0,q1,q2,q3,q4,q5,q6,q7,q8,bx0 hz3⟩
   have HSS:=hid hS
   have HVB:=hid hVb
   have HD2:=hid (below_drew w2)
   have HGY:=hid hgy2
   have HVV:=hid hV
   have HSV:=hid hsV
   clear hsV hA2 hS hVb hVn hgy2 d0 d1 d12 q0 q1 q2 q3 q4 q5 q6 q7 q8
   go_region_held2 (fun w3=>w3.cell? ⟨qb,0,none⟩=some (.int .i64 6)∧w3.cell? ⟨qb,1,none⟩=some (.slice none 0 0)∧w3.cell? ⟨qb,2,none⟩=some (.int .i64 0)∧w3.cell? ⟨qb,3,none⟩=some (.slice none 0 0)∧w3.cell? ⟨qb,4,none⟩=some (.int .i64 0)∧w3.cell? ⟨qb,5,none⟩=some (.int .i64 1)∧w3.cell? ⟨qb,6,none⟩=some (.bool lz)∧w3.cell? ⟨qb,7,none⟩=some (.int .i64 0)∧w3.cell? ⟨qb,8,none⟩=some (.string ⟨#[]⟩)∧w3.cell? ⟨z,0,none⟩=some (pt g))
    (first | exact HSS.out _ HD2.out | exact HSS.out _ HVB.out | exact HSS.out _ (HD2.out.alloc (Nat.le_refl _) _) | exact HSS.out _ (HVB.out.trans (Joins.below_le HB4.out HVB.out.size)) | exact HSS.out _ (HVB.out.trans (Joins.below_le (HB4.out.trans (Joins.below_le HB5.out HB4.out.size)) HVB.out.size)))
    (first | (go_at_call 130;rw [← HVV.out];(with_reducible refine HC3.mono ?_);rintro e w4 ⟨j4,rfl,hj4,hb4⟩;have HC4:=over47 (New (New A Q V) V w4) 6 0 1 lz 0 ⟨#[]⟩ j4 _ w4 (ok_NO 6 0 1 lz 0 ⟨#[]⟩ (by decide) (by decide) (by decide) (by decide) (Nat.zero_le _)) (New.low (New.low HAQ.out (by have:=HSV.out;omega)) hb4.size) hj4 (by rw [join_two_depth _ _ rfl (by rw [loopT_depth];omega),loopT_depth];split <;> omega);have HB4:=hid hb4;clear hb4 hj4 HC3) | (go_at_call 134;(with_reducible refine HC4.mono ?_);rintro e w5 ⟨f2,rfl,hf2,hb5⟩;have HF2:=hid hf2;have HB5:=hid hb5;clear hf2 hb5 HC4))
   all_goals
    obtain ⟨m,hm⟩:∃ m,n=m + 2:=⟨n - 2,by omega⟩
    have hb25:Below w2.heap.size w2 w5:=HVB.out.trans (Joins.below_le (HB4.out.trans (Joins.below_le HB5.out HB4.out.size)) HVB.out.size)
    have z45:w4.heap.size≤w5.heap.size:=HB5.out.size
    have zV4:V.heap.size≤w4.heap.size:=HB4.out.size
    have hsV:=HSV.out
    have hF1:FA w5 (New A Q w5) f1 (optT y lz 1):=HF1.out.up (New.low HAQ.out hs2) hb25 (fun b hb=>hb.more (Nat.le_refl _) (by omega))
    have hF2:FA w5 (New A Q w5) f2 (optT y lz 2):=HF2.out.kept (fun _ _=>rfl) (fun b hb=>(hb.trans z45 zV4).trans (by omega) (by omega))
    have hG5:FA w5 A g y:=HGY.out.up (fun b hb=>by have:=HAQ.out b hb;omega) hb25 (fun _ h=>h)
    have hA5:∀ b,New A Q w5 b→b < w5.heap.size:=New.low HAQ.out (by omega)
    have HA5:Hid (∀ b,A b→b < w5.heap.size):=fun b hb=>hA5 b (.inl hb)
    obtain ⟨hf1a,N1,ev1,hc1,_⟩:=hF1.cells
    obtain ⟨hf2a,N2,ev2,hc2,_⟩:=hF2.cells
    have hf1l:=hA5 _ hf1a
    have hf2l:=hA5 _ hf2a
    clear hf1a hf2a hA5 hsV
    obtain ⟨_,_,x10,x11⟩:=hc1.num
    obtain ⟨_,_,y10,y11⟩:=hc2.num
    have eN:=optT_capN y lz m
    have eD:=optT_dep y lz m
    have dd1:=optT_dle y lz 1
    have dd2:=optT_dle y lz 2
    have le1:(optT y lz 1).depth≤(optT y lz 2).depth:=by rw [optT_depth y lz 0,optT_depth y lz 1];omega
    have le2:capN (optT y lz 1).nodes≤capN (optT y lz 2).nodes:=by rw [optT_nodes y lz 0,optT_nodes y lz 1];unfold capN;omega
    rw [← hm] at eN eD
    have cle:capN (optT y lz 2).nodes≤200001:=by unfold capN;omega
    obtain ⟨a,ha⟩:∃ a,a=capN (optT y lz 1).nodes:=⟨_,rfl⟩
    obtain ⟨b,hb⟩:∃ b,b=capN (optT y lz 2).nodes:=⟨_,rfl⟩
    obtain ⟨d1,hd1⟩:∃ d1,d1=(optT y lz 1).depth:=⟨_,rfl⟩
    obtain ⟨d2,hd2⟩:∃ d2,d2=(optT y lz 2).depth:=⟨_,rfl⟩
    rw [← ha] at x10 eN le2
    rw [← hb] at y10 eN le2 cle
    rw [← hd1] at x11 eD le1 dd1
    rw [← hd2] at y11 eD le1 dd2
    clear ha hb hd1 hd2 hc1 hc2
    have m1:(m + 1) * (b - a)≤1000 * 200001:=Nat.mul_le_mul (by omega) (by omega)
    have m2:(m + 1) * (d2 - d1)≤1000 * 1000000005:=Nat.mul_le_mul (by omega) (by omega)
    have c1:((n:Int) - 1) * ((b:Int) - (a:Int))=(((m + 1) * (b - a):Nat):Int):=by rw [hm];push_cast [le2];congr 1;omega
    have c2:((n:Int) - 1) * ((d2:Int) - (d1:Int))=(((m + 1) * (d2 - d1):Nat):Int):=by rw [hm];push_cast [le1];congr 1;omega
    have w1':IntKind.i64.wrap ((n:Int) - 1)=(n:Int) - 1:=by simp [IntKind.wrap,IntKind.bits,IntKind.signed];omega
    have w2':IntKind.i64.wrap ((b:Int) - (a:Int))=(b:Int) - (a:Int):=by simp [IntKind.wrap,IntKind.bits,IntKind.signed];omega
    have w3':IntKind.i64.wrap (((n:Int) - 1) * ((b:Int) - (a:Int)))=((n:Int) - 1) * ((b:Int) - (a:Int)):=by rw [c1];exact wrapN _ (by omega)
    have w4':IntKind.i64.wrap ((a:Int) + ((n:Int) - 1) * ((b:Int) - (a:Int)))=(a:Int) + ((n:Int) - 1) * ((b:Int) - (a:Int)):=by rw [c1];exact wrapNN _ _ (by omega)
    have w5':IntKind.i64.wrap ((d2:Int) - (d1:Int))=(d2:Int) - (d1:Int):=by simp [IntKind.wrap,IntKind.bits,IntKind.signed];omega
    have w6':IntKind.i64.wrap (((n:Int) - 1) * ((d2:Int) - (d1:Int)))=((n:Int) - 1) * ((d2:Int) - (d1:Int)):=by rw [c2];exact wrapN _ (by omega)
    have w7':IntKind.i64.wrap ((d1:Int) + ((n:Int) - 1) * ((d2:Int) - (d1:Int)))=(d1:Int) + ((n:Int) - 1) * ((d2:Int) - (d1:Int)):=by rw [c2];exact wrapNN _ _ (by omega)
    have HC6:∀ W':World,Calls Tryz.prog 197 #[.int .i64 ((a:Int) + ((n:Int) - 1) * ((b:Int) - (a:Int)))] W' fun e w'=>e=.returned (.int .i64 ((capN (a + (m + 1) * (b - a)):Nat):Int))∧w'=W':=fun W'=>by
     have:=atMost62 (a + (m + 1) * (b - a)) W' (by omega)
     rwa [show ((a + (m + 1) * (b - a):Nat):Int)=(a:Int) + ((n:Int) - 1) * ((b:Int) - (a:Int)) by rw [c1];push_cast;rfl] at this
    have eD':((optT y lz n).depth:Int)=(d1:Int) + ((n:Int) - 1) * ((d2:Int) - (d1:Int)):=by rw [c2,eD];push_cast;rfl
    rw [← eN] at HC6
    have hS5:∀ w3,Below w5.heap.size w5 w3→(w3.cell? ⟨qb,0,none⟩=some (.int .i64 6)∧w3.cell? ⟨qb,1,none⟩=some (.slice none 0 0)∧w3.cell? ⟨qb,2,none⟩=some (.int .i64 0)∧w3.cell? ⟨qb,3,none⟩=some (.slice none 0 0)∧w3.cell? ⟨qb,4,none⟩=some (.int .i64 0)∧w3.cell? ⟨qb,5,none⟩=some (.int .i64 1)∧w3.cell? ⟨qb,6,none⟩=some (.bool lz)∧w3.cell? ⟨qb,7,none⟩=some (.int .i64 0)∧w3.cell? ⟨qb,8,none⟩=some (.string ⟨#[]⟩)∧w3.cell? ⟨z,0,none⟩=some (pt g)) ∧
      w3.cell? ⟨z + 1,0,none⟩=some (.int .i64 (n:Int))∧w3.cell? ⟨f1,10,none⟩=some (.int .i64 (a:Int))∧w3.cell? ⟨f1,11,none⟩=some (.int .i64 (d1:Int))∧w3.cell? ⟨f2,10,none⟩=some (.int .i64 (b:Int))∧w3.cell? ⟨f2,11,none⟩=some (.int .i64 (d2:Int)):=fun w3 h3=>by
     refine ⟨HSS.out _ (hb25.trans (Joins.below_le h3 hb25.size)),?_,(cell_eq (h3.block f1 hf1l) _).trans x10,(cell_eq (h3.block f1 hf1l) _).trans x11,(cell_eq (h3.block f2 hf2l) _).trans y10,(cell_eq (h3.block f2 hf2l) _).trans y11⟩
     have:=hb25.size
     exact bx0 ((h3.block (z + 1) (by omega)).trans ((hb25.block (z + 1) (by omega)).trans ((HB2.out.block (z + 1) (by omega)).trans ((HBQ.out.block (z + 1) (by omega)).trans T1.out))))
    have HS5:=hid hS5
    have HD5:=hid (below_drew w5)
    have HEN:=hid eN
    have HED:=hid eD'
    have HM:=hid hm
    have HB25:=hid hb25
    have HG5:=hid hG5
    clear hS5 eN eD eD' hm hb25 hG5 hF1 hF2 x10 x11 y10 y11 c1 c2 HSS
    obtain ⟨AA,hAA⟩:∃ AA,AA=capN (optT y lz n).nodes:=⟨_,rfl⟩
    rw [← hAA] at HC6
    have HA:=hid hAA
    clear hAA
    go_upto_region 8 with fail
    go_region_held2 (fun w3=>(w3.cell? ⟨qb,0,none⟩=some (.int .i64 6)∧w3.cell? ⟨qb,1,none⟩=some (.slice none 0 0)∧w3.cell? ⟨qb,2,none⟩=some (.int .i64 0)∧w3.cell? ⟨qb,3,none⟩=some (.slice none 0 0)∧w3.cell? ⟨qb,4,none⟩=some (.int .i64 0)∧w3.cell? ⟨qb,5,none⟩=some (.int .i64 1)∧w3.cell? ⟨qb,6,none⟩=some (.bool lz)∧w3.cell? ⟨qb,7,none⟩=some (.int .i64 0)∧w3.cell? ⟨qb,8,none⟩=some (.string ⟨#[]⟩)∧w3.cell? ⟨z,0,none⟩=some (pt g)) ∧
      w3.cell? ⟨z + 1,0,none⟩=some (.int .i64 (n:Int))∧w3.cell? ⟨f1,10,none⟩=some (.int .i64 (a:Int))∧w3.cell? ⟨f1,11,none⟩=some (.int .i64 (d1:Int))∧w3.cell? ⟨f2,10,none⟩=some (.int .i64 (b:Int))∧w3.cell? ⟨f2,11,none⟩=some (.int .i64 (d2:Int)))
     (first | exact HS5.out _ HD5.out | exact HS5.out _ (HD5.out.alloc (Nat.le_refl _) _))
     (first | (go_at_call 197;(with_reducible refine (HC6 _).mono ?_);rintro e w6 ⟨rfl,hw1⟩;have hw2:=hw1.symm;clear hw1;subst hw2))
    all_goals
     go_wp2
     go_ret
     have hz:=HZ.out
     have hs:=HSW.out
     have h25:=HB25.out.size
     have hall:Below w.heap.size w w5:=((HBW.out.trans (Joins.below_le HBQ.out (by omega))).trans (Joins.below_le HB2.out (by omega))).trans (Joins.below_le HB25.out (by omega))
     have hnew:Below w.heap.size w (w5.alloc (.cells (FV (NO 6 0 1 lz 0 ⟨#[]⟩) (.func (.func 232) #[] #[pt z,pt (z + 1),pt (z + 1 + 1)]) AA ((d1:Int) + ((n:Int) - 1) * ((d2:Int) - (d1:Int)))) 151)).drew:=(hall.alloc (by omega) _).trans (Joins.below_le (below_drew _) (by simp;omega))
     have hsz:(w5.alloc (.cells (FV (NO 6 0 1 lz 0 ⟨#[]⟩) (.func (.func 232) #[] #[pt z,pt (z + 1),pt (z + 1 + 1)]) AA ((d1:Int) + ((n:Int) - 1) * ((d2:Int) - (d1:Int)))) 151)).drew.heap.size=w5.heap.size + 1:=by show (w5.alloc _).heap.size=_;simp
     have hnn:(w5.alloc (.cells (FV (NO 6 0 1 lz 0 ⟨#[]⟩) (.func (.func 232) #[] #[pt z,pt (z + 1),pt (z + 1 + 1)]) AA ((d1:Int) + ((n:Int) - 1) * ((d2:Int) - (d1:Int)))) 151)).drew.heap[w5.heap.size]?=some (.cells (FV (NO 6 0 1 lz 0 ⟨#[]⟩) (.func (.func 232) #[] #[pt z,pt (z + 1),pt (z + 1 + 1)]) AA ((d1:Int) + ((n:Int) - 1) * ((d2:Int) - (d1:Int)))) 151 (0,0)):=heap_alloc_new w5 _
     have hold:∀ b,b < w5.heap.size→(w5.alloc (.cells (FV (NO 6 0 1 lz 0 ⟨#[]⟩) (.func (.func 232) #[] #[pt z,pt (z + 1),pt (z + 1 + 1)]) AA ((d1:Int) + ((n:Int) - 1) * ((d2:Int) - (d1:Int)))) 151)).drew.heap[b]?=w5.heap[b]?:=fun b hb=>heap_alloc_old w5 _ hb
     generalize (w5.alloc (.cells (FV (NO 6 0 1 lz 0 ⟨#[]⟩) (.func (.func 232) #[] #[pt z,pt (z + 1),pt (z + 1 + 1)]) AA ((d1:Int) + ((n:Int) - 1) * ((d2:Int) - (d1:Int)))) 151)).drew=U at hnew hsz hnn hold ⊢
     have hzz:∀ b,b < W.heap.size→U.heap[b]?=W.heap[b]?:=fun b hb=>(hold b (by omega)).trans ((HB25.out.block b (by omega)).trans ((HB2.out.block b (by omega)).trans (HBQ.out.block b hb)))
     refine ⟨w5.heap.size,rfl,?_,hnew⟩
     have hm:=HM.out
     subst hm
     refine .opt (b1:=z) (b2:=z + 1) (b3:=z + 1 + 1) (g:=g) (n:=m) (.inr ⟨by omega,by omega⟩) ?_ ((hzz z (by omega)).trans T0.out) ((hzz (z + 1) (by omega)).trans T1.out) ((hzz (z + 1 + 1) (by omega)).trans T2.out) (.inr ⟨by omega,by omega⟩) (.inr ⟨by omega,by omega⟩) (.inr ⟨by omega,by omega⟩) hn hd (HG5.out.kept (fun b hb=>hold b (HA5.out b hb)) (fun b hb=>.inl hb))
     unfold FC
     rw [HED.out,← HA.out]
     exact hnn
theorem fine_kind {k:Int} {R:List (Int × Int)} {a:Int} {n:Nat} {mn mx:Int} {lz:Bool} {ix:Int} {nm:ByteArray} (h:nodeB k R a n mn mx lz ix nm=true) :
  ((k=1∨k=2∨k=3)∧n=0∧R.length≤5000)∨((k=4∨k=5)∧2≤n)∨(k=6∧n=1∧0≤mn∧mn≤1000∧(mx=-1∨mn≤mx∧mx≤1000))∨(k=7∧n=1∧1≤ix∧ix≤500):=by
 have hk:k=1∨k=2∨k=3∨k=4∨k=5∨k=6∨k=7:=(fine_node h).kind
 rcases hk with rfl | rfl | rfl | rfl | rfl | rfl | rfl
 ·simp [nodeB,bareB] at h;left;refine ⟨by omega,by omega,?_⟩;have:=h.1;simp [h]
 ·simp [nodeB,bareB] at h;left;exact ⟨by omega,by omega,rightB_len h.1⟩
 ·simp [nodeB,bareB] at h;left;refine ⟨by omega,by omega,?_⟩;simp [h]
 ·simp [nodeB,bareB] at h;right;left;exact ⟨by omega,by omega⟩
 ·simp [nodeB,bareB] at h;right;left;exact ⟨by omega,by omega⟩
 ·simp [nodeB,bareB] at h;right;right;left;exact ⟨rfl,by omega,by omega,by omega,by omega⟩
 ·simp [nodeB,bareB] at h;right;right;right;exact ⟨rfl,by omega,by omega,by omega⟩
theorem rowS_dle (k:Int) (l:List (Tn × Nat)) {M:Nat} (h:∀ x ∈ l,x.1.depth≤M):depthL (rowS k l)≤M:=depthL_le_of fun t ht=>by
 simp only [rowS,List.mem_flatMap,List.mem_flatten,List.mem_replicate] at ht
 obtain ⟨x,hx,y,⟨_,rfl⟩,hy⟩:=ht
 have h1:=h x hx
 unfold within at hy
 split at hy
 ·have:=depthL_mem hy;have:=x.1.depth_subs;omega
 ·simp at hy;subst hy;exact h1
theorem joinT_dle (l:List (Tn × Nat)) {M:Nat} (h:∀ x ∈ l,x.1.depth≤M):(joinT l).depth≤M + 1:=by
 unfold joinT joinK
 split
 ·simp [Tn.depth,depthL]
 ·split
  ·cases hl:l.filter keep with
   | nil=>simp [Tn.depth,depthL]
   | cons x l' =>
    simp only [List.headD_cons]
    have:x ∈ l.filter keep:=by rw [hl];simp
    have:=h x (List.mem_filter.1 this).1
    omega
  ·rw [rowT_depth]
   have:=rowS_dle 4 (l.filter keep) (M:=M) (fun x hx=>h x (List.mem_filter.1 hx).1)
   omega
theorem repT_dle (y:Tn) (mn mx:Int) (lz:Bool) (h1:0≤mn) (h2:mn≤1000) (h3:mx=-1∨mn≤mx∧mx≤1000):(repT y mn mx lz).depth≤y.depth + 2002:=by
 unfold repT
 split
 ·refine joinT_dle _ (M:=y.depth + 2001) fun x hx=>?_
  simp at hx
  rcases hx with rfl | rfl
  ·simp
  ·have:=optT_dle y lz (mx - mn).toNat
   simp only
   omega
 ·split
  ·rw [loopT_depth];omega
  ·refine Nat.le_trans (joinT_dle _ (M:=y.depth + 1) fun x hx=>?_) (by omega)
   simp at hx
   rcases hx with rfl | rfl
   ·simp
   ·simp only [loopT_depth];omega
theorem SL_len (ts:List Tn):(SL ts).length=ts.length:=by rw [SL_map];simp
theorem SL_head {ts:List Tn} (h:0 < ts.length):(SL ts).headD emptyT=(ts[0]'h).S:=by
 cases ts with
 | nil=>simp at h
 | cons t ts=>rfl
mutual
theorem S_depth:∀ t:Tn,t.fine=true→t.S.depth≤2003 * t.depth
 | .mk k R a s mn mx lz ix nm,h=>by
  simp only [Tn.fine,Bool.and_eq_true] at h
  have ih:=SL_depth s h.2
  have hd:(Tn.mk k R a s mn mx lz ix nm).depth=1 + depthL s:=by simp only [Tn.depth]
  rw [hd]
  have hhead:((SL s).headD emptyT).depth≤2003 * depthL s + 1:=by
   cases hs:SL s with
   | nil=>simp [Tn.depth,depthL]
   | cons u l=>simp only [List.headD_cons];have:=ih u (by rw [hs];simp);omega
  simp only [Tn.S]
  split
  ·refine Nat.le_trans (joinT_dle _ (M:=2003 * depthL s) fun x hx=>?_) (by omega)
   obtain ⟨u,hu,rfl⟩:=List.mem_map.1 hx
   exact ih u hu
  ·split
   ·rw [rowT_depth]
    have:=rowS_dle 5 (ones (SL s)) (M:=2003 * depthL s) (fun x hx=>by obtain ⟨u,hu,rfl⟩:=List.mem_map.1 hx;exact ih u hu)
    omega
   ·split
    ·rcases fine_kind h.1 with h1 | h1 | h1 | h1
     ·omega
     ·omega
     ·have h1':=h1
      have hl:0 < s.length:=by omega
      have hm:(SL s).headD emptyT ∈ SL s:=by
       cases hs:SL s with
       | nil=>have:=SL_len s;rw [hs] at this;simp at this;omega
       | cons u l=>simp
      have:=ih _ hm
      have:=repT_dle ((SL s).headD emptyT) mn mx lz h1.2.2.1 h1.2.2.2.1 h1.2.2.2.2
      omega
     ·omega
    ·split
     ·simp only [Tn.depth,depthL];omega
     ·simp only [Tn.depth,depthL];omega
theorem SL_depth:∀ ts:List Tn,fineL ts=true→∀ u ∈ SL ts,u.depth≤2003 * depthL ts
 | [],_=>fun u hu=>by simp [SL] at hu
 | t :: ts,h=>fun u hu=>by
  simp only [fineL,Bool.and_eq_true] at h
  simp only [SL,List.mem_cons] at hu
  simp only [depthL]
  rcases hu with rfl | hu
  ·have:=S_depth t h.1;omega
  ·have:=SL_depth ts h.2 u hu;omega
end
set_option maxRecDepth 100000 in
set_option maxHeartbeats 8000000 in
theorem onceEach44 (A:Nat→Prop) (n:Nat) (NS:Nat→Nv) (us:Nat→Tn) (ad:Option Addr) (cap:Nat) (w:World) (hA:∀ b,A b→b < w.heap.size) (hn:n≤200000) (hs:0 < n→∃ b o,ad=some ⟨b,o,none⟩∧b < w.heap.size∧∀ i,i < n→N9 w b o i (NS i))
  (IH:Hid (∀ i,i < n→∀ w1:World,w.heap.size≤w1.heap.size→(∀ b,b < w.heap.size→w1.heap[b]?=w.heap[b]?)→Calls Tryz.prog 91 #[(NS i).v] w1 fun e w'=>∃ f,e=.returned (pt f)∧FA w' (New A w1 w') f (us i)∧Below w1.heap.size w1 w')) :
  Calls Tryz.prog 131 #[.slice ad n cap] w fun e w'=>∃ (v:Value) (K:List Rn),e=.returned v∧K.length=n∧w'.ownsRow w.heap.size 245 2 v K.length (K.flatMap rcs)∧(∀ i (hi:i < K.length),K[i].2=(us i,1)∧FA w' (New A w w') K[i].1 (us i))∧Below w.heap.size w w':=by
 obtain ⟨i0,hi0,hz0,hz1,hz2⟩:=info_parts info92
 obtain ⟨z,hz⟩:∃ z,z=w.heap.size:=⟨_,rfl⟩
 have HS:=hid hs
 have HZ:=hid hz
 have HAA:=hid hA
 rw [← hz]
 clear hs hz hA
 go_enter Tryz.func131,Tryz.ntmps131
 go_wp2_with fail
 go_loopw [3,8] (fun u y wq=>∃ i:Nat,y=.int .i64 (i:Int)∧i≤n∧Hid (Below z w wq)∧∃ K:List Rn,Hid (K.length=i)∧Hid (wq.ownsRow z 245 2 u i (K.flatMap rcs))∧Hid (∀ j (hj:j < K.length),K[j].2=(us j,1)∧∃ A',FA wq A' K[j].1 (us j)∧(∀ b,A' b→New A w wq b∧u.ownBlock≠some b))) (fun _ y _=>n - (intOf y).toNat)
 case atStart=>exact ⟨0,rfl,by omega,(by have:=Below.refl z w;exact this),[],rfl,World.ownsRow_nil _ _ _ _,fun j hj=>by simp at hj⟩
 case round =>
  obtain ⟨i,rfl,hi,BK,K,HKL,HO,HF⟩:=hrel
  by_cases hil:i < n
  ·have b1:decide ((i:Int) < (n:Int))=true:=by simp;omega
   have b2:(i:Int) < (n:Int):=by omega
   have ad1:IntKind.i64.wrap ((i:Int) + 1)=(i:Int) + 1:=by simp [IntKind.wrap,IntKind.bits,IntKind.signed];omega
   obtain ⟨b,o,rfl,hb,hc⟩:=HS.out (by omega)
   obtain ⟨n0,n1,n2,n3,n4,n5,n6,n7,n8⟩:=(hc i hil).kept (BK.out.block b (by have:=HZ.out;omega))
   have hzr:z≤wr.heap.size:=by have:=BK.out.size;have:=HZ.out;omega
   have hub:∀ k,u3.ownBlock=some k→z≤k∧k < wr.heap.size:=fun k hk=>HO.out.lt k hk
   have HC:=IH.out i hil (wr.alloc (.cells #[.int .i64 (NS i).k,.slice (NS i).r1 (NS i).r2 (NS i).r3,.int .i64 (NS i).a2,.slice (NS i).s1 (NS i).s2 (NS i).s3,.int .i64 (NS i).a4,.int .i64 (NS i).a5,.bool (NS i).a6,.int .i64 (NS i).a7,.string (NS i).a8] 25)) (by have:=HZ.out;simp;omega) (fun b hb=>(heap_alloc_old _ _ (by have:=HZ.out;omega)).trans (BK.out.block b (by have:=HZ.out;omega)))
   obtain ⟨P,hP⟩:∃ P,P=NS i:=⟨_,rfl⟩
   rw [← hP] at HC n0 n1 n2 n3 n4 n5 n6 n7 n8
   obtain ⟨u,hu⟩:∃ u,u=us i:=⟨_,rfl⟩
   rw [← hu] at HC
   have HU:=hid hu
   obtain ⟨V0,hV0⟩:∃ V0,V0=wr.alloc (.cells #[.int .i64 P.k,.slice P.r1 P.r2 P.r3,.int .i64 P.a2,.slice P.s1 P.s2 P.s3,.int .i64 P.a4,.int .i64 P.a5,.bool P.a6,.int .i64 P.a7,.string P.a8] 25):=⟨_,rfl⟩
   have hB0:Below wr.heap.size wr V0:=by rw [hV0];exact Joins.below_alloc1 wr _
   have hs0:V0.heap.size=wr.heap.size + 1:=by rw [hV0];simp
   rw [← hV0] at HC
   have HB0:=hid hB0
   have HS0:=hid hs0
   have HUB:=hid hub
   have HV0:=hid hV0
   clear hc hP hu hB0 hs0 hub hV0
   go_upto_region 6 with (first | (go_at_call 91;rw [← HV0.out];(with_reducible refine HC.mono ?_);rintro e w2 ⟨f,rfl,hf,hb2⟩;have HFF:=hid hf;have HB2:=hid hb2;clear hf hb2 HC;obtain ⟨V2,hV2⟩:∃ V2,V2=w2.alloc (.cells #[pt f,.int .i64 1] 245):=⟨_,rfl⟩;have hO2:V2.ownsRow z 245 2 u3 i (K.flatMap rcs):=(by rw [hV2];exact (row_kept HO.out fun k hk=>(HB2.out.block k (by have:=HUB.out k hk;have:=HS0.out;omega)).trans (HB0.out.block k (HUB.out k hk).2)).alloc _);have hN2:V2.heap[w2.heap.size]?=some (.cells #[pt f,.int .i64 1] 245 (0,0)):=(by rw [hV2];exact heap_alloc_new w2 _);have hnews:∀ j u,[pt f,.int .i64 1][j]?=some u→V2.cell? ((⟨w2.heap.size,0,none⟩:Addr).add j)=some u:=(fun j u hj=>by rw [Addr.add_mid,Nat.zero_add,Joins.cell_of_block hN2 j];simpa using hj);have HO2:=hid hO2;have HNW:=hid hnews;have HV2:=hid hV2;clear hO2 hnews hV2 hN2) | (at_builtin;rw [← HV2.out];refine wpList_append_moveN rfl (.tmp 12) (.tmp 16) 194 rfl z 245 i0 (.agg #[.pointer none,.int .i64 0]) 2 16 Tryz.underlying194 hi0 hz0 hz1 hz2 rfl (by decide) u3 i (K.flatMap rcs) rfl HO2.out ⟨w2.heap.size,0,none⟩ 1 1 [pt f,.int .i64 1] rfl rfl (by decide) HNW.out (by simp [Value.oneCell']) (by unfold maxLen;omega) (by omega) (by rw [HV2.out];have:=HB2.out.size;have:=HS0.out;simp;omega) ?_;intro v5 w5 ho5 hm5))
   go_wp2
   have hs0:=HS0.out
   have hs2:=HB2.out.size
   have hz:=HZ.out
   have hV2s:V2.heap.size=w2.heap.size + 1:=by rw [HV2.out];simp
   have hb2:Below z w V2:=by rw [HV2.out];exact ((BK.out.trans (Joins.below_le HB0.out (by omega))).trans (Joins.below_le HB2.out (by omega))).alloc (by omega) _
   have hb5:=moved_below hb2 (by omega) (fun k hk=>(HO2.out.lt k hk).1) hm5.out
   have hold2:∀ b,b < w2.heap.size→u3.ownBlock≠some b→w5.heap[b]?=w2.heap[b]?:=fun b hb hn=>(moved_old' hm5.out (by omega) hn).trans (by rw [HV2.out];exact heap_alloc_old w2 _ hb)
   have hv5:∀ b,b < w2.heap.size→u3.ownBlock≠some b→v5.ownBlock≠some b:=fun b hb hn e=>by
    rcases hm5.out with ⟨h0,_⟩ | ⟨h0,_⟩
    ·rw [h0] at e;exact hn e
    ·rw [h0] at e;simp at e;omega
   refine ⟨⟨i + 1,by push_cast;rfl,by omega,hb5.1,K ++ [(f,(u,1))],?_,?_,?_⟩,by simp [intOf];omega⟩
   ·show (K ++ [(f,(u,1))]).length=i + 1
    simp [HKL.out]
   ·have h:=ho5.out
    rw [List.flatMap_append]
    exact h
   ·intro j hj
    simp only [List.length_append,List.length_cons,List.length_nil] at hj
    by_cases hjl:j < K.length
    ·rw [List.getElem_append_left hjl]
     obtain ⟨h1,A',h2,h3⟩:=HF.out j hjl
     have hlo:∀ b,A' b→b < wr.heap.size:=fun b hb=>New.low HAA.out (by omega) b (h3 b hb).1
     refine ⟨h1,A',h2.kept (fun b hb=>(hold2 b (by have:=hlo b hb;omega) (h3 b hb).2).trans ((HB2.out.block b (by have:=hlo b hb;omega)).trans (HB0.out.block b (hlo b hb)))) (fun _ h=>h),fun b hb=>⟨(h3 b hb).1.more (Nat.le_refl _) (by omega),hv5 b (by have:=hlo b hb;omega) (h3 b hb).2⟩⟩
    ·have e:j=K.length:=by omega
     have hji:j=i:=by rw [e];exact HKL.out
     rw [List.getElem_append_right (by omega)]
     simp only [e,Nat.sub_self,List.getElem_cons_zero]
     rw [← e,hji,← HU.out]
     have hne:∀ b,New A V0 w2 b→u3.ownBlock≠some b:=fun b hb e=>by
      have:=HUB.out b e
      rcases hb with hb | hb
      ·have:=HAA.out b hb;omega
      ·omega
     have hlo:∀ b,New A V0 w2 b→b < w2.heap.size:=New.low (fun b hb=>by have:=HAA.out b hb;omega) (by omega)
     exact ⟨rfl,New A V0 w2,HFF.out.kept (fun b hb=>hold2 b (hlo b hb) (hne b hb)) (fun _ h=>h),fun b hb=>⟨hb.more (by omega) (by omega),hv5 b (hlo b hb) (hne b hb)⟩⟩
  ·have b1:decide ((i:Int) < (n:Int))=false:=by simp;omega
   obtain rfl:i=n:=by omega
   go_wp2
   all_goals go_ret
   all_goals
    refine ⟨u3,K,rfl,HKL.out,by rw [HKL.out];exact HO.out,fun j hj=>?_,BK.out⟩
    obtain ⟨h1,A',h2,h3⟩:=HF.out j hj
    exact ⟨h1,h2.kept (fun _ _=>rfl) (fun b hb=>(h3 b hb).1)⟩
end Go.Proofs.YtacaanhnlfpbhaaGreat
