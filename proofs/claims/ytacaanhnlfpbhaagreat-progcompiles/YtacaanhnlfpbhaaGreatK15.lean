/- HELPERS: texts of ours put together. -/
import Derived.Test.YtacaanhnlfpbhaaGreatK14
namespace Go.Proofs.YtacaanhnlfpbhaaGreat
open Go.RowKit
set_option linter.unusedVariables false
set_option linter.unusedSimpArgs false
set_option maxRecDepth 100000 in
set_option maxHeartbeats 8000000 in
theorem lay49_94Q {base:Nat} {A:AG} {N:Nv} {t:Tn} (hA:∀ b,A b→b < base) (hw:∀ m w,Calls Tryz.prog 138 #[pt m,N.v] w fun e w'=>e=.returned (.func (.func 204) #[pt m] #[])∧Below w.heap.size w w') (hl:LPQ 204 base A N t):LPQ 94 base A N t:=by
 intro w m l hM hm hb hT hlen
 obtain ⟨U,hU⟩:∃ U,U=w.alloc (.cells #[.int .i64 N.k,.slice N.r1 N.r2 N.r3,.int .i64 N.a2,.slice N.s1 N.s2 N.s3,.int .i64 N.a4,.int .i64 N.a5,.bool N.a6,.int .i64 N.a7,.string N.a8] 25):=⟨_,rfl⟩
 have hbU:Below w.heap.size w U:=by rw [hU];exact Joins.below_alloc1 w _
 have hQ:BNo U w.heap.size N:=by rw [hU];exact heap_alloc_new w _
 have hpU:w.heap.size < U.heap.size:=(Array.getElem?_eq_some_iff.1 hQ).1
 have hbU2:base≤U.heap.size:=Nat.le_trans hb hbU.size
 have HSS:Hid (∀ W,Below U.heap.size U W→Calls Tryz.prog 204 #[pt m,N.v] W fun e w'=>e=.returned (.tuple #[])∧MKLQ w' m base A (l ++ t.lay l.length)∧Fr base W w'):=fun W hW =>
  hl W m l ((hM.below hbU hA (by omega)).below hW hA (by omega)) hm (Nat.le_trans hbU2 hW.size) (hT.kept (fun b hb'=>(hW.block b (by have:=hA b hb';omega)).trans (hbU.block b (by have:=hA b hb';omega))) (fun _ h=>h)) hlen
 have HF:=hid (Fr.of_below hbU hb)
 have HW:=fun W=>hw m W
 have HQ:=hid hQ
 obtain ⟨c0,c1,c2,c3,c4,c5,c6,c7,c8⟩:=nine' hQ
 obtain ⟨p,hp⟩:∃ p,p=w.heap.size:=⟨_,rfl⟩
 rw [← hp] at c0 c1 c2 c3 c4 c5 c6 c7 c8 hpU HQ
 clear hM hbU hQ hw hl hT hlen
 go_enter Tryz.func94,Tryz.ntmps94
 go_upto_region 1 with fail
 rw [← hU,← hp]
 clear hU hp
 go_region_held3 (fun W=>W.cell? ⟨p,0,none⟩=some (.int .i64 N.k)∧W.cell? ⟨p,1,none⟩=some (.slice N.r1 N.r2 N.r3)∧W.cell? ⟨p,2,none⟩=some (.int .i64 N.a2)∧W.cell? ⟨p,3,none⟩=some (.slice N.s1 N.s2 N.s3)∧W.cell? ⟨p,4,none⟩=some (.int .i64 N.a4)∧W.cell? ⟨p,5,none⟩=some (.int .i64 N.a5)∧W.cell? ⟨p,6,none⟩=some (.bool N.a6)∧W.cell? ⟨p,7,none⟩=some (.int .i64 N.a7)∧W.cell? ⟨p,8,none⟩=some (.string N.a8)) (first | (exact ⟨j0,j1,j2,j3,j4,j5,j6,j7,j8⟩) | (exact ⟨k0,k1,k2,k3,k4,k5,k6,k7,k8⟩) | (simp [*];done)) (first | (go_at_call 138;(with_reducible refine (HW _).mono ?_);rintro e w2 ⟨rfl,hb2⟩;have hbb:Below U.heap.size U w2:=⟨hb2.os,hb2.tape,hb2.output,hb2.size,hb2.block⟩;obtain ⟨k0,k1,k2,k3,k4,k5,k6,k7,k8⟩:=nine' ((hbb.block p hpU).trans HQ.out);have HC:=HSS.out w2 hbb;have HBB:=hid hbb;clear hbb hb2) | (go_at_call 204;(with_reducible refine HC.mono ?_);rintro e w3 ⟨rfl,hM,hf⟩;obtain ⟨j0,j1,j2,j3,j4,j5,j6,j7,j8⟩:=nine' (hf.blk p _ _ _ ((HBB.out.block p hpU).trans HQ.out) (by decide) (by decide));have HM:=hid hM;have HF3:=hid hf;clear hM hf))
 all_goals go_wp2_with fail
 all_goals go_end0
 all_goals exact ⟨rfl,HM.out,HF.out.trans ((Fr.of_below HBB.out hbU2).trans HF3.out)⟩
set_option maxRecDepth 100000 in
set_option maxHeartbeats 8000000 in
theorem lay49_95Q {base:Nat} {A:AG} {N:Nv} {t:Tn} (hA:∀ b,A b→b < base) (hw:∀ m w,Calls Tryz.prog 138 #[pt m,N.v] w fun e w'=>e=.returned (.func (.func 205) #[pt m] #[])∧Below w.heap.size w w') (hl:LPQ 205 base A N t):LPQ 94 base A N t:=by
 intro w m l hM hm hb hT hlen
 obtain ⟨U,hU⟩:∃ U,U=w.alloc (.cells #[.int .i64 N.k,.slice N.r1 N.r2 N.r3,.int .i64 N.a2,.slice N.s1 N.s2 N.s3,.int .i64 N.a4,.int .i64 N.a5,.bool N.a6,.int .i64 N.a7,.string N.a8] 25):=⟨_,rfl⟩
 have hbU:Below w.heap.size w U:=by rw [hU];exact Joins.below_alloc1 w _
 have hQ:BNo U w.heap.size N:=by rw [hU];exact heap_alloc_new w _
 have hpU:w.heap.size < U.heap.size:=(Array.getElem?_eq_some_iff.1 hQ).1
 have hbU2:base≤U.heap.size:=Nat.le_trans hb hbU.size
 have HSS:Hid (∀ W,Below U.heap.size U W→Calls Tryz.prog 205 #[pt m,N.v] W fun e w'=>e=.returned (.tuple #[])∧MKLQ w' m base A (l ++ t.lay l.length)∧Fr base W w'):=fun W hW =>
  hl W m l ((hM.below hbU hA (by omega)).below hW hA (by omega)) hm (Nat.le_trans hbU2 hW.size) (hT.kept (fun b hb'=>(hW.block b (by have:=hA b hb';omega)).trans (hbU.block b (by have:=hA b hb';omega))) (fun _ h=>h)) hlen
 have HF:=hid (Fr.of_below hbU hb)
 have HW:=fun W=>hw m W
 have HQ:=hid hQ
 obtain ⟨c0,c1,c2,c3,c4,c5,c6,c7,c8⟩:=nine' hQ
 obtain ⟨p,hp⟩:∃ p,p=w.heap.size:=⟨_,rfl⟩
 rw [← hp] at c0 c1 c2 c3 c4 c5 c6 c7 c8 hpU HQ
 clear hM hbU hQ hw hl hT hlen
 go_enter Tryz.func94,Tryz.ntmps94
 go_upto_region 1 with fail
 rw [← hU,← hp]
 clear hU hp
 go_region_held3 (fun W=>W.cell? ⟨p,0,none⟩=some (.int .i64 N.k)∧W.cell? ⟨p,1,none⟩=some (.slice N.r1 N.r2 N.r3)∧W.cell? ⟨p,2,none⟩=some (.int .i64 N.a2)∧W.cell? ⟨p,3,none⟩=some (.slice N.s1 N.s2 N.s3)∧W.cell? ⟨p,4,none⟩=some (.int .i64 N.a4)∧W.cell? ⟨p,5,none⟩=some (.int .i64 N.a5)∧W.cell? ⟨p,6,none⟩=some (.bool N.a6)∧W.cell? ⟨p,7,none⟩=some (.int .i64 N.a7)∧W.cell? ⟨p,8,none⟩=some (.string N.a8)) (first | (exact ⟨j0,j1,j2,j3,j4,j5,j6,j7,j8⟩) | (exact ⟨k0,k1,k2,k3,k4,k5,k6,k7,k8⟩) | (simp [*];done)) (first | (go_at_call 138;(with_reducible refine (HW _).mono ?_);rintro e w2 ⟨rfl,hb2⟩;have hbb:Below U.heap.size U w2:=⟨hb2.os,hb2.tape,hb2.output,hb2.size,hb2.block⟩;obtain ⟨k0,k1,k2,k3,k4,k5,k6,k7,k8⟩:=nine' ((hbb.block p hpU).trans HQ.out);have HC:=HSS.out w2 hbb;have HBB:=hid hbb;clear hbb hb2) | (go_at_call 205;(with_reducible refine HC.mono ?_);rintro e w3 ⟨rfl,hM,hf⟩;obtain ⟨j0,j1,j2,j3,j4,j5,j6,j7,j8⟩:=nine' (hf.blk p _ _ _ ((HBB.out.block p hpU).trans HQ.out) (by decide) (by decide));have HM:=hid hM;have HF3:=hid hf;clear hM hf))
 all_goals go_wp2_with fail
 all_goals go_end0
 all_goals exact ⟨rfl,HM.out,HF.out.trans ((Fr.of_below HBB.out hbU2).trans HF3.out)⟩
set_option maxRecDepth 100000 in
set_option maxHeartbeats 8000000 in
theorem lay49_96Q {base:Nat} {A:AG} {N:Nv} {t:Tn} (hA:∀ b,A b→b < base) (hw:∀ m w,Calls Tryz.prog 138 #[pt m,N.v] w fun e w'=>e=.returned (.func (.func 206) #[pt m] #[])∧Below w.heap.size w w') (hl:LPQ 206 base A N t):LPQ 94 base A N t:=by
 intro w m l hM hm hb hT hlen
 obtain ⟨U,hU⟩:∃ U,U=w.alloc (.cells #[.int .i64 N.k,.slice N.r1 N.r2 N.r3,.int .i64 N.a2,.slice N.s1 N.s2 N.s3,.int .i64 N.a4,.int .i64 N.a5,.bool N.a6,.int .i64 N.a7,.string N.a8] 25):=⟨_,rfl⟩
 have hbU:Below w.heap.size w U:=by rw [hU];exact Joins.below_alloc1 w _
 have hQ:BNo U w.heap.size N:=by rw [hU];exact heap_alloc_new w _
 have hpU:w.heap.size < U.heap.size:=(Array.getElem?_eq_some_iff.1 hQ).1
 have hbU2:base≤U.heap.size:=Nat.le_trans hb hbU.size
 have HSS:Hid (∀ W,Below U.heap.size U W→Calls Tryz.prog 206 #[pt m,N.v] W fun e w'=>e=.returned (.tuple #[])∧MKLQ w' m base A (l ++ t.lay l.length)∧Fr base W w'):=fun W hW =>
  hl W m l ((hM.below hbU hA (by omega)).below hW hA (by omega)) hm (Nat.le_trans hbU2 hW.size) (hT.kept (fun b hb'=>(hW.block b (by have:=hA b hb';omega)).trans (hbU.block b (by have:=hA b hb';omega))) (fun _ h=>h)) hlen
 have HF:=hid (Fr.of_below hbU hb)
 have HW:=fun W=>hw m W
 have HQ:=hid hQ
 obtain ⟨c0,c1,c2,c3,c4,c5,c6,c7,c8⟩:=nine' hQ
 obtain ⟨p,hp⟩:∃ p,p=w.heap.size:=⟨_,rfl⟩
 rw [← hp] at c0 c1 c2 c3 c4 c5 c6 c7 c8 hpU HQ
 clear hM hbU hQ hw hl hT hlen
 go_enter Tryz.func94,Tryz.ntmps94
 go_upto_region 1 with fail
 rw [← hU,← hp]
 clear hU hp
 go_region_held3 (fun W=>W.cell? ⟨p,0,none⟩=some (.int .i64 N.k)∧W.cell? ⟨p,1,none⟩=some (.slice N.r1 N.r2 N.r3)∧W.cell? ⟨p,2,none⟩=some (.int .i64 N.a2)∧W.cell? ⟨p,3,none⟩=some (.slice N.s1 N.s2 N.s3)∧W.cell? ⟨p,4,none⟩=some (.int .i64 N.a4)∧W.cell? ⟨p,5,none⟩=some (.int .i64 N.a5)∧W.cell? ⟨p,6,none⟩=some (.bool N.a6)∧W.cell? ⟨p,7,none⟩=some (.int .i64 N.a7)∧W.cell? ⟨p,8,none⟩=some (.string N.a8)) (first | (exact ⟨j0,j1,j2,j3,j4,j5,j6,j7,j8⟩) | (exact ⟨k0,k1,k2,k3,k4,k5,k6,k7,k8⟩) | (simp [*];done)) (first | (go_at_call 138;(with_reducible refine (HW _).mono ?_);rintro e w2 ⟨rfl,hb2⟩;have hbb:Below U.heap.size U w2:=⟨hb2.os,hb2.tape,hb2.output,hb2.size,hb2.block⟩;obtain ⟨k0,k1,k2,k3,k4,k5,k6,k7,k8⟩:=nine' ((hbb.block p hpU).trans HQ.out);have HC:=HSS.out w2 hbb;have HBB:=hid hbb;clear hbb hb2) | (go_at_call 206;(with_reducible refine HC.mono ?_);rintro e w3 ⟨rfl,hM,hf⟩;obtain ⟨j0,j1,j2,j3,j4,j5,j6,j7,j8⟩:=nine' (hf.blk p _ _ _ ((HBB.out.block p hpU).trans HQ.out) (by decide) (by decide));have HM:=hid hM;have HF3:=hid hf;clear hM hf))
 all_goals go_wp2_with fail
 all_goals go_end0
 all_goals exact ⟨rfl,HM.out,HF.out.trans ((Fr.of_below HBB.out hbU2).trans HF3.out)⟩
set_option maxRecDepth 100000 in
set_option maxHeartbeats 8000000 in
theorem lay49_97Q {base:Nat} {A:AG} {N:Nv} {t:Tn} (hA:∀ b,A b→b < base) (hw:∀ m w,Calls Tryz.prog 138 #[pt m,N.v] w fun e w'=>e=.returned (.func (.func 207) #[pt m] #[])∧Below w.heap.size w w') (hl:LPQ 207 base A N t):LPQ 94 base A N t:=by
 intro w m l hM hm hb hT hlen
 obtain ⟨U,hU⟩:∃ U,U=w.alloc (.cells #[.int .i64 N.k,.slice N.r1 N.r2 N.r3,.int .i64 N.a2,.slice N.s1 N.s2 N.s3,.int .i64 N.a4,.int .i64 N.a5,.bool N.a6,.int .i64 N.a7,.string N.a8] 25):=⟨_,rfl⟩
 have hbU:Below w.heap.size w U:=by rw [hU];exact Joins.below_alloc1 w _
 have hQ:BNo U w.heap.size N:=by rw [hU];exact heap_alloc_new w _
 have hpU:w.heap.size < U.heap.size:=(Array.getElem?_eq_some_iff.1 hQ).1
 have hbU2:base≤U.heap.size:=Nat.le_trans hb hbU.size
 have HSS:Hid (∀ W,Below U.heap.size U W→Calls Tryz.prog 207 #[pt m,N.v] W fun e w'=>e=.returned (.tuple #[])∧MKLQ w' m base A (l ++ t.lay l.length)∧Fr base W w'):=fun W hW =>
  hl W m l ((hM.below hbU hA (by omega)).below hW hA (by omega)) hm (Nat.le_trans hbU2 hW.size) (hT.kept (fun b hb'=>(hW.block b (by have:=hA b hb';omega)).trans (hbU.block b (by have:=hA b hb';omega))) (fun _ h=>h)) hlen
 have HF:=hid (Fr.of_below hbU hb)
 have HW:=fun W=>hw m W
 have HQ:=hid hQ
 obtain ⟨c0,c1,c2,c3,c4,c5,c6,c7,c8⟩:=nine' hQ
 obtain ⟨p,hp⟩:∃ p,p=w.heap.size:=⟨_,rfl⟩
 rw [← hp] at c0 c1 c2 c3 c4 c5 c6 c7 c8 hpU HQ
 clear hM hbU hQ hw hl hT hlen
 go_enter Tryz.func94,Tryz.ntmps94
 go_upto_region 1 with fail
 rw [← hU,← hp]
 clear hU hp
 go_region_held3 (fun W=>W.cell? ⟨p,0,none⟩=some (.int .i64 N.k)∧W.cell? ⟨p,1,none⟩=some (.slice N.r1 N.r2 N.r3)∧W.cell? ⟨p,2,none⟩=some (.int .i64 N.a2)∧W.cell? ⟨p,3,none⟩=some (.slice N.s1 N.s2 N.s3)∧W.cell? ⟨p,4,none⟩=some (.int .i64 N.a4)∧W.cell? ⟨p,5,none⟩=some (.int .i64 N.a5)∧W.cell? ⟨p,6,none⟩=some (.bool N.a6)∧W.cell? ⟨p,7,none⟩=some (.int .i64 N.a7)∧W.cell? ⟨p,8,none⟩=some (.string N.a8)) (first | (exact ⟨j0,j1,j2,j3,j4,j5,j6,j7,j8⟩) | (exact ⟨k0,k1,k2,k3,k4,k5,k6,k7,k8⟩) | (simp [*];done)) (first | (go_at_call 138;(with_reducible refine (HW _).mono ?_);rintro e w2 ⟨rfl,hb2⟩;have hbb:Below U.heap.size U w2:=⟨hb2.os,hb2.tape,hb2.output,hb2.size,hb2.block⟩;obtain ⟨k0,k1,k2,k3,k4,k5,k6,k7,k8⟩:=nine' ((hbb.block p hpU).trans HQ.out);have HC:=HSS.out w2 hbb;have HBB:=hid hbb;clear hbb hb2) | (go_at_call 207;(with_reducible refine HC.mono ?_);rintro e w3 ⟨rfl,hM,hf⟩;obtain ⟨j0,j1,j2,j3,j4,j5,j6,j7,j8⟩:=nine' (hf.blk p _ _ _ ((HBB.out.block p hpU).trans HQ.out) (by decide) (by decide));have HM:=hid hM;have HF3:=hid hf;clear hM hf))
 all_goals go_wp2_with fail
 all_goals go_end0
 all_goals exact ⟨rfl,HM.out,HF.out.trans ((Fr.of_below HBB.out hbU2).trans HF3.out)⟩
set_option maxRecDepth 100000 in
set_option maxHeartbeats 8000000 in
theorem lay49_98Q {base:Nat} {A:AG} {N:Nv} {t:Tn} (hA:∀ b,A b→b < base) (hw:∀ m w,Calls Tryz.prog 138 #[pt m,N.v] w fun e w'=>e=.returned (.func (.func 208) #[pt m] #[])∧Below w.heap.size w w') (hl:LPQ 208 base A N t):LPQ 94 base A N t:=by
 intro w m l hM hm hb hT hlen
 obtain ⟨U,hU⟩:∃ U,U=w.alloc (.cells #[.int .i64 N.k,.slice N.r1 N.r2 N.r3,.int .i64 N.a2,.slice N.s1 N.s2 N.s3,.int .i64 N.a4,.int .i64 N.a5,.bool N.a6,.int .i64 N.a7,.string N.a8] 25):=⟨_,rfl⟩
 have hbU:Below w.heap.size w U:=by rw [hU];exact Joins.below_alloc1 w _
 have hQ:BNo U w.heap.size N:=by rw [hU];exact heap_alloc_new w _
 have hpU:w.heap.size < U.heap.size:=(Array.getElem?_eq_some_iff.1 hQ).1
 have hbU2:base≤U.heap.size:=Nat.le_trans hb hbU.size
 have HSS:Hid (∀ W,Below U.heap.size U W→Calls Tryz.prog 208 #[pt m,N.v] W fun e w'=>e=.returned (.tuple #[])∧MKLQ w' m base A (l ++ t.lay l.length)∧Fr base W w'):=fun W hW =>
  hl W m l ((hM.below hbU hA (by omega)).below hW hA (by omega)) hm (Nat.le_trans hbU2 hW.size) (hT.kept (fun b hb'=>(hW.block b (by have:=hA b hb';omega)).trans (hbU.block b (by have:=hA b hb';omega))) (fun _ h=>h)) hlen
 have HF:=hid (Fr.of_below hbU hb)
 have HW:=fun W=>hw m W
 have HQ:=hid hQ
 obtain ⟨c0,c1,c2,c3,c4,c5,c6,c7,c8⟩:=nine' hQ
 obtain ⟨p,hp⟩:∃ p,p=w.heap.size:=⟨_,rfl⟩
 rw [← hp] at c0 c1 c2 c3 c4 c5 c6 c7 c8 hpU HQ
 clear hM hbU hQ hw hl hT hlen
 go_enter Tryz.func94,Tryz.ntmps94
 go_upto_region 1 with fail
 rw [← hU,← hp]
 clear hU hp
 go_region_held3 (fun W=>W.cell? ⟨p,0,none⟩=some (.int .i64 N.k)∧W.cell? ⟨p,1,none⟩=some (.slice N.r1 N.r2 N.r3)∧W.cell? ⟨p,2,none⟩=some (.int .i64 N.a2)∧W.cell? ⟨p,3,none⟩=some (.slice N.s1 N.s2 N.s3)∧W.cell? ⟨p,4,none⟩=some (.int .i64 N.a4)∧W.cell? ⟨p,5,none⟩=some (.int .i64 N.a5)∧W.cell? ⟨p,6,none⟩=some (.bool N.a6)∧W.cell? ⟨p,7,none⟩=some (.int .i64 N.a7)∧W.cell? ⟨p,8,none⟩=some (.string N.a8)) (first | (exact ⟨j0,j1,j2,j3,j4,j5,j6,j7,j8⟩) | (exact ⟨k0,k1,k2,k3,k4,k5,k6,k7,k8⟩) | (simp [*];done)) (first | (go_at_call 138;(with_reducible refine (HW _).mono ?_);rintro e w2 ⟨rfl,hb2⟩;have hbb:Below U.heap.size U w2:=⟨hb2.os,hb2.tape,hb2.output,hb2.size,hb2.block⟩;obtain ⟨k0,k1,k2,k3,k4,k5,k6,k7,k8⟩:=nine' ((hbb.block p hpU).trans HQ.out);have HC:=HSS.out w2 hbb;have HBB:=hid hbb;clear hbb hb2) | (go_at_call 208;(with_reducible refine HC.mono ?_);rintro e w3 ⟨rfl,hM,hf⟩;obtain ⟨j0,j1,j2,j3,j4,j5,j6,j7,j8⟩:=nine' (hf.blk p _ _ _ ((HBB.out.block p hpU).trans HQ.out) (by decide) (by decide));have HM:=hid hM;have HF3:=hid hf;clear hM hf))
 all_goals go_wp2_with fail
 all_goals go_end0
 all_goals exact ⟨rfl,HM.out,HF.out.trans ((Fr.of_below HBB.out hbU2).trans HF3.out)⟩
set_option maxRecDepth 100000 in
set_option maxHeartbeats 8000000 in
theorem lay49_100Q {base:Nat} {A:AG} {N:Nv} {t:Tn} (hA:∀ b,A b→b < base) (hw:∀ m w,Calls Tryz.prog 138 #[pt m,N.v] w fun e w'=>e=.returned (.func (.func 210) #[pt m] #[])∧Below w.heap.size w w') (hl:LPQ 210 base A N t):LPQ 94 base A N t:=by
 intro w m l hM hm hb hT hlen
 obtain ⟨U,hU⟩:∃ U,U=w.alloc (.cells #[.int .i64 N.k,.slice N.r1 N.r2 N.r3,.int .i64 N.a2,.slice N.s1 N.s2 N.s3,.int .i64 N.a4,.int .i64 N.a5,.bool N.a6,.int .i64 N.a7,.string N.a8] 25):=⟨_,rfl⟩
 have hbU:Below w.heap.size w U:=by rw [hU];exact Joins.below_alloc1 w _
 have hQ:BNo U w.heap.size N:=by rw [hU];exact heap_alloc_new w _
 have hpU:w.heap.size < U.heap.size:=(Array.getElem?_eq_some_iff.1 hQ).1
 have hbU2:base≤U.heap.size:=Nat.le_trans hb hbU.size
 have HSS:Hid (∀ W,Below U.heap.size U W→Calls Tryz.prog 210 #[pt m,N.v] W fun e w'=>e=.returned (.tuple #[])∧MKLQ w' m base A (l ++ t.lay l.length)∧Fr base W w'):=fun W hW =>
  hl W m l ((hM.below hbU hA (by omega)).below hW hA (by omega)) hm (Nat.le_trans hbU2 hW.size) (hT.kept (fun b hb'=>(hW.block b (by have:=hA b hb';omega)).trans (hbU.block b (by have:=hA b hb';omega))) (fun _ h=>h)) hlen
 have HF:=hid (Fr.of_below hbU hb)
 have HW:=fun W=>hw m W
 have HQ:=hid hQ
 obtain ⟨c0,c1,c2,c3,c4,c5,c6,c7,c8⟩:=nine' hQ
 obtain ⟨p,hp⟩:∃ p,p=w.heap.size:=⟨_,rfl⟩
 rw [← hp] at c0 c1 c2 c3 c4 c5 c6 c7 c8 hpU HQ
 clear hM hbU hQ hw hl hT hlen
 go_enter Tryz.func94,Tryz.ntmps94
 go_upto_region 1 with fail
 rw [← hU,← hp]
 clear hU hp
 go_region_held3 (fun W=>W.cell? ⟨p,0,none⟩=some (.int .i64 N.k)∧W.cell? ⟨p,1,none⟩=some (.slice N.r1 N.r2 N.r3)∧W.cell? ⟨p,2,none⟩=some (.int .i64 N.a2)∧W.cell? ⟨p,3,none⟩=some (.slice N.s1 N.s2 N.s3)∧W.cell? ⟨p,4,none⟩=some (.int .i64 N.a4)∧W.cell? ⟨p,5,none⟩=some (.int .i64 N.a5)∧W.cell? ⟨p,6,none⟩=some (.bool N.a6)∧W.cell? ⟨p,7,none⟩=some (.int .i64 N.a7)∧W.cell? ⟨p,8,none⟩=some (.string N.a8)) (first | (exact ⟨j0,j1,j2,j3,j4,j5,j6,j7,j8⟩) | (exact ⟨k0,k1,k2,k3,k4,k5,k6,k7,k8⟩) | (simp [*];done)) (first | (go_at_call 138;(with_reducible refine (HW _).mono ?_);rintro e w2 ⟨rfl,hb2⟩;have hbb:Below U.heap.size U w2:=⟨hb2.os,hb2.tape,hb2.output,hb2.size,hb2.block⟩;obtain ⟨k0,k1,k2,k3,k4,k5,k6,k7,k8⟩:=nine' ((hbb.block p hpU).trans HQ.out);have HC:=HSS.out w2 hbb;have HBB:=hid hbb;clear hbb hb2) | (go_at_call 210;(with_reducible refine HC.mono ?_);rintro e w3 ⟨rfl,hM,hf⟩;obtain ⟨j0,j1,j2,j3,j4,j5,j6,j7,j8⟩:=nine' (hf.blk p _ _ _ ((HBB.out.block p hpU).trans HQ.out) (by decide) (by decide));have HM:=hid hM;have HF3:=hid hf;clear hM hf))
 all_goals go_wp2_with fail
 all_goals go_end0
 all_goals exact ⟨rfl,HM.out,HF.out.trans ((Fr.of_below HBB.out hbU2).trans HF3.out)⟩
set_option maxRecDepth 100000 in
set_option maxHeartbeats 8000000 in
theorem lay49_110Q {base:Nat} {A:AG} {N:Nv} {t:Tn} (hA:∀ b,A b→b < base) (hw:∀ m w,Calls Tryz.prog 138 #[pt m,N.v] w fun e w'=>e=.returned (.func (.func 234) #[pt m] #[])∧Below w.heap.size w w') (hl:LPQ 234 base A N t):LPQ 94 base A N t:=by
 intro w m l hM hm hb hT hlen
 obtain ⟨U,hU⟩:∃ U,U=w.alloc (.cells #[.int .i64 N.k,.slice N.r1 N.r2 N.r3,.int .i64 N.a2,.slice N.s1 N.s2 N.s3,.int .i64 N.a4,.int .i64 N.a5,.bool N.a6,.int .i64 N.a7,.string N.a8] 25):=⟨_,rfl⟩
 have hbU:Below w.heap.size w U:=by rw [hU];exact Joins.below_alloc1 w _
 have hQ:BNo U w.heap.size N:=by rw [hU];exact heap_alloc_new w _
 have hpU:w.heap.size < U.heap.size:=(Array.getElem?_eq_some_iff.1 hQ).1
 have hbU2:base≤U.heap.size:=Nat.le_trans hb hbU.size
 have HSS:Hid (∀ W,Below U.heap.size U W→Calls Tryz.prog 234 #[pt m,N.v] W fun e w'=>e=.returned (.tuple #[])∧MKLQ w' m base A (l ++ t.lay l.length)∧Fr base W w'):=fun W hW =>
  hl W m l ((hM.below hbU hA (by omega)).below hW hA (by omega)) hm (Nat.le_trans hbU2 hW.size) (hT.kept (fun b hb'=>(hW.block b (by have:=hA b hb';omega)).trans (hbU.block b (by have:=hA b hb';omega))) (fun _ h=>h)) hlen
 have HF:=hid (Fr.of_below hbU hb)
 have HW:=fun W=>hw m W
 have HQ:=hid hQ
 obtain ⟨c0,c1,c2,c3,c4,c5,c6,c7,c8⟩:=nine' hQ
 obtain ⟨p,hp⟩:∃ p,p=w.heap.size:=⟨_,rfl⟩
 rw [← hp] at c0 c1 c2 c3 c4 c5 c6 c7 c8 hpU HQ
 clear hM hbU hQ hw hl hT hlen
 go_enter Tryz.func94,Tryz.ntmps94
 go_upto_region 1 with fail
 rw [← hU,← hp]
 clear hU hp
 go_region_held3 (fun W=>W.cell? ⟨p,0,none⟩=some (.int .i64 N.k)∧W.cell? ⟨p,1,none⟩=some (.slice N.r1 N.r2 N.r3)∧W.cell? ⟨p,2,none⟩=some (.int .i64 N.a2)∧W.cell? ⟨p,3,none⟩=some (.slice N.s1 N.s2 N.s3)∧W.cell? ⟨p,4,none⟩=some (.int .i64 N.a4)∧W.cell? ⟨p,5,none⟩=some (.int .i64 N.a5)∧W.cell? ⟨p,6,none⟩=some (.bool N.a6)∧W.cell? ⟨p,7,none⟩=some (.int .i64 N.a7)∧W.cell? ⟨p,8,none⟩=some (.string N.a8)) (first | (exact ⟨j0,j1,j2,j3,j4,j5,j6,j7,j8⟩) | (exact ⟨k0,k1,k2,k3,k4,k5,k6,k7,k8⟩) | (simp [*];done)) (first | (go_at_call 138;(with_reducible refine (HW _).mono ?_);rintro e w2 ⟨rfl,hb2⟩;have hbb:Below U.heap.size U w2:=⟨hb2.os,hb2.tape,hb2.output,hb2.size,hb2.block⟩;obtain ⟨k0,k1,k2,k3,k4,k5,k6,k7,k8⟩:=nine' ((hbb.block p hpU).trans HQ.out);have HC:=HSS.out w2 hbb;have HBB:=hid hbb;clear hbb hb2) | (go_at_call 234;(with_reducible refine HC.mono ?_);rintro e w3 ⟨rfl,hM,hf⟩;obtain ⟨j0,j1,j2,j3,j4,j5,j6,j7,j8⟩:=nine' (hf.blk p _ _ _ ((HBB.out.block p hpU).trans HQ.out) (by decide) (by decide));have HM:=hid hM;have HF3:=hid hf;clear hM hf))
 all_goals go_wp2_with fail
 all_goals go_end0
 all_goals exact ⟨rfl,HM.out,HF.out.trans ((Fr.of_below HBB.out hbU2).trans HF3.out)⟩
set_option maxRecDepth 100000 in
set_option maxHeartbeats 8000000 in
theorem lay49_111Q {base:Nat} {A:AG} {N:Nv} {t:Tn} (hA:∀ b,A b→b < base) (hw:∀ m w,Calls Tryz.prog 138 #[pt m,N.v] w fun e w'=>e=.returned (.func (.func 235) #[pt m] #[])∧Below w.heap.size w w') (hl:LPQ 235 base A N t):LPQ 94 base A N t:=by
 intro w m l hM hm hb hT hlen
 obtain ⟨U,hU⟩:∃ U,U=w.alloc (.cells #[.int .i64 N.k,.slice N.r1 N.r2 N.r3,.int .i64 N.a2,.slice N.s1 N.s2 N.s3,.int .i64 N.a4,.int .i64 N.a5,.bool N.a6,.int .i64 N.a7,.string N.a8] 25):=⟨_,rfl⟩
 have hbU:Below w.heap.size w U:=by rw [hU];exact Joins.below_alloc1 w _
 have hQ:BNo U w.heap.size N:=by rw [hU];exact heap_alloc_new w _
 have hpU:w.heap.size < U.heap.size:=(Array.getElem?_eq_some_iff.1 hQ).1
 have hbU2:base≤U.heap.size:=Nat.le_trans hb hbU.size
 have HSS:Hid (∀ W,Below U.heap.size U W→Calls Tryz.prog 235 #[pt m,N.v] W fun e w'=>e=.returned (.tuple #[])∧MKLQ w' m base A (l ++ t.lay l.length)∧Fr base W w'):=fun W hW =>
  hl W m l ((hM.below hbU hA (by omega)).below hW hA (by omega)) hm (Nat.le_trans hbU2 hW.size) (hT.kept (fun b hb'=>(hW.block b (by have:=hA b hb';omega)).trans (hbU.block b (by have:=hA b hb';omega))) (fun _ h=>h)) hlen
 have HF:=hid (Fr.of_below hbU hb)
 have HW:=fun W=>hw m W
 have HQ:=hid hQ
 obtain ⟨c0,c1,c2,c3,c4,c5,c6,c7,c8⟩:=nine' hQ
 obtain ⟨p,hp⟩:∃ p,p=w.heap.size:=⟨_,rfl⟩
 rw [← hp] at c0 c1 c2 c3 c4 c5 c6 c7 c8 hpU HQ
 clear hM hbU hQ hw hl hT hlen
 go_enter Tryz.func94,Tryz.ntmps94
 go_upto_region 1 with fail
 rw [← hU,← hp]
 clear hU hp
 go_region_held3 (fun W=>W.cell? ⟨p,0,none⟩=some (.int .i64 N.k)∧W.cell? ⟨p,1,none⟩=some (.slice N.r1 N.r2 N.r3)∧W.cell? ⟨p,2,none⟩=some (.int .i64 N.a2)∧W.cell? ⟨p,3,none⟩=some (.slice N.s1 N.s2 N.s3)∧W.cell? ⟨p,4,none⟩=some (.int .i64 N.a4)∧W.cell? ⟨p,5,none⟩=some (.int .i64 N.a5)∧W.cell? ⟨p,6,none⟩=some (.bool N.a6)∧W.cell? ⟨p,7,none⟩=some (.int .i64 N.a7)∧W.cell? ⟨p,8,none⟩=some (.string N.a8)) (first | (exact ⟨j0,j1,j2,j3,j4,j5,j6,j7,j8⟩) | (exact ⟨k0,k1,k2,k3,k4,k5,k6,k7,k8⟩) | (simp [*];done)) (first | (go_at_call 138;(with_reducible refine (HW _).mono ?_);rintro e w2 ⟨rfl,hb2⟩;have hbb:Below U.heap.size U w2:=⟨hb2.os,hb2.tape,hb2.output,hb2.size,hb2.block⟩;obtain ⟨k0,k1,k2,k3,k4,k5,k6,k7,k8⟩:=nine' ((hbb.block p hpU).trans HQ.out);have HC:=HSS.out w2 hbb;have HBB:=hid hbb;clear hbb hb2) | (go_at_call 235;(with_reducible refine HC.mono ?_);rintro e w3 ⟨rfl,hM,hf⟩;obtain ⟨j0,j1,j2,j3,j4,j5,j6,j7,j8⟩:=nine' (hf.blk p _ _ _ ((HBB.out.block p hpU).trans HQ.out) (by decide) (by decide));have HM:=hid hM;have HF3:=hid hf;clear hM hf))
 all_goals go_wp2_with fail
 all_goals go_end0
 all_goals exact ⟨rfl,HM.out,HF.out.trans ((Fr.of_below HBB.out hbU2).trans HF3.out)⟩
set_option maxRecDepth 100000 in
set_option maxHeartbeats 8000000 in
theorem lay49_112Q {base:Nat} {A:AG} {N:Nv} {t:Tn} (hA:∀ b,A b→b < base) (hw:∀ m w,Calls Tryz.prog 138 #[pt m,N.v] w fun e w'=>e=.returned (.func (.func 236) #[pt m] #[])∧Below w.heap.size w w') (hl:LPQ 236 base A N t):LPQ 94 base A N t:=by
 intro w m l hM hm hb hT hlen
 obtain ⟨U,hU⟩:∃ U,U=w.alloc (.cells #[.int .i64 N.k,.slice N.r1 N.r2 N.r3,.int .i64 N.a2,.slice N.s1 N.s2 N.s3,.int .i64 N.a4,.int .i64 N.a5,.bool N.a6,.int .i64 N.a7,.string N.a8] 25):=⟨_,rfl⟩
 have hbU:Below w.heap.size w U:=by rw [hU];exact Joins.below_alloc1 w _
 have hQ:BNo U w.heap.size N:=by rw [hU];exact heap_alloc_new w _
 have hpU:w.heap.size < U.heap.size:=(Array.getElem?_eq_some_iff.1 hQ).1
 have hbU2:base≤U.heap.size:=Nat.le_trans hb hbU.size
 have HSS:Hid (∀ W,Below U.heap.size U W→Calls Tryz.prog 236 #[pt m,N.v] W fun e w'=>e=.returned (.tuple #[])∧MKLQ w' m base A (l ++ t.lay l.length)∧Fr base W w'):=fun W hW =>
  hl W m l ((hM.below hbU hA (by omega)).below hW hA (by omega)) hm (Nat.le_trans hbU2 hW.size) (hT.kept (fun b hb'=>(hW.block b (by have:=hA b hb';omega)).trans (hbU.block b (by have:=hA b hb';omega))) (fun _ h=>h)) hlen
 have HF:=hid (Fr.of_below hbU hb)
 have HW:=fun W=>hw m W
 have HQ:=hid hQ
 obtain ⟨c0,c1,c2,c3,c4,c5,c6,c7,c8⟩:=nine' hQ
 obtain ⟨p,hp⟩:∃ p,p=w.heap.size:=⟨_,rfl⟩
 rw [← hp] at c0 c1 c2 c3 c4 c5 c6 c7 c8 hpU HQ
 clear hM hbU hQ hw hl hT hlen
 go_enter Tryz.func94,Tryz.ntmps94
 go_upto_region 1 with fail
 rw [← hU,← hp]
 clear hU hp
 go_region_held3 (fun W=>W.cell? ⟨p,0,none⟩=some (.int .i64 N.k)∧W.cell? ⟨p,1,none⟩=some (.slice N.r1 N.r2 N.r3)∧W.cell? ⟨p,2,none⟩=some (.int .i64 N.a2)∧W.cell? ⟨p,3,none⟩=some (.slice N.s1 N.s2 N.s3)∧W.cell? ⟨p,4,none⟩=some (.int .i64 N.a4)∧W.cell? ⟨p,5,none⟩=some (.int .i64 N.a5)∧W.cell? ⟨p,6,none⟩=some (.bool N.a6)∧W.cell? ⟨p,7,none⟩=some (.int .i64 N.a7)∧W.cell? ⟨p,8,none⟩=some (.string N.a8)) (first | (exact ⟨j0,j1,j2,j3,j4,j5,j6,j7,j8⟩) | (exact ⟨k0,k1,k2,k3,k4,k5,k6,k7,k8⟩) | (simp [*];done)) (first | (go_at_call 138;(with_reducible refine (HW _).mono ?_);rintro e w2 ⟨rfl,hb2⟩;have hbb:Below U.heap.size U w2:=⟨hb2.os,hb2.tape,hb2.output,hb2.size,hb2.block⟩;obtain ⟨k0,k1,k2,k3,k4,k5,k6,k7,k8⟩:=nine' ((hbb.block p hpU).trans HQ.out);have HC:=HSS.out w2 hbb;have HBB:=hid hbb;clear hbb hb2) | (go_at_call 236;(with_reducible refine HC.mono ?_);rintro e w3 ⟨rfl,hM,hf⟩;obtain ⟨j0,j1,j2,j3,j4,j5,j6,j7,j8⟩:=nine' (hf.blk p _ _ _ ((HBB.out.block p hpU).trans HQ.out) (by decide) (by decide));have HM:=hid hM;have HF3:=hid hf;clear hM hf))
 all_goals go_wp2_with fail
 all_goals go_end0
 all_goals exact ⟨rfl,HM.out,HF.out.trans ((Fr.of_below HBB.out hbU2).trans HF3.out)⟩
theorem lay_allQ {base:Nat} {A:AG} (hA:∀ b,A b→b < base) {t:Tn} (h:NfQ t):∀ N,LPQ 94 base A N t:=by
 have top:∀ {N:Nv} {k:Int} {R:List (Int × Int)} {a:Int} {s:List Tn} {mn mx:Int} {lz:Bool} {ix:Int} {nm:ByteArray} {w:World},TPQ w A N (.mk k R a s mn mx lz ix nm)→N.k=k∧N.a2=a∧N.a4=mn∧N.a5=mx∧N.a6=lz∧N.a7=ix∧N.a8=nm:=fun h=>by cases h;exact ⟨rfl,rfl,rfl,rfl,rfl,rfl,rfl⟩
 induction h with
 | @leaf k R a mn mx lz ix nm hk hn =>
  intro N w m l hM hm hb hT hlen
  obtain ⟨e0,e2,e4,e5,e6,e7,e8⟩:=top hT
  obtain ⟨k0,r1,r2,r3,a2,s1,s2,s3,a4,a5,a6,a7,a8⟩:=N
  dsimp only at e0 e2 e4 e5 e6 e7 e8
  subst e0 e2 e4 e5 e6 e7 e8
  have hfk:=hn
  rcases hk with rfl | rfl | rfl
  ·exact lay49_100Q hA (fun m w=>way75_100 m (by decide) (by decide) (by decide) (by decide) (by decide) (by decide) w) (empty100Q hA (by decide) (by decide) (by decide) (by decide) (by decide) (by decide)) w m l hM hm hb hT hlen
  ·exact lay49_94Q hA (fun m w=>way75_94 m w) (class94gQ hA hfk) w m l hM hm hb hT hlen
  ·exact lay49_95Q hA (fun m w=>way75_95 m w) (assert95Q hA) w m l hM hm hb hT hlen
 | @cat s h2 h hs ih =>
  intro N w m l hM hm hb hT hlen
  obtain ⟨e0,e2,e4,e5,e6,e7,e8⟩:=top hT
  obtain ⟨k0,r1,r2,r3,a2,s1,s2,s3,a4,a5,a6,a7,a8⟩:=N
  dsimp only at e0 e2 e4 e5 e6 e7 e8
  subst e0 e2 e4 e5 e6 e7 e8
  exact lay49_97Q hA (fun m w=>way75_97 m w) (cat97Q hA fun i hi N=>ih _ (List.getElem_mem hi) N) w m l hM hm hb hT hlen
 | @alt s h2 h hs ih =>
  intro N w m l hM hm hb hT hlen
  obtain ⟨e0,e2,e4,e5,e6,e7,e8⟩:=top hT
  obtain ⟨k0,r1,r2,r3,a2,s1,s2,s3,a4,a5,a6,a7,a8⟩:=N
  dsimp only at e0 e2 e4 e5 e6 e7 e8
  subst e0 e2 e4 e5 e6 e7 e8
  exact lay49_98Q hA (fun m w=>way75_98 m w) (alt98Q hA h2 fun i hi N=>ih _ (List.getElem_mem hi) N) w m l hM hm hb hT hlen
 | @loop mn mx lz y h hy ih =>
  intro N w m l hM hm hb hT hlen
  obtain ⟨e0,e2,e4,e5,e6,e7,e8⟩:=top hT
  obtain ⟨k0,r1,r2,r3,a2,s1,s2,s3,a4,a5,a6,a7,a8⟩:=N
  dsimp only at e0 e2 e4 e5 e6 e7 e8
  subst e0 e2 e4 e5 e6 e7 e8
  rcases h with ⟨rfl,rfl⟩ | ⟨rfl,rfl⟩ | ⟨rfl,rfl⟩
  ·exact lay49_111Q hA (fun m w=>way75_111 m (by decide) rfl w) (quest111Q hA y rfl (by decide) rfl ih) w m l hM hm hb hT hlen
  ·exact lay49_112Q hA (fun m w=>way75_112 m (by decide) (by decide) w) (star112Q hA y rfl (by decide) (by decide) ih) w m l hM hm hb hT hlen
  ·exact lay49_110Q hA (fun m w=>way75_110 m rfl w) (plus110Q hA y rfl rfl ih) w m l hM hm hb hT hlen
 | @grp ix nm y hn hy ih =>
  intro N w m l hM hm hb hT hlen
  obtain ⟨e0,e2,e4,e5,e6,e7,e8⟩:=top hT
  obtain ⟨k0,r1,r2,r3,a2,s1,s2,s3,a4,a5,a6,a7,a8⟩:=N
  dsimp only at e0 e2 e4 e5 e6 e7 e8
  subst e0 e2 e4 e5 e6 e7 e8
  have hfk:=hn
  exact lay49_96Q hA (fun m w=>way75_96 m w) (group96Q hA y rfl (by omega) ih) w m l hM hm hb hT hlen
set_option maxRecDepth 100000 in
set_option maxHeartbeats 8000000 in
theorem whole32gQ {base:Nat} {A:AG} {N:Nv} {t:Tn} (hA:∀ b,A b→b < base) (hnf:NfQ t) {w:World} {m:Nat} (hM:MKLQ w m base A []) (hm:base≤m) (hb:base≤w.heap.size) (hT:TPQ w A N t) (hlen:t.len + 3≤20000) :
  Calls Tryz.prog 54 #[pt m,N.v] w fun e w'=>e=.returned (.tuple #[])∧MKLQ w' m base A (⟨3,1,0,0,[]⟩ :: (t.lay 1 ++ [⟨3,((t.len + 2:Nat):Int),0,1,[]⟩,⟨5,0,0,0,[]⟩]))∧Fr base w w':=by
 obtain ⟨U,hU⟩:∃ U,U=w.alloc (.cells #[.int .i64 N.k,.slice N.r1 N.r2 N.r3,.int .i64 N.a2,.slice N.s1 N.s2 N.s3,.int .i64 N.a4,.int .i64 N.a5,.bool N.a6,.int .i64 N.a7,.string N.a8] 25):=⟨_,rfl⟩
 have hbU:Below w.heap.size w U:=by rw [hU];exact Joins.below_alloc1 w _
 have hQ:BNo U w.heap.size N:=by rw [hU];exact heap_alloc_new w _
 have hbU2:base≤U.heap.size:=Nat.le_trans hb hbU.size
 have HF:=hid (Fr.of_below hbU hb)
 have hTU:TPQ U A N t:=hT.kept (fun b hb'=>hbU.block b (by have:=hA b hb';omega)) (fun _ h=>h)
 have HTU:=hid hTU
 have H1:=stepLQ 3 0 0 none 0 0 [] (hM.below hbU hA hb) (im_bareQ _ _ _ _ _ _) hm hA (by simp) hbU2
 have HQ:=hid hQ
 have HLY:=hid (lay_allQ hA hnf N)
 obtain ⟨p,hp⟩:∃ p,p=w.heap.size:=⟨_,rfl⟩
 clear hM hbU hQ hT hTU hnf
 go_enter Tryz.func54,Tryz.ntmps54
 go_upto_region 1 with fail
 rw [← hU,← hp]
 rw [← hp] at HQ
 clear hU hp
 go_upto_region 2 with (go_at_call 93;(with_reducible refine H1.mono ?_);rintro e U1 ⟨rfl,hM,hf⟩;have HM1:=hid hM;have HF1:=hid hf;clear hM hf H1)
 have HQ1:Hid (BNo U1 p N):=HF1.out.blk p _ _ _ HQ.out (by decide) (by decide)
 have hb1:base≤U1.heap.size:=Nat.le_trans hbU2 HF1.out.size
 have H2:=HLY.out U1 m _ HM1.out hm hb1 (HTU.out.kept (HF1.out.bel hA) (fun _ h=>h)) (by simp;omega)
 obtain ⟨c0,c1,c2,c3,c4,c5,c6,c7,c8⟩:=nine' HQ1.out
 go_upto_region 3 with (go_at_call 94;(with_reducible refine H2.mono ?_);rintro e U2 ⟨rfl,hM,hf⟩;have HM2:=hid hM;have HF2:=hid hf;clear hM hf H2)
 clear c0 c1 c2 c3 c4 c5 c6 c7 c8
 have hb2:base≤U2.heap.size:=Nat.le_trans hb1 HF2.out.size
 have hM2:MKLQ U2 m base A (⟨3,1,0,0,[]⟩ :: t.lay 1):=by simpa using HM2.out
 have hl2:((⟨3,1,0,0,[]⟩:In) :: t.lay 1).length=t.len + 1:=by simp [lay_len]
 have H3:=stepLQ 3 0 1 none 0 0 [] hM2 (im_bareQ _ _ _ _ _ _) hm hA (by rw [hl2];omega) hb2
 rw [hl2] at H3
 clear hM2 hl2
 go_upto_region 4 with (go_at_call 93;(with_reducible refine H3.mono ?_);rintro e U3 ⟨rfl,hM,hf⟩;have HM3:=hid hM;have HF3:=hid hf;clear hM hf H3)
 have hb3:base≤U3.heap.size:=Nat.le_trans hb2 HF3.out.size
 have H4:=addLQ ⟨5,0,0,0,none,0,0⟩ ⟨5,0,0,0,[]⟩ HM3.out (im_bareQ _ _ _ _ _ _) hm hA (by simp [lay_len];omega) hb3
 go_wp2_with (first | (go_at_call 95;(with_reducible refine H4.mono ?_);rintro e U4 ⟨rfl,hM,hf⟩;have HM4:=hid hM;have HF4:=hid hf;clear hM hf H4))
 go_end0
 refine ⟨rfl,?_,HF.out.trans (HF1.out.trans (HF2.out.trans (HF3.out.trans HF4.out)))⟩
 have h:=HM4.out
 have e:(((t.len + 1:Nat):Int) + 1)=((t.len + 2:Nat):Int):=by push_cast;omega
 rw [e] at h
 simpa [List.append_assoc] using h
end Go.Proofs.YtacaanhnlfpbhaaGreat
