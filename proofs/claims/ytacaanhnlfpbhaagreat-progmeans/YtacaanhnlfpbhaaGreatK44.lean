/- HELPERS: texts of ours put together. -/
import Derived.Test.YtacaanhnlfpbhaaGreatK43
import Derived.Test.YtacaanhnlfpbhaaGreatK30
namespace Go.Proofs.YtacaanhnlfpbhaaGreat
open Go.RowKit
set_option linter.unusedVariables false
set_option linter.unusedSimpArgs false
set_option maxRecDepth 100000 in
set_option maxHeartbeats 4000000 in
theorem way75_94 (m:Nat) {a2 a4 a5 a7:Int} {a6:Bool} {a8:ByteArray} {r1 s1:Option Addr} {r2 r3 s2 s3:Nat} (w:World):Calls Tryz.prog 138 #[pt m,Nv.v ⟨2,r1,r2,r3,a2,s1,s2,s3,a4,a5,a6,a7,a8⟩] w fun e w' => e = .returned (.func (.func 204) #[pt m] #[]) ∧ Below w.heap.size w w':=by
 go_enter Tryz.func138,Tryz.ntmps138
 go_wp2
 all_goals go_ret
 all_goals exact ⟨rfl,Joins.below_alloc1 w _⟩
set_option maxRecDepth 100000 in
set_option maxHeartbeats 4000000 in
theorem way75_95 (m:Nat) {a2 a4 a5 a7:Int} {a6:Bool} {a8:ByteArray} {r1 s1:Option Addr} {r2 r3 s2 s3:Nat} (w:World):Calls Tryz.prog 138 #[pt m,Nv.v ⟨3,r1,r2,r3,a2,s1,s2,s3,a4,a5,a6,a7,a8⟩] w fun e w' => e = .returned (.func (.func 205) #[pt m] #[]) ∧ Below w.heap.size w w':=by
 go_enter Tryz.func138,Tryz.ntmps138
 go_wp2
 all_goals go_ret
 all_goals exact ⟨rfl,Joins.below_alloc1 w _⟩
set_option maxRecDepth 100000 in
set_option maxHeartbeats 4000000 in
theorem way75_96 (m:Nat) {a2 a4 a5 a7:Int} {a6:Bool} {a8:ByteArray} {r1 s1:Option Addr} {r2 r3 s2 s3:Nat} (w:World):Calls Tryz.prog 138 #[pt m,Nv.v ⟨7,r1,r2,r3,a2,s1,s2,s3,a4,a5,a6,a7,a8⟩] w fun e w' => e = .returned (.func (.func 206) #[pt m] #[]) ∧ Below w.heap.size w w':=by
 go_enter Tryz.func138,Tryz.ntmps138
 go_wp2
 all_goals go_ret
 all_goals exact ⟨rfl,Joins.below_alloc1 w _⟩
set_option maxRecDepth 100000 in
set_option maxHeartbeats 4000000 in
theorem way75_97 (m:Nat) {a2 a4 a5 a7:Int} {a6:Bool} {a8:ByteArray} {r1 s1:Option Addr} {r2 r3 s2 s3:Nat} (w:World):Calls Tryz.prog 138 #[pt m,Nv.v ⟨4,r1,r2,r3,a2,s1,s2,s3,a4,a5,a6,a7,a8⟩] w fun e w' => e = .returned (.func (.func 207) #[pt m] #[]) ∧ Below w.heap.size w w':=by
 go_enter Tryz.func138,Tryz.ntmps138
 go_wp2
 all_goals go_ret
 all_goals exact ⟨rfl,Joins.below_alloc1 w _⟩
set_option maxRecDepth 100000 in
set_option maxHeartbeats 4000000 in
theorem way75_98 (m:Nat) {a2 a4 a5 a7:Int} {a6:Bool} {a8:ByteArray} {r1 s1:Option Addr} {r2 r3 s2 s3:Nat} (w:World):Calls Tryz.prog 138 #[pt m,Nv.v ⟨5,r1,r2,r3,a2,s1,s2,s3,a4,a5,a6,a7,a8⟩] w fun e w' => e = .returned (.func (.func 208) #[pt m] #[]) ∧ Below w.heap.size w w':=by
 go_enter Tryz.func138,Tryz.ntmps138
 go_wp2
 all_goals go_ret
 all_goals exact ⟨rfl,Joins.below_alloc1 w _⟩
set_option maxRecDepth 100000 in
set_option maxHeartbeats 4000000 in
theorem way75_100 (m:Nat) {k a2 a4 a5 a7:Int} {a6:Bool} {a8:ByteArray} {r1 s1:Option Addr} {r2 r3 s2 s3:Nat} (k1:k ≠ 2) (k2:k ≠ 3) (k3:k ≠ 4) (k4:k ≠ 5) (k5:k ≠ 6) (k6:k ≠ 7) (w:World):Calls Tryz.prog 138 #[pt m,Nv.v ⟨k,r1,r2,r3,a2,s1,s2,s3,a4,a5,a6,a7,a8⟩] w fun e w' => e = .returned (.func (.func 210) #[pt m] #[]) ∧ Below w.heap.size w w':=by
 have g2:(k == 2) = false:=by simp [k1]
 have g3:(k == 3) = false:=by simp [k2]
 have g4:(k == 4) = false:=by simp [k3]
 have g5:(k == 5) = false:=by simp [k4]
 have g6:(k == 6) = false:=by simp [k5]
 have g7:(k == 7) = false:=by simp [k6]
 clear k1 k2 k3 k4 k5 k6
 go_enter Tryz.func138,Tryz.ntmps138
 go_wp2
 all_goals go_ret
 all_goals exact ⟨rfl,Joins.below_alloc1 w _⟩
set_option maxRecDepth 100000 in
set_option maxHeartbeats 4000000 in
theorem way75_110 (m:Nat) {a2 a4 a5 a7:Int} {a6:Bool} {a8:ByteArray} {r1 s1:Option Addr} {r2 r3 s2 s3:Nat} (h1:a4 = 1) (w:World):Calls Tryz.prog 138 #[pt m,Nv.v ⟨6,r1,r2,r3,a2,s1,s2,s3,1,a5,a6,a7,a8⟩] w fun e w' => e = .returned (.func (.func 234) #[pt m] #[]) ∧ Below w.heap.size w w':=by
 subst h1
 have HW:∀ W,Calls Tryz.prog 209 #[pt m,Nv.v ⟨6,r1,r2,r3,a2,s1,s2,s3,1,a5,a6,a7,a8⟩] W fun e w' => e = .returned (.func (.func 234) #[pt m] #[]) ∧ Below W.heap.size W w':=fun W => by
  go_enter Tryz.func209,Tryz.ntmps209
  go_wp2
  all_goals go_ret
  all_goals exact ⟨rfl,Joins.below_alloc1 W _⟩
 go_enter Tryz.func138,Tryz.ntmps138
 go_wp2_with (first | (go_at_call 209;(with_reducible refine (HW _).mono ?_);rintro e w2 ⟨rfl,hb2⟩;have HB2:=hid hb2;clear hb2))
 all_goals go_ret
 all_goals exact ⟨rfl,(Joins.below_alloc1 w _).trans (Joins.below_le HB2.out (by simp))⟩
set_option maxRecDepth 100000 in
set_option maxHeartbeats 4000000 in
theorem way75_111 (m:Nat) {a2 a4 a5 a7:Int} {a6:Bool} {a8:ByteArray} {r1 s1:Option Addr} {r2 r3 s2 s3:Nat} (h1:a4 ≠ 1) (h2:a5 = 1) (w:World):Calls Tryz.prog 138 #[pt m,Nv.v ⟨6,r1,r2,r3,a2,s1,s2,s3,a4,1,a6,a7,a8⟩] w fun e w' => e = .returned (.func (.func 235) #[pt m] #[]) ∧ Below w.heap.size w w':=by
 subst h2
 have HW:∀ W,Calls Tryz.prog 209 #[pt m,Nv.v ⟨6,r1,r2,r3,a2,s1,s2,s3,a4,1,a6,a7,a8⟩] W fun e w' => e = .returned (.func (.func 235) #[pt m] #[]) ∧ Below W.heap.size W w':=fun W => by
  have g1:(a4 == 1) = false:=by simp [h1]
  go_enter Tryz.func209,Tryz.ntmps209
  go_wp2
  all_goals go_ret
  all_goals exact ⟨rfl,Joins.below_alloc1 W _⟩
 go_enter Tryz.func138,Tryz.ntmps138
 go_wp2_with (first | (go_at_call 209;(with_reducible refine (HW _).mono ?_);rintro e w2 ⟨rfl,hb2⟩;have HB2:=hid hb2;clear hb2))
 all_goals go_ret
 all_goals exact ⟨rfl,(Joins.below_alloc1 w _).trans (Joins.below_le HB2.out (by simp))⟩
set_option maxRecDepth 100000 in
set_option maxHeartbeats 4000000 in
theorem way75_112 (m:Nat) {a2 a4 a5 a7:Int} {a6:Bool} {a8:ByteArray} {r1 s1:Option Addr} {r2 r3 s2 s3:Nat} (h1:a4 ≠ 1) (h2:a5 ≠ 1) (w:World):Calls Tryz.prog 138 #[pt m,Nv.v ⟨6,r1,r2,r3,a2,s1,s2,s3,a4,a5,a6,a7,a8⟩] w fun e w' => e = .returned (.func (.func 236) #[pt m] #[]) ∧ Below w.heap.size w w':=by
 have HW:∀ W,Calls Tryz.prog 209 #[pt m,Nv.v ⟨6,r1,r2,r3,a2,s1,s2,s3,a4,a5,a6,a7,a8⟩] W fun e w' => e = .returned (.func (.func 236) #[pt m] #[]) ∧ Below W.heap.size W w':=fun W => by
  have g1:(a4 == 1) = false:=by simp [h1]
  have g2:(a5 == 1) = false:=by simp [h2]
  go_enter Tryz.func209,Tryz.ntmps209
  go_wp2
  all_goals go_ret
  all_goals exact ⟨rfl,Joins.below_alloc1 W _⟩
 go_enter Tryz.func138,Tryz.ntmps138
 go_wp2_with (first | (go_at_call 209;(with_reducible refine (HW _).mono ?_);rintro e w2 ⟨rfl,hb2⟩;have HB2:=hid hb2;clear hb2))
 all_goals go_ret
 all_goals exact ⟨rfl,(Joins.below_alloc1 w _).trans (Joins.below_le HB2.out (by simp))⟩
set_option maxRecDepth 100000 in
set_option maxHeartbeats 8000000 in
theorem lay49_94 {base:Nat} {A:Nat → Prop} {N:Nv} {t:Tn} (hA:∀ b,A b → b < base) (hw:∀ m w,Calls Tryz.prog 138 #[pt m,N.v] w fun e w' => e = .returned (.func (.func 204) #[pt m] #[]) ∧ Below w.heap.size w w') (hl:LP 204 base A N t):LP 94 base A N t:=by
 intro w m l hM hm hb hT hlen
 obtain ⟨U,hU⟩:∃ U,U = w.alloc (.cells #[.int .i64 N.k,.slice N.r1 N.r2 N.r3,.int .i64 N.a2,.slice N.s1 N.s2 N.s3,.int .i64 N.a4,.int .i64 N.a5,.bool N.a6,.int .i64 N.a7,.string N.a8] 25):=⟨_,rfl⟩
 have hbU:Below w.heap.size w U:=by rw [hU];exact Joins.below_alloc1 w _
 have hQ:BNo U w.heap.size N:=by rw [hU];exact heap_alloc_new w _
 have hpU:w.heap.size < U.heap.size:=(Array.getElem?_eq_some_iff.1 hQ).1
 have hbU2:base ≤ U.heap.size:=Nat.le_trans hb hbU.size
 have HSS:Hid (∀ W,Below U.heap.size U W → Calls Tryz.prog 204 #[pt m,N.v] W fun e w' => e = .returned (.tuple #[]) ∧ MKL w' m base A (l ++ t.lay l.length) ∧ Fr base W w'):=fun W hW =>
  hl W m l ((hM.below hbU hA (by omega)).below hW hA (by omega)) hm (Nat.le_trans hbU2 hW.size) (hT.kept (fun b hb' => (hW.block b (by have:=hA b hb';omega)).trans (hbU.block b (by have:=hA b hb';omega))) (fun _ h => h)) hlen
 have HF:=hid (Fr.of_below hbU hb)
 have HW:=fun W => hw m W
 have HQ:=hid hQ
 obtain ⟨c0,c1,c2,c3,c4,c5,c6,c7,c8⟩:=nine' hQ
 obtain ⟨p,hp⟩:∃ p,p = w.heap.size:=⟨_,rfl⟩
 rw [← hp] at c0 c1 c2 c3 c4 c5 c6 c7 c8 hpU HQ
 clear hM hbU hQ hw hl hT hlen
 go_enter Tryz.func94,Tryz.ntmps94
 go_upto_region 1 with fail
 rw [← hU,← hp]
 clear hU hp
 go_region_held3 (fun W => W.cell? ⟨p,0,none⟩ = some (.int .i64 N.k) ∧ W.cell? ⟨p,1,none⟩ = some (.slice N.r1 N.r2 N.r3) ∧ W.cell? ⟨p,2,none⟩ = some (.int .i64 N.a2) ∧ W.cell? ⟨p,3,none⟩ = some (.slice N.s1 N.s2 N.s3) ∧ W.cell? ⟨p,4,none⟩ = some (.int .i64 N.a4) ∧ W.cell? ⟨p,5,none⟩ = some (.int .i64 N.a5) ∧ W.cell? ⟨p,6,none⟩ = some (.bool N.a6) ∧ W.cell? ⟨p,7,none⟩ = some (.int .i64 N.a7) ∧ W.cell? ⟨p,8,none⟩ = some (.string N.a8)) (first | (exact ⟨j0,j1,j2,j3,j4,j5,j6,j7,j8⟩) | (exact ⟨k0,k1,k2,k3,k4,k5,k6,k7,k8⟩) | (simp [*];done)) (first | (go_at_call 138;(with_reducible refine (HW _).mono ?_);rintro e w2 ⟨rfl,hb2⟩;have hbb:Below U.heap.size U w2:=⟨hb2.os,hb2.tape,hb2.output,hb2.size,hb2.block⟩;obtain ⟨k0,k1,k2,k3,k4,k5,k6,k7,k8⟩:=nine' ((hbb.block p hpU).trans HQ.out);have HC:=HSS.out w2 hbb;have HBB:=hid hbb;clear hbb hb2) | (go_at_call 204;(with_reducible refine HC.mono ?_);rintro e w3 ⟨rfl,hM,hf⟩;obtain ⟨j0,j1,j2,j3,j4,j5,j6,j7,j8⟩:=nine' (hf.blk p _ _ _ ((HBB.out.block p hpU).trans HQ.out) (by decide) (by decide));have HM:=hid hM;have HF3:=hid hf;clear hM hf))
 all_goals go_wp2_with fail
 all_goals go_end0
 all_goals exact ⟨rfl,HM.out,HF.out.trans ((Fr.of_below HBB.out hbU2).trans HF3.out)⟩
set_option maxRecDepth 100000 in
set_option maxHeartbeats 8000000 in
theorem lay49_95 {base:Nat} {A:Nat → Prop} {N:Nv} {t:Tn} (hA:∀ b,A b → b < base) (hw:∀ m w,Calls Tryz.prog 138 #[pt m,N.v] w fun e w' => e = .returned (.func (.func 205) #[pt m] #[]) ∧ Below w.heap.size w w') (hl:LP 205 base A N t):LP 94 base A N t:=by
 intro w m l hM hm hb hT hlen
 obtain ⟨U,hU⟩:∃ U,U = w.alloc (.cells #[.int .i64 N.k,.slice N.r1 N.r2 N.r3,.int .i64 N.a2,.slice N.s1 N.s2 N.s3,.int .i64 N.a4,.int .i64 N.a5,.bool N.a6,.int .i64 N.a7,.string N.a8] 25):=⟨_,rfl⟩
 have hbU:Below w.heap.size w U:=by rw [hU];exact Joins.below_alloc1 w _
 have hQ:BNo U w.heap.size N:=by rw [hU];exact heap_alloc_new w _
 have hpU:w.heap.size < U.heap.size:=(Array.getElem?_eq_some_iff.1 hQ).1
 have hbU2:base ≤ U.heap.size:=Nat.le_trans hb hbU.size
 have HSS:Hid (∀ W,Below U.heap.size U W → Calls Tryz.prog 205 #[pt m,N.v] W fun e w' => e = .returned (.tuple #[]) ∧ MKL w' m base A (l ++ t.lay l.length) ∧ Fr base W w'):=fun W hW =>
  hl W m l ((hM.below hbU hA (by omega)).below hW hA (by omega)) hm (Nat.le_trans hbU2 hW.size) (hT.kept (fun b hb' => (hW.block b (by have:=hA b hb';omega)).trans (hbU.block b (by have:=hA b hb';omega))) (fun _ h => h)) hlen
 have HF:=hid (Fr.of_below hbU hb)
 have HW:=fun W => hw m W
 have HQ:=hid hQ
 obtain ⟨c0,c1,c2,c3,c4,c5,c6,c7,c8⟩:=nine' hQ
 obtain ⟨p,hp⟩:∃ p,p = w.heap.size:=⟨_,rfl⟩
 rw [← hp] at c0 c1 c2 c3 c4 c5 c6 c7 c8 hpU HQ
 clear hM hbU hQ hw hl hT hlen
 go_enter Tryz.func94,Tryz.ntmps94
 go_upto_region 1 with fail
 rw [← hU,← hp]
 clear hU hp
 go_region_held3 (fun W => W.cell? ⟨p,0,none⟩ = some (.int .i64 N.k) ∧ W.cell? ⟨p,1,none⟩ = some (.slice N.r1 N.r2 N.r3) ∧ W.cell? ⟨p,2,none⟩ = some (.int .i64 N.a2) ∧ W.cell? ⟨p,3,none⟩ = some (.slice N.s1 N.s2 N.s3) ∧ W.cell? ⟨p,4,none⟩ = some (.int .i64 N.a4) ∧ W.cell? ⟨p,5,none⟩ = some (.int .i64 N.a5) ∧ W.cell? ⟨p,6,none⟩ = some (.bool N.a6) ∧ W.cell? ⟨p,7,none⟩ = some (.int .i64 N.a7) ∧ W.cell? ⟨p,8,none⟩ = some (.string N.a8)) (first | (exact ⟨j0,j1,j2,j3,j4,j5,j6,j7,j8⟩) | (exact ⟨k0,k1,k2,k3,k4,k5,k6,k7,k8⟩) | (simp [*];done)) (first | (go_at_call 138;(with_reducible refine (HW _).mono ?_);rintro e w2 ⟨rfl,hb2⟩;have hbb:Below U.heap.size U w2:=⟨hb2.os,hb2.tape,hb2.output,hb2.size,hb2.block⟩;obtain ⟨k0,k1,k2,k3,k4,k5,k6,k7,k8⟩:=nine' ((hbb.block p hpU).trans HQ.out);have HC:=HSS.out w2 hbb;have HBB:=hid hbb;clear hbb hb2) | (go_at_call 205;(with_reducible refine HC.mono ?_);rintro e w3 ⟨rfl,hM,hf⟩;obtain ⟨j0,j1,j2,j3,j4,j5,j6,j7,j8⟩:=nine' (hf.blk p _ _ _ ((HBB.out.block p hpU).trans HQ.out) (by decide) (by decide));have HM:=hid hM;have HF3:=hid hf;clear hM hf))
 all_goals go_wp2_with fail
 all_goals go_end0
 all_goals exact ⟨rfl,HM.out,HF.out.trans ((Fr.of_below HBB.out hbU2).trans HF3.out)⟩
set_option maxRecDepth 100000 in
set_option maxHeartbeats 8000000 in
theorem lay49_96 {base:Nat} {A:Nat → Prop} {N:Nv} {t:Tn} (hA:∀ b,A b → b < base) (hw:∀ m w,Calls Tryz.prog 138 #[pt m,N.v] w fun e w' => e = .returned (.func (.func 206) #[pt m] #[]) ∧ Below w.heap.size w w') (hl:LP 206 base A N t):LP 94 base A N t:=by
 intro w m l hM hm hb hT hlen
 obtain ⟨U,hU⟩:∃ U,U = w.alloc (.cells #[.int .i64 N.k,.slice N.r1 N.r2 N.r3,.int .i64 N.a2,.slice N.s1 N.s2 N.s3,.int .i64 N.a4,.int .i64 N.a5,.bool N.a6,.int .i64 N.a7,.string N.a8] 25):=⟨_,rfl⟩
 have hbU:Below w.heap.size w U:=by rw [hU];exact Joins.below_alloc1 w _
 have hQ:BNo U w.heap.size N:=by rw [hU];exact heap_alloc_new w _
 have hpU:w.heap.size < U.heap.size:=(Array.getElem?_eq_some_iff.1 hQ).1
 have hbU2:base ≤ U.heap.size:=Nat.le_trans hb hbU.size
 have HSS:Hid (∀ W,Below U.heap.size U W → Calls Tryz.prog 206 #[pt m,N.v] W fun e w' => e = .returned (.tuple #[]) ∧ MKL w' m base A (l ++ t.lay l.length) ∧ Fr base W w'):=fun W hW =>
  hl W m l ((hM.below hbU hA (by omega)).below hW hA (by omega)) hm (Nat.le_trans hbU2 hW.size) (hT.kept (fun b hb' => (hW.block b (by have:=hA b hb';omega)).trans (hbU.block b (by have:=hA b hb';omega))) (fun _ h => h)) hlen
 have HF:=hid (Fr.of_below hbU hb)
 have HW:=fun W => hw m W
 have HQ:=hid hQ
 obtain ⟨c0,c1,c2,c3,c4,c5,c6,c7,c8⟩:=nine' hQ
 obtain ⟨p,hp⟩:∃ p,p = w.heap.size:=⟨_,rfl⟩
 rw [← hp] at c0 c1 c2 c3 c4 c5 c6 c7 c8 hpU HQ
 clear hM hbU hQ hw hl hT hlen
 go_enter Tryz.func94,Tryz.ntmps94
 go_upto_region 1 with fail
 rw [← hU,← hp]
 clear hU hp
 go_region_held3 (fun W => W.cell? ⟨p,0,none⟩ = some (.int .i64 N.k) ∧ W.cell? ⟨p,1,none⟩ = some (.slice N.r1 N.r2 N.r3) ∧ W.cell? ⟨p,2,none⟩ = some (.int .i64 N.a2) ∧ W.cell? ⟨p,3,none⟩ = some (.slice N.s1 N.s2 N.s3) ∧ W.cell? ⟨p,4,none⟩ = some (.int .i64 N.a4) ∧ W.cell? ⟨p,5,none⟩ = some (.int .i64 N.a5) ∧ W.cell? ⟨p,6,none⟩ = some (.bool N.a6) ∧ W.cell? ⟨p,7,none⟩ = some (.int .i64 N.a7) ∧ W.cell? ⟨p,8,none⟩ = some (.string N.a8)) (first | (exact ⟨j0,j1,j2,j3,j4,j5,j6,j7,j8⟩) | (exact ⟨k0,k1,k2,k3,k4,k5,k6,k7,k8⟩) | (simp [*];done)) (first | (go_at_call 138;(with_reducible refine (HW _).mono ?_);rintro e w2 ⟨rfl,hb2⟩;have hbb:Below U.heap.size U w2:=⟨hb2.os,hb2.tape,hb2.output,hb2.size,hb2.block⟩;obtain ⟨k0,k1,k2,k3,k4,k5,k6,k7,k8⟩:=nine' ((hbb.block p hpU).trans HQ.out);have HC:=HSS.out w2 hbb;have HBB:=hid hbb;clear hbb hb2) | (go_at_call 206;(with_reducible refine HC.mono ?_);rintro e w3 ⟨rfl,hM,hf⟩;obtain ⟨j0,j1,j2,j3,j4,j5,j6,j7,j8⟩:=nine' (hf.blk p _ _ _ ((HBB.out.block p hpU).trans HQ.out) (by decide) (by decide));have HM:=hid hM;have HF3:=hid hf;clear hM hf))
 all_goals go_wp2_with fail
 all_goals go_end0
 all_goals exact ⟨rfl,HM.out,HF.out.trans ((Fr.of_below HBB.out hbU2).trans HF3.out)⟩
set_option maxRecDepth 100000 in
set_option maxHeartbeats 8000000 in
theorem lay49_97 {base:Nat} {A:Nat → Prop} {N:Nv} {t:Tn} (hA:∀ b,A b → b < base) (hw:∀ m w,Calls Tryz.prog 138 #[pt m,N.v] w fun e w' => e = .returned (.func (.func 207) #[pt m] #[]) ∧ Below w.heap.size w w') (hl:LP 207 base A N t):LP 94 base A N t:=by
 intro w m l hM hm hb hT hlen
 obtain ⟨U,hU⟩:∃ U,U = w.alloc (.cells #[.int .i64 N.k,.slice N.r1 N.r2 N.r3,.int .i64 N.a2,.slice N.s1 N.s2 N.s3,.int .i64 N.a4,.int .i64 N.a5,.bool N.a6,.int .i64 N.a7,.string N.a8] 25):=⟨_,rfl⟩
 have hbU:Below w.heap.size w U:=by rw [hU];exact Joins.below_alloc1 w _
 have hQ:BNo U w.heap.size N:=by rw [hU];exact heap_alloc_new w _
 have hpU:w.heap.size < U.heap.size:=(Array.getElem?_eq_some_iff.1 hQ).1
 have hbU2:base ≤ U.heap.size:=Nat.le_trans hb hbU.size
 have HSS:Hid (∀ W,Below U.heap.size U W → Calls Tryz.prog 207 #[pt m,N.v] W fun e w' => e = .returned (.tuple #[]) ∧ MKL w' m base A (l ++ t.lay l.length) ∧ Fr base W w'):=fun W hW =>
  hl W m l ((hM.below hbU hA (by omega)).below hW hA (by omega)) hm (Nat.le_trans hbU2 hW.size) (hT.kept (fun b hb' => (hW.block b (by have:=hA b hb';omega)).trans (hbU.block b (by have:=hA b hb';omega))) (fun _ h => h)) hlen
 have HF:=hid (Fr.of_below hbU hb)
 have HW:=fun W => hw m W
 have HQ:=hid hQ
 obtain ⟨c0,c1,c2,c3,c4,c5,c6,c7,c8⟩:=nine' hQ
 obtain ⟨p,hp⟩:∃ p,p = w.heap.size:=⟨_,rfl⟩
 rw [← hp] at c0 c1 c2 c3 c4 c5 c6 c7 c8 hpU HQ
 clear hM hbU hQ hw hl hT hlen
 go_enter Tryz.func94,Tryz.ntmps94
 go_upto_region 1 with fail
 rw [← hU,← hp]
 clear hU hp
 go_region_held3 (fun W => W.cell? ⟨p,0,none⟩ = some (.int .i64 N.k) ∧ W.cell? ⟨p,1,none⟩ = some (.slice N.r1 N.r2 N.r3) ∧ W.cell? ⟨p,2,none⟩ = some (.int .i64 N.a2) ∧ W.cell? ⟨p,3,none⟩ = some (.slice N.s1 N.s2 N.s3) ∧ W.cell? ⟨p,4,none⟩ = some (.int .i64 N.a4) ∧ W.cell? ⟨p,5,none⟩ = some (.int .i64 N.a5) ∧ W.cell? ⟨p,6,none⟩ = some (.bool N.a6) ∧ W.cell? ⟨p,7,none⟩ = some (.int .i64 N.a7) ∧ W.cell? ⟨p,8,none⟩ = some (.string N.a8)) (first | (exact ⟨j0,j1,j2,j3,j4,j5,j6,j7,j8⟩) | (exact ⟨k0,k1,k2,k3,k4,k5,k6,k7,k8⟩) | (simp [*];done)) (first | (go_at_call 138;(with_reducible refine (HW _).mono ?_);rintro e w2 ⟨rfl,hb2⟩;have hbb:Below U.heap.size U w2:=⟨hb2.os,hb2.tape,hb2.output,hb2.size,hb2.block⟩;obtain ⟨k0,k1,k2,k3,k4,k5,k6,k7,k8⟩:=nine' ((hbb.block p hpU).trans HQ.out);have HC:=HSS.out w2 hbb;have HBB:=hid hbb;clear hbb hb2) | (go_at_call 207;(with_reducible refine HC.mono ?_);rintro e w3 ⟨rfl,hM,hf⟩;obtain ⟨j0,j1,j2,j3,j4,j5,j6,j7,j8⟩:=nine' (hf.blk p _ _ _ ((HBB.out.block p hpU).trans HQ.out) (by decide) (by decide));have HM:=hid hM;have HF3:=hid hf;clear hM hf))
 all_goals go_wp2_with fail
 all_goals go_end0
 all_goals exact ⟨rfl,HM.out,HF.out.trans ((Fr.of_below HBB.out hbU2).trans HF3.out)⟩
set_option maxRecDepth 100000 in
set_option maxHeartbeats 8000000 in
theorem lay49_98 {base:Nat} {A:Nat → Prop} {N:Nv} {t:Tn} (hA:∀ b,A b → b < base) (hw:∀ m w,Calls Tryz.prog 138 #[pt m,N.v] w fun e w' => e = .returned (.func (.func 208) #[pt m] #[]) ∧ Below w.heap.size w w') (hl:LP 208 base A N t):LP 94 base A N t:=by
 intro w m l hM hm hb hT hlen
 obtain ⟨U,hU⟩:∃ U,U = w.alloc (.cells #[.int .i64 N.k,.slice N.r1 N.r2 N.r3,.int .i64 N.a2,.slice N.s1 N.s2 N.s3,.int .i64 N.a4,.int .i64 N.a5,.bool N.a6,.int .i64 N.a7,.string N.a8] 25):=⟨_,rfl⟩
 have hbU:Below w.heap.size w U:=by rw [hU];exact Joins.below_alloc1 w _
 have hQ:BNo U w.heap.size N:=by rw [hU];exact heap_alloc_new w _
 have hpU:w.heap.size < U.heap.size:=(Array.getElem?_eq_some_iff.1 hQ).1
 have hbU2:base ≤ U.heap.size:=Nat.le_trans hb hbU.size
 have HSS:Hid (∀ W,Below U.heap.size U W → Calls Tryz.prog 208 #[pt m,N.v] W fun e w' => e = .returned (.tuple #[]) ∧ MKL w' m base A (l ++ t.lay l.length) ∧ Fr base W w'):=fun W hW =>
  hl W m l ((hM.below hbU hA (by omega)).below hW hA (by omega)) hm (Nat.le_trans hbU2 hW.size) (hT.kept (fun b hb' => (hW.block b (by have:=hA b hb';omega)).trans (hbU.block b (by have:=hA b hb';omega))) (fun _ h => h)) hlen
 have HF:=hid (Fr.of_below hbU hb)
 have HW:=fun W => hw m W
 have HQ:=hid hQ
 obtain ⟨c0,c1,c2,c3,c4,c5,c6,c7,c8⟩:=nine' hQ
 obtain ⟨p,hp⟩:∃ p,p = w.heap.size:=⟨_,rfl⟩
 rw [← hp] at c0 c1 c2 c3 c4 c5 c6 c7 c8 hpU HQ
 clear hM hbU hQ hw hl hT hlen
 go_enter Tryz.func94,Tryz.ntmps94
 go_upto_region 1 with fail
 rw [← hU,← hp]
 clear hU hp
 go_region_held3 (fun W => W.cell? ⟨p,0,none⟩ = some (.int .i64 N.k) ∧ W.cell? ⟨p,1,none⟩ = some (.slice N.r1 N.r2 N.r3) ∧ W.cell? ⟨p,2,none⟩ = some (.int .i64 N.a2) ∧ W.cell? ⟨p,3,none⟩ = some (.slice N.s1 N.s2 N.s3) ∧ W.cell? ⟨p,4,none⟩ = some (.int .i64 N.a4) ∧ W.cell? ⟨p,5,none⟩ = some (.int .i64 N.a5) ∧ W.cell? ⟨p,6,none⟩ = some (.bool N.a6) ∧ W.cell? ⟨p,7,none⟩ = some (.int .i64 N.a7) ∧ W.cell? ⟨p,8,none⟩ = some (.string N.a8)) (first | (exact ⟨j0,j1,j2,j3,j4,j5,j6,j7,j8⟩) | (exact ⟨k0,k1,k2,k3,k4,k5,k6,k7,k8⟩) | (simp [*];done)) (first | (go_at_call 138;(with_reducible refine (HW _).mono ?_);rintro e w2 ⟨rfl,hb2⟩;have hbb:Below U.heap.size U w2:=⟨hb2.os,hb2.tape,hb2.output,hb2.size,hb2.block⟩;obtain ⟨k0,k1,k2,k3,k4,k5,k6,k7,k8⟩:=nine' ((hbb.block p hpU).trans HQ.out);have HC:=HSS.out w2 hbb;have HBB:=hid hbb;clear hbb hb2) | (go_at_call 208;(with_reducible refine HC.mono ?_);rintro e w3 ⟨rfl,hM,hf⟩;obtain ⟨j0,j1,j2,j3,j4,j5,j6,j7,j8⟩:=nine' (hf.blk p _ _ _ ((HBB.out.block p hpU).trans HQ.out) (by decide) (by decide));have HM:=hid hM;have HF3:=hid hf;clear hM hf))
 all_goals go_wp2_with fail
 all_goals go_end0
 all_goals exact ⟨rfl,HM.out,HF.out.trans ((Fr.of_below HBB.out hbU2).trans HF3.out)⟩
set_option maxRecDepth 100000 in
set_option maxHeartbeats 8000000 in
theorem lay49_100 {base:Nat} {A:Nat → Prop} {N:Nv} {t:Tn} (hA:∀ b,A b → b < base) (hw:∀ m w,Calls Tryz.prog 138 #[pt m,N.v] w fun e w' => e = .returned (.func (.func 210) #[pt m] #[]) ∧ Below w.heap.size w w') (hl:LP 210 base A N t):LP 94 base A N t:=by
 intro w m l hM hm hb hT hlen
 obtain ⟨U,hU⟩:∃ U,U = w.alloc (.cells #[.int .i64 N.k,.slice N.r1 N.r2 N.r3,.int .i64 N.a2,.slice N.s1 N.s2 N.s3,.int .i64 N.a4,.int .i64 N.a5,.bool N.a6,.int .i64 N.a7,.string N.a8] 25):=⟨_,rfl⟩
 have hbU:Below w.heap.size w U:=by rw [hU];exact Joins.below_alloc1 w _
 have hQ:BNo U w.heap.size N:=by rw [hU];exact heap_alloc_new w _
 have hpU:w.heap.size < U.heap.size:=(Array.getElem?_eq_some_iff.1 hQ).1
 have hbU2:base ≤ U.heap.size:=Nat.le_trans hb hbU.size
 have HSS:Hid (∀ W,Below U.heap.size U W → Calls Tryz.prog 210 #[pt m,N.v] W fun e w' => e = .returned (.tuple #[]) ∧ MKL w' m base A (l ++ t.lay l.length) ∧ Fr base W w'):=fun W hW =>
  hl W m l ((hM.below hbU hA (by omega)).below hW hA (by omega)) hm (Nat.le_trans hbU2 hW.size) (hT.kept (fun b hb' => (hW.block b (by have:=hA b hb';omega)).trans (hbU.block b (by have:=hA b hb';omega))) (fun _ h => h)) hlen
 have HF:=hid (Fr.of_below hbU hb)
 have HW:=fun W => hw m W
 have HQ:=hid hQ
 obtain ⟨c0,c1,c2,c3,c4,c5,c6,c7,c8⟩:=nine' hQ
 obtain ⟨p,hp⟩:∃ p,p = w.heap.size:=⟨_,rfl⟩
 rw [← hp] at c0 c1 c2 c3 c4 c5 c6 c7 c8 hpU HQ
 clear hM hbU hQ hw hl hT hlen
 go_enter Tryz.func94,Tryz.ntmps94
 go_upto_region 1 with fail
 rw [← hU,← hp]
 clear hU hp
 go_region_held3 (fun W => W.cell? ⟨p,0,none⟩ = some (.int .i64 N.k) ∧ W.cell? ⟨p,1,none⟩ = some (.slice N.r1 N.r2 N.r3) ∧ W.cell? ⟨p,2,none⟩ = some (.int .i64 N.a2) ∧ W.cell? ⟨p,3,none⟩ = some (.slice N.s1 N.s2 N.s3) ∧ W.cell? ⟨p,4,none⟩ = some (.int .i64 N.a4) ∧ W.cell? ⟨p,5,none⟩ = some (.int .i64 N.a5) ∧ W.cell? ⟨p,6,none⟩ = some (.bool N.a6) ∧ W.cell? ⟨p,7,none⟩ = some (.int .i64 N.a7) ∧ W.cell? ⟨p,8,none⟩ = some (.string N.a8)) (first | (exact ⟨j0,j1,j2,j3,j4,j5,j6,j7,j8⟩) | (exact ⟨k0,k1,k2,k3,k4,k5,k6,k7,k8⟩) | (simp [*];done)) (first | (go_at_call 138;(with_reducible refine (HW _).mono ?_);rintro e w2 ⟨rfl,hb2⟩;have hbb:Below U.heap.size U w2:=⟨hb2.os,hb2.tape,hb2.output,hb2.size,hb2.block⟩;obtain ⟨k0,k1,k2,k3,k4,k5,k6,k7,k8⟩:=nine' ((hbb.block p hpU).trans HQ.out);have HC:=HSS.out w2 hbb;have HBB:=hid hbb;clear hbb hb2) | (go_at_call 210;(with_reducible refine HC.mono ?_);rintro e w3 ⟨rfl,hM,hf⟩;obtain ⟨j0,j1,j2,j3,j4,j5,j6,j7,j8⟩:=nine' (hf.blk p _ _ _ ((HBB.out.block p hpU).trans HQ.out) (by decide) (by decide));have HM:=hid hM;have HF3:=hid hf;clear hM hf))
 all_goals go_wp2_with fail
 all_goals go_end0
 all_goals exact ⟨rfl,HM.out,HF.out.trans ((Fr.of_below HBB.out hbU2).trans HF3.out)⟩
set_option maxRecDepth 100000 in
set_option maxHeartbeats 8000000 in
theorem lay49_110 {base:Nat} {A:Nat → Prop} {N:Nv} {t:Tn} (hA:∀ b,A b → b < base) (hw:∀ m w,Calls Tryz.prog 138 #[pt m,N.v] w fun e w' => e = .returned (.func (.func 234) #[pt m] #[]) ∧ Below w.heap.size w w') (hl:LP 234 base A N t):LP 94 base A N t:=by
 intro w m l hM hm hb hT hlen
 obtain ⟨U,hU⟩:∃ U,U = w.alloc (.cells #[.int .i64 N.k,.slice N.r1 N.r2 N.r3,.int .i64 N.a2,.slice N.s1 N.s2 N.s3,.int .i64 N.a4,.int .i64 N.a5,.bool N.a6,.int .i64 N.a7,.string N.a8] 25):=⟨_,rfl⟩
 have hbU:Below w.heap.size w U:=by rw [hU];exact Joins.below_alloc1 w _
 have hQ:BNo U w.heap.size N:=by rw [hU];exact heap_alloc_new w _
 have hpU:w.heap.size < U.heap.size:=(Array.getElem?_eq_some_iff.1 hQ).1
 have hbU2:base ≤ U.heap.size:=Nat.le_trans hb hbU.size
 have HSS:Hid (∀ W,Below U.heap.size U W → Calls Tryz.prog 234 #[pt m,N.v] W fun e w' => e = .returned (.tuple #[]) ∧ MKL w' m base A (l ++ t.lay l.length) ∧ Fr base W w'):=fun W hW =>
  hl W m l ((hM.below hbU hA (by omega)).below hW hA (by omega)) hm (Nat.le_trans hbU2 hW.size) (hT.kept (fun b hb' => (hW.block b (by have:=hA b hb';omega)).trans (hbU.block b (by have:=hA b hb';omega))) (fun _ h => h)) hlen
 have HF:=hid (Fr.of_below hbU hb)
 have HW:=fun W => hw m W
 have HQ:=hid hQ
 obtain ⟨c0,c1,c2,c3,c4,c5,c6,c7,c8⟩:=nine' hQ
 obtain ⟨p,hp⟩:∃ p,p = w.heap.size:=⟨_,rfl⟩
 rw [← hp] at c0 c1 c2 c3 c4 c5 c6 c7 c8 hpU HQ
 clear hM hbU hQ hw hl hT hlen
 go_enter Tryz.func94,Tryz.ntmps94
 go_upto_region 1 with fail
 rw [← hU,← hp]
 clear hU hp
 go_region_held3 (fun W => W.cell? ⟨p,0,none⟩ = some (.int .i64 N.k) ∧ W.cell? ⟨p,1,none⟩ = some (.slice N.r1 N.r2 N.r3) ∧ W.cell? ⟨p,2,none⟩ = some (.int .i64 N.a2) ∧ W.cell? ⟨p,3,none⟩ = some (.slice N.s1 N.s2 N.s3) ∧ W.cell? ⟨p,4,none⟩ = some (.int .i64 N.a4) ∧ W.cell? ⟨p,5,none⟩ = some (.int .i64 N.a5) ∧ W.cell? ⟨p,6,none⟩ = some (.bool N.a6) ∧ W.cell? ⟨p,7,none⟩ = some (.int .i64 N.a7) ∧ W.cell? ⟨p,8,none⟩ = some (.string N.a8)) (first | (exact ⟨j0,j1,j2,j3,j4,j5,j6,j7,j8⟩) | (exact ⟨k0,k1,k2,k3,k4,k5,k6,k7,k8⟩) | (simp [*];done)) (first | (go_at_call 138;(with_reducible refine (HW _).mono ?_);rintro e w2 ⟨rfl,hb2⟩;have hbb:Below U.heap.size U w2:=⟨hb2.os,hb2.tape,hb2.output,hb2.size,hb2.block⟩;obtain ⟨k0,k1,k2,k3,k4,k5,k6,k7,k8⟩:=nine' ((hbb.block p hpU).trans HQ.out);have HC:=HSS.out w2 hbb;have HBB:=hid hbb;clear hbb hb2) | (go_at_call 234;(with_reducible refine HC.mono ?_);rintro e w3 ⟨rfl,hM,hf⟩;obtain ⟨j0,j1,j2,j3,j4,j5,j6,j7,j8⟩:=nine' (hf.blk p _ _ _ ((HBB.out.block p hpU).trans HQ.out) (by decide) (by decide));have HM:=hid hM;have HF3:=hid hf;clear hM hf))
 all_goals go_wp2_with fail
 all_goals go_end0
 all_goals exact ⟨rfl,HM.out,HF.out.trans ((Fr.of_below HBB.out hbU2).trans HF3.out)⟩
set_option maxRecDepth 100000 in
set_option maxHeartbeats 8000000 in
theorem lay49_111 {base:Nat} {A:Nat → Prop} {N:Nv} {t:Tn} (hA:∀ b,A b → b < base) (hw:∀ m w,Calls Tryz.prog 138 #[pt m,N.v] w fun e w' => e = .returned (.func (.func 235) #[pt m] #[]) ∧ Below w.heap.size w w') (hl:LP 235 base A N t):LP 94 base A N t:=by
 intro w m l hM hm hb hT hlen
 obtain ⟨U,hU⟩:∃ U,U = w.alloc (.cells #[.int .i64 N.k,.slice N.r1 N.r2 N.r3,.int .i64 N.a2,.slice N.s1 N.s2 N.s3,.int .i64 N.a4,.int .i64 N.a5,.bool N.a6,.int .i64 N.a7,.string N.a8] 25):=⟨_,rfl⟩
 have hbU:Below w.heap.size w U:=by rw [hU];exact Joins.below_alloc1 w _
 have hQ:BNo U w.heap.size N:=by rw [hU];exact heap_alloc_new w _
 have hpU:w.heap.size < U.heap.size:=(Array.getElem?_eq_some_iff.1 hQ).1
 have hbU2:base ≤ U.heap.size:=Nat.le_trans hb hbU.size
 have HSS:Hid (∀ W,Below U.heap.size U W → Calls Tryz.prog 235 #[pt m,N.v] W fun e w' => e = .returned (.tuple #[]) ∧ MKL w' m base A (l ++ t.lay l.length) ∧ Fr base W w'):=fun W hW =>
  hl W m l ((hM.below hbU hA (by omega)).below hW hA (by omega)) hm (Nat.le_trans hbU2 hW.size) (hT.kept (fun b hb' => (hW.block b (by have:=hA b hb';omega)).trans (hbU.block b (by have:=hA b hb';omega))) (fun _ h => h)) hlen
 have HF:=hid (Fr.of_below hbU hb)
 have HW:=fun W => hw m W
 have HQ:=hid hQ
 obtain ⟨c0,c1,c2,c3,c4,c5,c6,c7,c8⟩:=nine' hQ
 obtain ⟨p,hp⟩:∃ p,p = w.heap.size:=⟨_,rfl⟩
 rw [← hp] at c0 c1 c2 c3 c4 c5 c6 c7 c8 hpU HQ
 clear hM hbU hQ hw hl hT hlen
 go_enter Tryz.func94,Tryz.ntmps94
 go_upto_region 1 with fail
 rw [← hU,← hp]
 clear hU hp
 go_region_held3 (fun W => W.cell? ⟨p,0,none⟩ = some (.int .i64 N.k) ∧ W.cell? ⟨p,1,none⟩ = some (.slice N.r1 N.r2 N.r3) ∧ W.cell? ⟨p,2,none⟩ = some (.int .i64 N.a2) ∧ W.cell? ⟨p,3,none⟩ = some (.slice N.s1 N.s2 N.s3) ∧ W.cell? ⟨p,4,none⟩ = some (.int .i64 N.a4) ∧ W.cell? ⟨p,5,none⟩ = some (.int .i64 N.a5) ∧ W.cell? ⟨p,6,none⟩ = some (.bool N.a6) ∧ W.cell? ⟨p,7,none⟩ = some (.int .i64 N.a7) ∧ W.cell? ⟨p,8,none⟩ = some (.string N.a8)) (first | (exact ⟨j0,j1,j2,j3,j4,j5,j6,j7,j8⟩) | (exact ⟨k0,k1,k2,k3,k4,k5,k6,k7,k8⟩) | (simp [*];done)) (first | (go_at_call 138;(with_reducible refine (HW _).mono ?_);rintro e w2 ⟨rfl,hb2⟩;have hbb:Below U.heap.size U w2:=⟨hb2.os,hb2.tape,hb2.output,hb2.size,hb2.block⟩;obtain ⟨k0,k1,k2,k3,k4,k5,k6,k7,k8⟩:=nine' ((hbb.block p hpU).trans HQ.out);have HC:=HSS.out w2 hbb;have HBB:=hid hbb;clear hbb hb2) | (go_at_call 235;(with_reducible refine HC.mono ?_);rintro e w3 ⟨rfl,hM,hf⟩;obtain ⟨j0,j1,j2,j3,j4,j5,j6,j7,j8⟩:=nine' (hf.blk p _ _ _ ((HBB.out.block p hpU).trans HQ.out) (by decide) (by decide));have HM:=hid hM;have HF3:=hid hf;clear hM hf))
 all_goals go_wp2_with fail
 all_goals go_end0
 all_goals exact ⟨rfl,HM.out,HF.out.trans ((Fr.of_below HBB.out hbU2).trans HF3.out)⟩
set_option maxRecDepth 100000 in
set_option maxHeartbeats 8000000 in
theorem lay49_112 {base:Nat} {A:Nat → Prop} {N:Nv} {t:Tn} (hA:∀ b,A b → b < base) (hw:∀ m w,Calls Tryz.prog 138 #[pt m,N.v] w fun e w' => e = .returned (.func (.func 236) #[pt m] #[]) ∧ Below w.heap.size w w') (hl:LP 236 base A N t):LP 94 base A N t:=by
 intro w m l hM hm hb hT hlen
 obtain ⟨U,hU⟩:∃ U,U = w.alloc (.cells #[.int .i64 N.k,.slice N.r1 N.r2 N.r3,.int .i64 N.a2,.slice N.s1 N.s2 N.s3,.int .i64 N.a4,.int .i64 N.a5,.bool N.a6,.int .i64 N.a7,.string N.a8] 25):=⟨_,rfl⟩
 have hbU:Below w.heap.size w U:=by rw [hU];exact Joins.below_alloc1 w _
 have hQ:BNo U w.heap.size N:=by rw [hU];exact heap_alloc_new w _
 have hpU:w.heap.size < U.heap.size:=(Array.getElem?_eq_some_iff.1 hQ).1
 have hbU2:base ≤ U.heap.size:=Nat.le_trans hb hbU.size
 have HSS:Hid (∀ W,Below U.heap.size U W → Calls Tryz.prog 236 #[pt m,N.v] W fun e w' => e = .returned (.tuple #[]) ∧ MKL w' m base A (l ++ t.lay l.length) ∧ Fr base W w'):=fun W hW =>
  hl W m l ((hM.below hbU hA (by omega)).below hW hA (by omega)) hm (Nat.le_trans hbU2 hW.size) (hT.kept (fun b hb' => (hW.block b (by have:=hA b hb';omega)).trans (hbU.block b (by have:=hA b hb';omega))) (fun _ h => h)) hlen
 have HF:=hid (Fr.of_below hbU hb)
 have HW:=fun W => hw m W
 have HQ:=hid hQ
 obtain ⟨c0,c1,c2,c3,c4,c5,c6,c7,c8⟩:=nine' hQ
 obtain ⟨p,hp⟩:∃ p,p = w.heap.size:=⟨_,rfl⟩
 rw [← hp] at c0 c1 c2 c3 c4 c5 c6 c7 c8 hpU HQ
 clear hM hbU hQ hw hl hT hlen
 go_enter Tryz.func94,Tryz.ntmps94
 go_upto_region 1 with fail
 rw [← hU,← hp]
 clear hU hp
 go_region_held3 (fun W => W.cell? ⟨p,0,none⟩ = some (.int .i64 N.k) ∧ W.cell? ⟨p,1,none⟩ = some (.slice N.r1 N.r2 N.r3) ∧ W.cell? ⟨p,2,none⟩ = some (.int .i64 N.a2) ∧ W.cell? ⟨p,3,none⟩ = some (.slice N.s1 N.s2 N.s3) ∧ W.cell? ⟨p,4,none⟩ = some (.int .i64 N.a4) ∧ W.cell? ⟨p,5,none⟩ = some (.int .i64 N.a5) ∧ W.cell? ⟨p,6,none⟩ = some (.bool N.a6) ∧ W.cell? ⟨p,7,none⟩ = some (.int .i64 N.a7) ∧ W.cell? ⟨p,8,none⟩ = some (.string N.a8)) (first | (exact ⟨j0,j1,j2,j3,j4,j5,j6,j7,j8⟩) | (exact ⟨k0,k1,k2,k3,k4,k5,k6,k7,k8⟩) | (simp [*];done)) (first | (go_at_call 138;(with_reducible refine (HW _).mono ?_);rintro e w2 ⟨rfl,hb2⟩;have hbb:Below U.heap.size U w2:=⟨hb2.os,hb2.tape,hb2.output,hb2.size,hb2.block⟩;obtain ⟨k0,k1,k2,k3,k4,k5,k6,k7,k8⟩:=nine' ((hbb.block p hpU).trans HQ.out);have HC:=HSS.out w2 hbb;have HBB:=hid hbb;clear hbb hb2) | (go_at_call 236;(with_reducible refine HC.mono ?_);rintro e w3 ⟨rfl,hM,hf⟩;obtain ⟨j0,j1,j2,j3,j4,j5,j6,j7,j8⟩:=nine' (hf.blk p _ _ _ ((HBB.out.block p hpU).trans HQ.out) (by decide) (by decide));have HM:=hid hM;have HF3:=hid hf;clear hM hf))
 all_goals go_wp2_with fail
 all_goals go_end0
 all_goals exact ⟨rfl,HM.out,HF.out.trans ((Fr.of_below HBB.out hbU2).trans HF3.out)⟩
theorem lay_all {base:Nat} {A:Nat → Prop} (hA:∀ b,A b → b < base) {t:Tn} (h:Nf t):∀ N,LP 94 base A N t:=by
 have top:∀ {N:Nv} {k:Int} {R:List (Int × Int)} {a:Int} {s:List Tn} {mn mx:Int} {lz:Bool} {ix:Int} {nm:ByteArray} {w:World},TP w A N (.mk k R a s mn mx lz ix nm) → N.k = k ∧ N.a2 = a ∧ N.a4 = mn ∧ N.a5 = mx ∧ N.a6 = lz ∧ N.a7 = ix ∧ N.a8 = nm:=fun h => by cases h;exact ⟨rfl,rfl,rfl,rfl,rfl,rfl,rfl⟩
 induction h with
 | @leaf k R a mn mx lz ix nm hk hn =>
  intro N w m l hM hm hb hT hlen
  obtain ⟨e0,e2,e4,e5,e6,e7,e8⟩:=top hT
  obtain ⟨k0,r1,r2,r3,a2,s1,s2,s3,a4,a5,a6,a7,a8⟩:=N
  dsimp only at e0 e2 e4 e5 e6 e7 e8
  subst e0 e2 e4 e5 e6 e7 e8
  have hfk:=fine_kind0 hn
  rcases hk with rfl | rfl | rfl
  ·exact lay49_100 hA (fun m w => way75_100 m (by decide) (by decide) (by decide) (by decide) (by decide) (by decide) w) (empty100 hA (by decide) (by decide) (by decide) (by decide) (by decide) (by decide)) w m l hM hm hb hT hlen
  ·exact lay49_94 hA (fun m w => way75_94 m w) (class94g hA (by omega)) w m l hM hm hb hT hlen
  ·exact lay49_95 hA (fun m w => way75_95 m w) (assert95 hA) w m l hM hm hb hT hlen
 | @cat s h2 h hs ih =>
  intro N w m l hM hm hb hT hlen
  obtain ⟨e0,e2,e4,e5,e6,e7,e8⟩:=top hT
  obtain ⟨k0,r1,r2,r3,a2,s1,s2,s3,a4,a5,a6,a7,a8⟩:=N
  dsimp only at e0 e2 e4 e5 e6 e7 e8
  subst e0 e2 e4 e5 e6 e7 e8
  exact lay49_97 hA (fun m w => way75_97 m w) (cat97 hA fun i hi N => ih _ (List.getElem_mem hi) N) w m l hM hm hb hT hlen
 | @alt s h2 h hs ih =>
  intro N w m l hM hm hb hT hlen
  obtain ⟨e0,e2,e4,e5,e6,e7,e8⟩:=top hT
  obtain ⟨k0,r1,r2,r3,a2,s1,s2,s3,a4,a5,a6,a7,a8⟩:=N
  dsimp only at e0 e2 e4 e5 e6 e7 e8
  subst e0 e2 e4 e5 e6 e7 e8
  exact lay49_98 hA (fun m w => way75_98 m w) (alt98 hA h2 fun i hi N => ih _ (List.getElem_mem hi) N) w m l hM hm hb hT hlen
 | @loop mn mx lz y h hy ih =>
  intro N w m l hM hm hb hT hlen
  obtain ⟨e0,e2,e4,e5,e6,e7,e8⟩:=top hT
  obtain ⟨k0,r1,r2,r3,a2,s1,s2,s3,a4,a5,a6,a7,a8⟩:=N
  dsimp only at e0 e2 e4 e5 e6 e7 e8
  subst e0 e2 e4 e5 e6 e7 e8
  rcases h with ⟨rfl,rfl⟩ | ⟨rfl,rfl⟩ | ⟨rfl,rfl⟩
  ·exact lay49_111 hA (fun m w => way75_111 m (by decide) rfl w) (quest111 hA y rfl (by decide) rfl ih) w m l hM hm hb hT hlen
  ·exact lay49_112 hA (fun m w => way75_112 m (by decide) (by decide) w) (star112 hA y rfl (by decide) (by decide) ih) w m l hM hm hb hT hlen
  ·exact lay49_110 hA (fun m w => way75_110 m rfl w) (plus110 hA y rfl rfl ih) w m l hM hm hb hT hlen
 | @grp ix nm y hn hy ih =>
  intro N w m l hM hm hb hT hlen
  obtain ⟨e0,e2,e4,e5,e6,e7,e8⟩:=top hT
  obtain ⟨k0,r1,r2,r3,a2,s1,s2,s3,a4,a5,a6,a7,a8⟩:=N
  dsimp only at e0 e2 e4 e5 e6 e7 e8
  subst e0 e2 e4 e5 e6 e7 e8
  have hfk:=fine_kind0 hn
  exact lay49_96 hA (fun m w => way75_96 m w) (group96 hA y rfl (by omega) ih) w m l hM hm hb hT hlen
end Go.Proofs.YtacaanhnlfpbhaaGreat
