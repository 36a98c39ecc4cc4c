/- HELPERS: the whole program of a simple tree; a new row. -/
import Derived.Test.YtpckbpimgoljoaaGreatKH
import Derived.Test.YtpckbpimgoljoaaGreatKJ
/- HELPERS: any simple tree laid down. -/
namespace Go.Proofs.YtpckbpimgoljoaaGreat
open Go.RowKit
set_option linter.unusedVariables false
set_option linter.unusedSimpArgs false
set_option maxRecDepth 100000 in
set_option maxHeartbeats 4000000 in
theorem way75_94 (m : Nat) {a2 a4 a5 a7 : Int} {a6 : Bool} {a8 : ByteArray} {r1 s1 : Option Addr} {r2 r3 s2 s3 : Nat} (w : World) : Calls Tryz.prog 44 #[pt m, Nv.v ⟨2, r1, r2, r3, a2, s1, s2, s3, a4, a5, a6, a7, a8⟩] w fun e w' => e = .returned (.func (.func 74) #[pt m] #[]) ∧ Below w.heap.size w w' := by
  go_enter Tryz.func44, Tryz.ntmps44
  go_wp2
  all_goals go_ret
  all_goals exact ⟨rfl, Joins.below_alloc1 w _⟩
set_option maxRecDepth 100000 in
set_option maxHeartbeats 4000000 in
theorem way75_95 (m : Nat) {a2 a4 a5 a7 : Int} {a6 : Bool} {a8 : ByteArray} {r1 s1 : Option Addr} {r2 r3 s2 s3 : Nat} (w : World) : Calls Tryz.prog 44 #[pt m, Nv.v ⟨3, r1, r2, r3, a2, s1, s2, s3, a4, a5, a6, a7, a8⟩] w fun e w' => e = .returned (.func (.func 75) #[pt m] #[]) ∧ Below w.heap.size w w' := by
  go_enter Tryz.func44, Tryz.ntmps44
  go_wp2
  all_goals go_ret
  all_goals exact ⟨rfl, Joins.below_alloc1 w _⟩
set_option maxRecDepth 100000 in
set_option maxHeartbeats 4000000 in
theorem way75_96 (m : Nat) {a2 a4 a5 a7 : Int} {a6 : Bool} {a8 : ByteArray} {r1 s1 : Option Addr} {r2 r3 s2 s3 : Nat} (w : World) : Calls Tryz.prog 44 #[pt m, Nv.v ⟨7, r1, r2, r3, a2, s1, s2, s3, a4, a5, a6, a7, a8⟩] w fun e w' => e = .returned (.func (.func 76) #[pt m] #[]) ∧ Below w.heap.size w w' := by
  go_enter Tryz.func44, Tryz.ntmps44
  go_wp2
  all_goals go_ret
  all_goals exact ⟨rfl, Joins.below_alloc1 w _⟩
set_option maxRecDepth 100000 in
set_option maxHeartbeats 4000000 in
theorem way75_97 (m : Nat) {a2 a4 a5 a7 : Int} {a6 : Bool} {a8 : ByteArray} {r1 s1 : Option Addr} {r2 r3 s2 s3 : Nat} (w : World) : Calls Tryz.prog 44 #[pt m, Nv.v ⟨4, r1, r2, r3, a2, s1, s2, s3, a4, a5, a6, a7, a8⟩] w fun e w' => e = .returned (.func (.func 77) #[pt m] #[]) ∧ Below w.heap.size w w' := by
  go_enter Tryz.func44, Tryz.ntmps44
  go_wp2
  all_goals go_ret
  all_goals exact ⟨rfl, Joins.below_alloc1 w _⟩
set_option maxRecDepth 100000 in
set_option maxHeartbeats 4000000 in
theorem way75_98 (m : Nat) {a2 a4 a5 a7 : Int} {a6 : Bool} {a8 : ByteArray} {r1 s1 : Option Addr} {r2 r3 s2 s3 : Nat} (w : World) : Calls Tryz.prog 44 #[pt m, Nv.v ⟨5, r1, r2, r3, a2, s1, s2, s3, a4, a5, a6, a7, a8⟩] w fun e w' => e = .returned (.func (.func 78) #[pt m] #[]) ∧ Below w.heap.size w w' := by
  go_enter Tryz.func44, Tryz.ntmps44
  go_wp2
  all_goals go_ret
  all_goals exact ⟨rfl, Joins.below_alloc1 w _⟩
set_option maxRecDepth 100000 in
set_option maxHeartbeats 4000000 in
theorem way75_100 (m : Nat) {k a2 a4 a5 a7 : Int} {a6 : Bool} {a8 : ByteArray} {r1 s1 : Option Addr} {r2 r3 s2 s3 : Nat} (k1 : k ≠ 2) (k2 : k ≠ 3) (k3 : k ≠ 4) (k4 : k ≠ 5) (k5 : k ≠ 6) (k6 : k ≠ 7) (w : World) : Calls Tryz.prog 44 #[pt m, Nv.v ⟨k, r1, r2, r3, a2, s1, s2, s3, a4, a5, a6, a7, a8⟩] w fun e w' => e = .returned (.func (.func 80) #[pt m] #[]) ∧ Below w.heap.size w w' := by
  have g2 : (k == 2) = false := by simp [k1]
  have g3 : (k == 3) = false := by simp [k2]
  have g4 : (k == 4) = false := by simp [k3]
  have g5 : (k == 5) = false := by simp [k4]
  have g6 : (k == 6) = false := by simp [k5]
  have g7 : (k == 7) = false := by simp [k6]
  clear k1 k2 k3 k4 k5 k6
  go_enter Tryz.func44, Tryz.ntmps44
  go_wp2
  all_goals go_ret
  all_goals exact ⟨rfl, Joins.below_alloc1 w _⟩
set_option maxRecDepth 100000 in
set_option maxHeartbeats 4000000 in
theorem way75_110 (m : Nat) {a2 a4 a5 a7 : Int} {a6 : Bool} {a8 : ByteArray} {r1 s1 : Option Addr} {r2 r3 s2 s3 : Nat} (h1 : a4 = 1) (w : World) : Calls Tryz.prog 44 #[pt m, Nv.v ⟨6, r1, r2, r3, a2, s1, s2, s3, 1, a5, a6, a7, a8⟩] w fun e w' => e = .returned (.func (.func 100) #[pt m] #[]) ∧ Below w.heap.size w w' := by
  subst h1
  have HW : ∀ W, Calls Tryz.prog 79 #[pt m, Nv.v ⟨6, r1, r2, r3, a2, s1, s2, s3, 1, a5, a6, a7, a8⟩] W fun e w' => e = .returned (.func (.func 100) #[pt m] #[]) ∧ Below W.heap.size W w' := fun W => by
    go_enter Tryz.func79, Tryz.ntmps79
    go_wp2
    all_goals go_ret
    all_goals exact ⟨rfl, Joins.below_alloc1 W _⟩
  go_enter Tryz.func44, Tryz.ntmps44
  go_wp2_with (first | (go_at_call 79; (with_reducible refine (HW _).mono ?_); rintro e w2 ⟨rfl, hb2⟩; have HB2 := hid hb2; clear hb2))
  all_goals go_ret
  all_goals exact ⟨rfl, (Joins.below_alloc1 w _).trans (Joins.below_le HB2.out (by simp))⟩
set_option maxRecDepth 100000 in
set_option maxHeartbeats 4000000 in
theorem way75_111 (m : Nat) {a2 a4 a5 a7 : Int} {a6 : Bool} {a8 : ByteArray} {r1 s1 : Option Addr} {r2 r3 s2 s3 : Nat} (h1 : a4 ≠ 1) (h2 : a5 = 1) (w : World) : Calls Tryz.prog 44 #[pt m, Nv.v ⟨6, r1, r2, r3, a2, s1, s2, s3, a4, 1, a6, a7, a8⟩] w fun e w' => e = .returned (.func (.func 101) #[pt m] #[]) ∧ Below w.heap.size w w' := by
  subst h2
  have HW : ∀ W, Calls Tryz.prog 79 #[pt m, Nv.v ⟨6, r1, r2, r3, a2, s1, s2, s3, a4, 1, a6, a7, a8⟩] W fun e w' => e = .returned (.func (.func 101) #[pt m] #[]) ∧ Below W.heap.size W w' := fun W => by
    have g1 : (a4 == 1) = false := by simp [h1]
    go_enter Tryz.func79, Tryz.ntmps79
    go_wp2
    all_goals go_ret
    all_goals exact ⟨rfl, Joins.below_alloc1 W _⟩
  go_enter Tryz.func44, Tryz.ntmps44
  go_wp2_with (first | (go_at_call 79; (with_reducible refine (HW _).mono ?_); rintro e w2 ⟨rfl, hb2⟩; have HB2 := hid hb2; clear hb2))
  all_goals go_ret
  all_goals exact ⟨rfl, (Joins.below_alloc1 w _).trans (Joins.below_le HB2.out (by simp))⟩
set_option maxRecDepth 100000 in
set_option maxHeartbeats 4000000 in
theorem way75_112 (m : Nat) {a2 a4 a5 a7 : Int} {a6 : Bool} {a8 : ByteArray} {r1 s1 : Option Addr} {r2 r3 s2 s3 : Nat} (h1 : a4 ≠ 1) (h2 : a5 ≠ 1) (w : World) : Calls Tryz.prog 44 #[pt m, Nv.v ⟨6, r1, r2, r3, a2, s1, s2, s3, a4, a5, a6, a7, a8⟩] w fun e w' => e = .returned (.func (.func 102) #[pt m] #[]) ∧ Below w.heap.size w w' := by
  have HW : ∀ W, Calls Tryz.prog 79 #[pt m, Nv.v ⟨6, r1, r2, r3, a2, s1, s2, s3, a4, a5, a6, a7, a8⟩] W fun e w' => e = .returned (.func (.func 102) #[pt m] #[]) ∧ Below W.heap.size W w' := fun W => by
    have g1 : (a4 == 1) = false := by simp [h1]
    have g2 : (a5 == 1) = false := by simp [h2]
    go_enter Tryz.func79, Tryz.ntmps79
    go_wp2
    all_goals go_ret
    all_goals exact ⟨rfl, Joins.below_alloc1 W _⟩
  go_enter Tryz.func44, Tryz.ntmps44
  go_wp2_with (first | (go_at_call 79; (with_reducible refine (HW _).mono ?_); rintro e w2 ⟨rfl, hb2⟩; have HB2 := hid hb2; clear hb2))
  all_goals go_ret
  all_goals exact ⟨rfl, (Joins.below_alloc1 w _).trans (Joins.below_le HB2.out (by simp))⟩
set_option maxRecDepth 100000 in
set_option maxHeartbeats 8000000 in
theorem lay49_94 {base : Nat} {A : Nat → Prop} {N : Nv} {t : Tn} (hA : ∀ b, A b → b < base) (hw : ∀ m w, Calls Tryz.prog 44 #[pt m, N.v] w fun e w' => e = .returned (.func (.func 74) #[pt m] #[]) ∧ Below w.heap.size w w') (hl : LP 74 base A N t) : LP 29 base A N t := by
  intro w m l hM hm hb hT hlen
  obtain ⟨U, hU⟩ : ∃ U, U = w.alloc (.cells #[.int .i64 N.k, .slice N.r1 N.r2 N.r3, .int .i64 N.a2, .slice N.s1 N.s2 N.s3, .int .i64 N.a4, .int .i64 N.a5, .bool N.a6, .int .i64 N.a7, .string N.a8] 25) := ⟨_, rfl⟩
  have hbU : Below w.heap.size w U := by rw [hU]; exact Joins.below_alloc1 w _
  have hQ : BNo U w.heap.size N := by rw [hU]; exact heap_alloc_new w _
  have hpU : w.heap.size < U.heap.size := (Array.getElem?_eq_some_iff.1 hQ).1
  have hbU2 : base ≤ U.heap.size := Nat.le_trans hb hbU.size
  have HSS : Hid (∀ W, Below U.heap.size U W → Calls Tryz.prog 74 #[pt m, N.v] W fun e w' => e = .returned (.tuple #[]) ∧ MKL w' m base A (l ++ t.lay l.length) ∧ Fr base W w') := fun W hW =>
    hl W m l ((hM.below hbU hA (by omega)).below hW hA (by omega)) hm (Nat.le_trans hbU2 hW.size) (hT.kept (fun b hb' => (hW.block b (by have := hA b hb'; omega)).trans (hbU.block b (by have := hA b hb'; omega))) (fun _ h => h)) hlen
  have HF := hid (Fr.of_below hbU hb)
  have HW := fun W => hw m W
  have HQ := hid hQ
  obtain ⟨c0, c1, c2, c3, c4, c5, c6, c7, c8⟩ := nine' hQ
  obtain ⟨p, hp⟩ : ∃ p, p = w.heap.size := ⟨_, rfl⟩
  rw [← hp] at c0 c1 c2 c3 c4 c5 c6 c7 c8 hpU HQ
  clear hM hbU hQ hw hl hT hlen
  go_enter Tryz.func29, Tryz.ntmps29
  go_upto_region 1 with fail
  rw [← hU, ← hp]
  clear hU hp
  go_region_held3 (fun W => W.cell? ⟨p, 0, none⟩ = some (.int .i64 N.k) ∧ W.cell? ⟨p, 1, none⟩ = some (.slice N.r1 N.r2 N.r3) ∧ W.cell? ⟨p, 2, none⟩ = some (.int .i64 N.a2) ∧ W.cell? ⟨p, 3, none⟩ = some (.slice N.s1 N.s2 N.s3) ∧ W.cell? ⟨p, 4, none⟩ = some (.int .i64 N.a4) ∧ W.cell? ⟨p, 5, none⟩ = some (.int .i64 N.a5) ∧ W.cell? ⟨p, 6, none⟩ = some (.bool N.a6) ∧ W.cell? ⟨p, 7, none⟩ = some (.int .i64 N.a7) ∧ W.cell? ⟨p, 8, none⟩ = some (.string N.a8)) (first | (exact ⟨j0, j1, j2, j3, j4, j5, j6, j7, j8⟩) | (exact ⟨k0, k1, k2, k3, k4, k5, k6, k7, k8⟩) | (simp [*]; done)) (first | (go_at_call 44; (with_reducible refine (HW _).mono ?_); rintro e w2 ⟨rfl, hb2⟩; have hbb : Below U.heap.size U w2 := ⟨hb2.os, hb2.tape, hb2.output, hb2.size, hb2.block⟩; obtain ⟨k0, k1, k2, k3, k4, k5, k6, k7, k8⟩ := nine' ((hbb.block p hpU).trans HQ.out); have HC := HSS.out w2 hbb; have HBB := hid hbb; clear hbb hb2) | (go_at_call 74; (with_reducible refine HC.mono ?_); rintro e w3 ⟨rfl, hM, hf⟩; obtain ⟨j0, j1, j2, j3, j4, j5, j6, j7, j8⟩ := nine' (hf.blk p _ _ _ ((HBB.out.block p hpU).trans HQ.out) (by decide) (by decide)); have HM := hid hM; have HF3 := hid hf; clear hM hf))
  all_goals go_wp2_with fail
  all_goals go_end0
  all_goals exact ⟨rfl, HM.out, HF.out.trans ((Fr.of_below HBB.out hbU2).trans HF3.out)⟩
set_option maxRecDepth 100000 in
set_option maxHeartbeats 8000000 in
theorem lay49_95 {base : Nat} {A : Nat → Prop} {N : Nv} {t : Tn} (hA : ∀ b, A b → b < base) (hw : ∀ m w, Calls Tryz.prog 44 #[pt m, N.v] w fun e w' => e = .returned (.func (.func 75) #[pt m] #[]) ∧ Below w.heap.size w w') (hl : LP 75 base A N t) : LP 29 base A N t := by
  intro w m l hM hm hb hT hlen
  obtain ⟨U, hU⟩ : ∃ U, U = w.alloc (.cells #[.int .i64 N.k, .slice N.r1 N.r2 N.r3, .int .i64 N.a2, .slice N.s1 N.s2 N.s3, .int .i64 N.a4, .int .i64 N.a5, .bool N.a6, .int .i64 N.a7, .string N.a8] 25) := ⟨_, rfl⟩
  have hbU : Below w.heap.size w U := by rw [hU]; exact Joins.below_alloc1 w _
  have hQ : BNo U w.heap.size N := by rw [hU]; exact heap_alloc_new w _
  have hpU : w.heap.size < U.heap.size := (Array.getElem?_eq_some_iff.1 hQ).1
  have hbU2 : base ≤ U.heap.size := Nat.le_trans hb hbU.size
  have HSS : Hid (∀ W, Below U.heap.size U W → Calls Tryz.prog 75 #[pt m, N.v] W fun e w' => e = .returned (.tuple #[]) ∧ MKL w' m base A (l ++ t.lay l.length) ∧ Fr base W w') := fun W hW =>
    hl W m l ((hM.below hbU hA (by omega)).below hW hA (by omega)) hm (Nat.le_trans hbU2 hW.size) (hT.kept (fun b hb' => (hW.block b (by have := hA b hb'; omega)).trans (hbU.block b (by have := hA b hb'; omega))) (fun _ h => h)) hlen
  have HF := hid (Fr.of_below hbU hb)
  have HW := fun W => hw m W
  have HQ := hid hQ
  obtain ⟨c0, c1, c2, c3, c4, c5, c6, c7, c8⟩ := nine' hQ
  obtain ⟨p, hp⟩ : ∃ p, p = w.heap.size := ⟨_, rfl⟩
  rw [← hp] at c0 c1 c2 c3 c4 c5 c6 c7 c8 hpU HQ
  clear hM hbU hQ hw hl hT hlen
  go_enter Tryz.func29, Tryz.ntmps29
  go_upto_region 1 with fail
  rw [← hU, ← hp]
  clear hU hp
  go_region_held3 (fun W => W.cell? ⟨p, 0, none⟩ = some (.int .i64 N.k) ∧ W.cell? ⟨p, 1, none⟩ = some (.slice N.r1 N.r2 N.r3) ∧ W.cell? ⟨p, 2, none⟩ = some (.int .i64 N.a2) ∧ W.cell? ⟨p, 3, none⟩ = some (.slice N.s1 N.s2 N.s3) ∧ W.cell? ⟨p, 4, none⟩ = some (.int .i64 N.a4) ∧ W.cell? ⟨p, 5, none⟩ = some (.int .i64 N.a5) ∧ W.cell? ⟨p, 6, none⟩ = some (.bool N.a6) ∧ W.cell? ⟨p, 7, none⟩ = some (.int .i64 N.a7) ∧ W.cell? ⟨p, 8, none⟩ = some (.string N.a8)) (first | (exact ⟨j0, j1, j2, j3, j4, j5, j6, j7, j8⟩) | (exact ⟨k0, k1, k2, k3, k4, k5, k6, k7, k8⟩) | (simp [*]; done)) (first | (go_at_call 44; (with_reducible refine (HW _).mono ?_); rintro e w2 ⟨rfl, hb2⟩; have hbb : Below U.heap.size U w2 := ⟨hb2.os, hb2.tape, hb2.output, hb2.size, hb2.block⟩; obtain ⟨k0, k1, k2, k3, k4, k5, k6, k7, k8⟩ := nine' ((hbb.block p hpU).trans HQ.out); have HC := HSS.out w2 hbb; have HBB := hid hbb; clear hbb hb2) | (go_at_call 75; (with_reducible refine HC.mono ?_); rintro e w3 ⟨rfl, hM, hf⟩; obtain ⟨j0, j1, j2, j3, j4, j5, j6, j7, j8⟩ := nine' (hf.blk p _ _ _ ((HBB.out.block p hpU).trans HQ.out) (by decide) (by decide)); have HM := hid hM; have HF3 := hid hf; clear hM hf))
  all_goals go_wp2_with fail
  all_goals go_end0
  all_goals exact ⟨rfl, HM.out, HF.out.trans ((Fr.of_below HBB.out hbU2).trans HF3.out)⟩
set_option maxRecDepth 100000 in
set_option maxHeartbeats 8000000 in
theorem lay49_96 {base : Nat} {A : Nat → Prop} {N : Nv} {t : Tn} (hA : ∀ b, A b → b < base) (hw : ∀ m w, Calls Tryz.prog 44 #[pt m, N.v] w fun e w' => e = .returned (.func (.func 76) #[pt m] #[]) ∧ Below w.heap.size w w') (hl : LP 76 base A N t) : LP 29 base A N t := by
  intro w m l hM hm hb hT hlen
  obtain ⟨U, hU⟩ : ∃ U, U = w.alloc (.cells #[.int .i64 N.k, .slice N.r1 N.r2 N.r3, .int .i64 N.a2, .slice N.s1 N.s2 N.s3, .int .i64 N.a4, .int .i64 N.a5, .bool N.a6, .int .i64 N.a7, .string N.a8] 25) := ⟨_, rfl⟩
  have hbU : Below w.heap.size w U := by rw [hU]; exact Joins.below_alloc1 w _
  have hQ : BNo U w.heap.size N := by rw [hU]; exact heap_alloc_new w _
  have hpU : w.heap.size < U.heap.size := (Array.getElem?_eq_some_iff.1 hQ).1
  have hbU2 : base ≤ U.heap.size := Nat.le_trans hb hbU.size
  have HSS : Hid (∀ W, Below U.heap.size U W → Calls Tryz.prog 76 #[pt m, N.v] W fun e w' => e = .returned (.tuple #[]) ∧ MKL w' m base A (l ++ t.lay l.length) ∧ Fr base W w') := fun W hW =>
    hl W m l ((hM.below hbU hA (by omega)).below hW hA (by omega)) hm (Nat.le_trans hbU2 hW.size) (hT.kept (fun b hb' => (hW.block b (by have := hA b hb'; omega)).trans (hbU.block b (by have := hA b hb'; omega))) (fun _ h => h)) hlen
  have HF := hid (Fr.of_below hbU hb)
  have HW := fun W => hw m W
  have HQ := hid hQ
  obtain ⟨c0, c1, c2, c3, c4, c5, c6, c7, c8⟩ := nine' hQ
  obtain ⟨p, hp⟩ : ∃ p, p = w.heap.size := ⟨_, rfl⟩
  rw [← hp] at c0 c1 c2 c3 c4 c5 c6 c7 c8 hpU HQ
  clear hM hbU hQ hw hl hT hlen
  go_enter Tryz.func29, Tryz.ntmps29
  go_upto_region 1 with fail
  rw [← hU, ← hp]
  clear hU hp
  go_region_held3 (fun W => W.cell? ⟨p, 0, none⟩ = some (.int .i64 N.k) ∧ W.cell? ⟨p, 1, none⟩ = some (.slice N.r1 N.r2 N.r3) ∧ W.cell? ⟨p, 2, none⟩ = some (.int .i64 N.a2) ∧ W.cell? ⟨p, 3, none⟩ = some (.slice N.s1 N.s2 N.s3) ∧ W.cell? ⟨p, 4, none⟩ = some (.int .i64 N.a4) ∧ W.cell? ⟨p, 5, none⟩ = some (.int .i64 N.a5) ∧ W.cell? ⟨p, 6, none⟩ = some (.bool N.a6) ∧ W.cell? ⟨p, 7, none⟩ = some (.int .i64 N.a7) ∧ W.cell? ⟨p, 8, none⟩ = some (.string N.a8)) (first | (exact ⟨j0, j1, j2, j3, j4, j5, j6, j7, j8⟩) | (exact ⟨k0, k1, k2, k3, k4, k5, k6, k7, k8⟩) | (simp [*]; done)) (first | (go_at_call 44; (with_reducible refine (HW _).mono ?_); rintro e w2 ⟨rfl, hb2⟩; have hbb : Below U.heap.size U w2 := ⟨hb2.os, hb2.tape, hb2.output, hb2.size, hb2.block⟩; obtain ⟨k0, k1, k2, k3, k4, k5, k6, k7, k8⟩ := nine' ((hbb.block p hpU).trans HQ.out); have HC := HSS.out w2 hbb; have HBB := hid hbb; clear hbb hb2) | (go_at_call 76; (with_reducible refine HC.mono ?_); rintro e w3 ⟨rfl, hM, hf⟩; obtain ⟨j0, j1, j2, j3, j4, j5, j6, j7, j8⟩ := nine' (hf.blk p _ _ _ ((HBB.out.block p hpU).trans HQ.out) (by decide) (by decide)); have HM := hid hM; have HF3 := hid hf; clear hM hf))
  all_goals go_wp2_with fail
  all_goals go_end0
  all_goals exact ⟨rfl, HM.out, HF.out.trans ((Fr.of_below HBB.out hbU2).trans HF3.out)⟩
set_option maxRecDepth 100000 in
set_option maxHeartbeats 8000000 in
theorem lay49_97 {base : Nat} {A : Nat → Prop} {N : Nv} {t : Tn} (hA : ∀ b, A b → b < base) (hw : ∀ m w, Calls Tryz.prog 44 #[pt m, N.v] w fun e w' => e = .returned (.func (.func 77) #[pt m] #[]) ∧ Below w.heap.size w w') (hl : LP 77 base A N t) : LP 29 base A N t := by
  intro w m l hM hm hb hT hlen
  obtain ⟨U, hU⟩ : ∃ U, U = w.alloc (.cells #[.int .i64 N.k, .slice N.r1 N.r2 N.r3, .int .i64 N.a2, .slice N.s1 N.s2 N.s3, .int .i64 N.a4, .int .i64 N.a5, .bool N.a6, .int .i64 N.a7, .string N.a8] 25) := ⟨_, rfl⟩
  have hbU : Below w.heap.size w U := by rw [hU]; exact Joins.below_alloc1 w _
  have hQ : BNo U w.heap.size N := by rw [hU]; exact heap_alloc_new w _
  have hpU : w.heap.size < U.heap.size := (Array.getElem?_eq_some_iff.1 hQ).1
  have hbU2 : base ≤ U.heap.size := Nat.le_trans hb hbU.size
  have HSS : Hid (∀ W, Below U.heap.size U W → Calls Tryz.prog 77 #[pt m, N.v] W fun e w' => e = .returned (.tuple #[]) ∧ MKL w' m base A (l ++ t.lay l.length) ∧ Fr base W w') := fun W hW =>
    hl W m l ((hM.below hbU hA (by omega)).below hW hA (by omega)) hm (Nat.le_trans hbU2 hW.size) (hT.kept (fun b hb' => (hW.block b (by have := hA b hb'; omega)).trans (hbU.block b (by have := hA b hb'; omega))) (fun _ h => h)) hlen
  have HF := hid (Fr.of_below hbU hb)
  have HW := fun W => hw m W
  have HQ := hid hQ
  obtain ⟨c0, c1, c2, c3, c4, c5, c6, c7, c8⟩ := nine' hQ
  obtain ⟨p, hp⟩ : ∃ p, p = w.heap.size := ⟨_, rfl⟩
  rw [← hp] at c0 c1 c2 c3 c4 c5 c6 c7 c8 hpU HQ
  clear hM hbU hQ hw hl hT hlen
  go_enter Tryz.func29, Tryz.ntmps29
  go_upto_region 1 with fail
  rw [← hU, ← hp]
  clear hU hp
  go_region_held3 (fun W => W.cell? ⟨p, 0, none⟩ = some (.int .i64 N.k) ∧ W.cell? ⟨p, 1, none⟩ = some (.slice N.r1 N.r2 N.r3) ∧ W.cell? ⟨p, 2, none⟩ = some (.int .i64 N.a2) ∧ W.cell? ⟨p, 3, none⟩ = some (.slice N.s1 N.s2 N.s3) ∧ W.cell? ⟨p, 4, none⟩ = some (.int .i64 N.a4) ∧ W.cell? ⟨p, 5, none⟩ = some (.int .i64 N.a5) ∧ W.cell? ⟨p, 6, none⟩ = some (.bool N.a6) ∧ W.cell? ⟨p, 7, none⟩ = some (.int .i64 N.a7) ∧ W.cell? ⟨p, 8, none⟩ = some (.string N.a8)) (first | (exact ⟨j0, j1, j2, j3, j4, j5, j6, j7, j8⟩) | (exact ⟨k0, k1, k2, k3, k4, k5, k6, k7, k8⟩) | (simp [*]; done)) (first | (go_at_call 44; (with_reducible refine (HW _).mono ?_); rintro e w2 ⟨rfl, hb2⟩; have hbb : Below U.heap.size U w2 := ⟨hb2.os, hb2.tape, hb2.output, hb2.size, hb2.block⟩; obtain ⟨k0, k1, k2, k3, k4, k5, k6, k7, k8⟩ := nine' ((hbb.block p hpU).trans HQ.out); have HC := HSS.out w2 hbb; have HBB := hid hbb; clear hbb hb2) | (go_at_call 77; (with_reducible refine HC.mono ?_); rintro e w3 ⟨rfl, hM, hf⟩; obtain ⟨j0, j1, j2, j3, j4, j5, j6, j7, j8⟩ := nine' (hf.blk p _ _ _ ((HBB.out.block p hpU).trans HQ.out) (by decide) (by decide)); have HM := hid hM; have HF3 := hid hf; clear hM hf))
  all_goals go_wp2_with fail
  all_goals go_end0
  all_goals exact ⟨rfl, HM.out, HF.out.trans ((Fr.of_below HBB.out hbU2).trans HF3.out)⟩
set_option maxRecDepth 100000 in
set_option maxHeartbeats 8000000 in
theorem lay49_98 {base : Nat} {A : Nat → Prop} {N : Nv} {t : Tn} (hA : ∀ b, A b → b < base) (hw : ∀ m w, Calls Tryz.prog 44 #[pt m, N.v] w fun e w' => e = .returned (.func (.func 78) #[pt m] #[]) ∧ Below w.heap.size w w') (hl : LP 78 base A N t) : LP 29 base A N t := by
  intro w m l hM hm hb hT hlen
  obtain ⟨U, hU⟩ : ∃ U, U = w.alloc (.cells #[.int .i64 N.k, .slice N.r1 N.r2 N.r3, .int .i64 N.a2, .slice N.s1 N.s2 N.s3, .int .i64 N.a4, .int .i64 N.a5, .bool N.a6, .int .i64 N.a7, .string N.a8] 25) := ⟨_, rfl⟩
  have hbU : Below w.heap.size w U := by rw [hU]; exact Joins.below_alloc1 w _
  have hQ : BNo U w.heap.size N := by rw [hU]; exact heap_alloc_new w _
  have hpU : w.heap.size < U.heap.size := (Array.getElem?_eq_some_iff.1 hQ).1
  have hbU2 : base ≤ U.heap.size := Nat.le_trans hb hbU.size
  have HSS : Hid (∀ W, Below U.heap.size U W → Calls Tryz.prog 78 #[pt m, N.v] W fun e w' => e = .returned (.tuple #[]) ∧ MKL w' m base A (l ++ t.lay l.length) ∧ Fr base W w') := fun W hW =>
    hl W m l ((hM.below hbU hA (by omega)).below hW hA (by omega)) hm (Nat.le_trans hbU2 hW.size) (hT.kept (fun b hb' => (hW.block b (by have := hA b hb'; omega)).trans (hbU.block b (by have := hA b hb'; omega))) (fun _ h => h)) hlen
  have HF := hid (Fr.of_below hbU hb)
  have HW := fun W => hw m W
  have HQ := hid hQ
  obtain ⟨c0, c1, c2, c3, c4, c5, c6, c7, c8⟩ := nine' hQ
  obtain ⟨p, hp⟩ : ∃ p, p = w.heap.size := ⟨_, rfl⟩
  rw [← hp] at c0 c1 c2 c3 c4 c5 c6 c7 c8 hpU HQ
  clear hM hbU hQ hw hl hT hlen
  go_enter Tryz.func29, Tryz.ntmps29
  go_upto_region 1 with fail
  rw [← hU, ← hp]
  clear hU hp
  go_region_held3 (fun W => W.cell? ⟨p, 0, none⟩ = some (.int .i64 N.k) ∧ W.cell? ⟨p, 1, none⟩ = some (.slice N.r1 N.r2 N.r3) ∧ W.cell? ⟨p, 2, none⟩ = some (.int .i64 N.a2) ∧ W.cell? ⟨p, 3, none⟩ = some (.slice N.s1 N.s2 N.s3) ∧ W.cell? ⟨p, 4, none⟩ = some (.int .i64 N.a4) ∧ W.cell? ⟨p, 5, none⟩ = some (.int .i64 N.a5) ∧ W.cell? ⟨p, 6, none⟩ = some (.bool N.a6) ∧ W.cell? ⟨p, 7, none⟩ = some (.int .i64 N.a7) ∧ W.cell? ⟨p, 8, none⟩ = some (.string N.a8)) (first | (exact ⟨j0, j1, j2, j3, j4, j5, j6, j7, j8⟩) | (exact ⟨k0, k1, k2, k3, k4, k5, k6, k7, k8⟩) | (simp [*]; done)) (first | (go_at_call 44; (with_reducible refine (HW _).mono ?_); rintro e w2 ⟨rfl, hb2⟩; have hbb : Below U.heap.size U w2 := ⟨hb2.os, hb2.tape, hb2.output, hb2.size, hb2.block⟩; obtain ⟨k0, k1, k2, k3, k4, k5, k6, k7, k8⟩ := nine' ((hbb.block p hpU).trans HQ.out); have HC := HSS.out w2 hbb; have HBB := hid hbb; clear hbb hb2) | (go_at_call 78; (with_reducible refine HC.mono ?_); rintro e w3 ⟨rfl, hM, hf⟩; obtain ⟨j0, j1, j2, j3, j4, j5, j6, j7, j8⟩ := nine' (hf.blk p _ _ _ ((HBB.out.block p hpU).trans HQ.out) (by decide) (by decide)); have HM := hid hM; have HF3 := hid hf; clear hM hf))
  all_goals go_wp2_with fail
  all_goals go_end0
  all_goals exact ⟨rfl, HM.out, HF.out.trans ((Fr.of_below HBB.out hbU2).trans HF3.out)⟩
set_option maxRecDepth 100000 in
set_option maxHeartbeats 8000000 in
theorem lay49_100 {base : Nat} {A : Nat → Prop} {N : Nv} {t : Tn} (hA : ∀ b, A b → b < base) (hw : ∀ m w, Calls Tryz.prog 44 #[pt m, N.v] w fun e w' => e = .returned (.func (.func 80) #[pt m] #[]) ∧ Below w.heap.size w w') (hl : LP 80 base A N t) : LP 29 base A N t := by
  intro w m l hM hm hb hT hlen
  obtain ⟨U, hU⟩ : ∃ U, U = w.alloc (.cells #[.int .i64 N.k, .slice N.r1 N.r2 N.r3, .int .i64 N.a2, .slice N.s1 N.s2 N.s3, .int .i64 N.a4, .int .i64 N.a5, .bool N.a6, .int .i64 N.a7, .string N.a8] 25) := ⟨_, rfl⟩
  have hbU : Below w.heap.size w U := by rw [hU]; exact Joins.below_alloc1 w _
  have hQ : BNo U w.heap.size N := by rw [hU]; exact heap_alloc_new w _
  have hpU : w.heap.size < U.heap.size := (Array.getElem?_eq_some_iff.1 hQ).1
  have hbU2 : base ≤ U.heap.size := Nat.le_trans hb hbU.size
  have HSS : Hid (∀ W, Below U.heap.size U W → Calls Tryz.prog 80 #[pt m, N.v] W fun e w' => e = .returned (.tuple #[]) ∧ MKL w' m base A (l ++ t.lay l.length) ∧ Fr base W w') := fun W hW =>
    hl W m l ((hM.below hbU hA (by omega)).below hW hA (by omega)) hm (Nat.le_trans hbU2 hW.size) (hT.kept (fun b hb' => (hW.block b (by have := hA b hb'; omega)).trans (hbU.block b (by have := hA b hb'; omega))) (fun _ h => h)) hlen
  have HF := hid (Fr.of_below hbU hb)
  have HW := fun W => hw m W
  have HQ := hid hQ
  obtain ⟨c0, c1, c2, c3, c4, c5, c6, c7, c8⟩ := nine' hQ
  obtain ⟨p, hp⟩ : ∃ p, p = w.heap.size := ⟨_, rfl⟩
  rw [← hp] at c0 c1 c2 c3 c4 c5 c6 c7 c8 hpU HQ
  clear hM hbU hQ hw hl hT hlen
  go_enter Tryz.func29, Tryz.ntmps29
  go_upto_region 1 with fail
  rw [← hU, ← hp]
  clear hU hp
  go_region_held3 (fun W => W.cell? ⟨p, 0, none⟩ = some (.int .i64 N.k) ∧ W.cell? ⟨p, 1, none⟩ = some (.slice N.r1 N.r2 N.r3) ∧ W.cell? ⟨p, 2, none⟩ = some (.int .i64 N.a2) ∧ W.cell? ⟨p, 3, none⟩ = some (.slice N.s1 N.s2 N.s3) ∧ W.cell? ⟨p, 4, none⟩ = some (.int .i64 N.a4) ∧ W.cell? ⟨p, 5, none⟩ = some (.int .i64 N.a5) ∧ W.cell? ⟨p, 6, none⟩ = some (.bool N.a6) ∧ W.cell? ⟨p, 7, none⟩ = some (.int .i64 N.a7) ∧ W.cell? ⟨p, 8, none⟩ = some (.string N.a8)) (first | (exact ⟨j0, j1, j2, j3, j4, j5, j6, j7, j8⟩) | (exact ⟨k0, k1, k2, k3, k4, k5, k6, k7, k8⟩) | (simp [*]; done)) (first | (go_at_call 44; (with_reducible refine (HW _).mono ?_); rintro e w2 ⟨rfl, hb2⟩; have hbb : Below U.heap.size U w2 := ⟨hb2.os, hb2.tape, hb2.output, hb2.size, hb2.block⟩; obtain ⟨k0, k1, k2, k3, k4, k5, k6, k7, k8⟩ := nine' ((hbb.block p hpU).trans HQ.out); have HC := HSS.out w2 hbb; have HBB := hid hbb; clear hbb hb2) | (go_at_call 80; (with_reducible refine HC.mono ?_); rintro e w3 ⟨rfl, hM, hf⟩; obtain ⟨j0, j1, j2, j3, j4, j5, j6, j7, j8⟩ := nine' (hf.blk p _ _ _ ((HBB.out.block p hpU).trans HQ.out) (by decide) (by decide)); have HM := hid hM; have HF3 := hid hf; clear hM hf))
  all_goals go_wp2_with fail
  all_goals go_end0
  all_goals exact ⟨rfl, HM.out, HF.out.trans ((Fr.of_below HBB.out hbU2).trans HF3.out)⟩
set_option maxRecDepth 100000 in
set_option maxHeartbeats 8000000 in
theorem lay49_110 {base : Nat} {A : Nat → Prop} {N : Nv} {t : Tn} (hA : ∀ b, A b → b < base) (hw : ∀ m w, Calls Tryz.prog 44 #[pt m, N.v] w fun e w' => e = .returned (.func (.func 100) #[pt m] #[]) ∧ Below w.heap.size w w') (hl : LP 100 base A N t) : LP 29 base A N t := by
  intro w m l hM hm hb hT hlen
  obtain ⟨U, hU⟩ : ∃ U, U = w.alloc (.cells #[.int .i64 N.k, .slice N.r1 N.r2 N.r3, .int .i64 N.a2, .slice N.s1 N.s2 N.s3, .int .i64 N.a4, .int .i64 N.a5, .bool N.a6, .int .i64 N.a7, .string N.a8] 25) := ⟨_, rfl⟩
  have hbU : Below w.heap.size w U := by rw [hU]; exact Joins.below_alloc1 w _
  have hQ : BNo U w.heap.size N := by rw [hU]; exact heap_alloc_new w _
  have hpU : w.heap.size < U.heap.size := (Array.getElem?_eq_some_iff.1 hQ).1
  have hbU2 : base ≤ U.heap.size := Nat.le_trans hb hbU.size
  have HSS : Hid (∀ W, Below U.heap.size U W → Calls Tryz.prog 100 #[pt m, N.v] W fun e w' => e = .returned (.tuple #[]) ∧ MKL w' m base A (l ++ t.lay l.length) ∧ Fr base W w') := fun W hW =>
    hl W m l ((hM.below hbU hA (by omega)).below hW hA (by omega)) hm (Nat.le_trans hbU2 hW.size) (hT.kept (fun b hb' => (hW.block b (by have := hA b hb'; omega)).trans (hbU.block b (by have := hA b hb'; omega))) (fun _ h => h)) hlen
  have HF := hid (Fr.of_below hbU hb)
  have HW := fun W => hw m W
  have HQ := hid hQ
  obtain ⟨c0, c1, c2, c3, c4, c5, c6, c7, c8⟩ := nine' hQ
  obtain ⟨p, hp⟩ : ∃ p, p = w.heap.size := ⟨_, rfl⟩
  rw [← hp] at c0 c1 c2 c3 c4 c5 c6 c7 c8 hpU HQ
  clear hM hbU hQ hw hl hT hlen
  go_enter Tryz.func29, Tryz.ntmps29
  go_upto_region 1 with fail
  rw [← hU, ← hp]
  clear hU hp
  go_region_held3 (fun W => W.cell? ⟨p, 0, none⟩ = some (.int .i64 N.k) ∧ W.cell? ⟨p, 1, none⟩ = some (.slice N.r1 N.r2 N.r3) ∧ W.cell? ⟨p, 2, none⟩ = some (.int .i64 N.a2) ∧ W.cell? ⟨p, 3, none⟩ = some (.slice N.s1 N.s2 N.s3) ∧ W.cell? ⟨p, 4, none⟩ = some (.int .i64 N.a4) ∧ W.cell? ⟨p, 5, none⟩ = some (.int .i64 N.a5) ∧ W.cell? ⟨p, 6, none⟩ = some (.bool N.a6) ∧ W.cell? ⟨p, 7, none⟩ = some (.int .i64 N.a7) ∧ W.cell? ⟨p, 8, none⟩ = some (.string N.a8)) (first | (exact ⟨j0, j1, j2, j3, j4, j5, j6, j7, j8⟩) | (exact ⟨k0, k1, k2, k3, k4, k5, k6, k7, k8⟩) | (simp [*]; done)) (first | (go_at_call 44; (with_reducible refine (HW _).mono ?_); rintro e w2 ⟨rfl, hb2⟩; have hbb : Below U.heap.size U w2 := ⟨hb2.os, hb2.tape, hb2.output, hb2.size, hb2.block⟩; obtain ⟨k0, k1, k2, k3, k4, k5, k6, k7, k8⟩ := nine' ((hbb.block p hpU).trans HQ.out); have HC := HSS.out w2 hbb; have HBB := hid hbb; clear hbb hb2) | (go_at_call 100; (with_reducible refine HC.mono ?_); rintro e w3 ⟨rfl, hM, hf⟩; obtain ⟨j0, j1, j2, j3, j4, j5, j6, j7, j8⟩ := nine' (hf.blk p _ _ _ ((HBB.out.block p hpU).trans HQ.out) (by decide) (by decide)); have HM := hid hM; have HF3 := hid hf; clear hM hf))
  all_goals go_wp2_with fail
  all_goals go_end0
  all_goals exact ⟨rfl, HM.out, HF.out.trans ((Fr.of_below HBB.out hbU2).trans HF3.out)⟩
set_option maxRecDepth 100000 in
set_option maxHeartbeats 8000000 in
theorem lay49_111 {base : Nat} {A : Nat → Prop} {N : Nv} {t : Tn} (hA : ∀ b, A b → b < base) (hw : ∀ m w, Calls Tryz.prog 44 #[pt m, N.v] w fun e w' => e = .returned (.func (.func 101) #[pt m] #[]) ∧ Below w.heap.size w w') (hl : LP 101 base A N t) : LP 29 base A N t := by
  intro w m l hM hm hb hT hlen
  obtain ⟨U, hU⟩ : ∃ U, U = w.alloc (.cells #[.int .i64 N.k, .slice N.r1 N.r2 N.r3, .int .i64 N.a2, .slice N.s1 N.s2 N.s3, .int .i64 N.a4, .int .i64 N.a5, .bool N.a6, .int .i64 N.a7, .string N.a8] 25) := ⟨_, rfl⟩
  have hbU : Below w.heap.size w U := by rw [hU]; exact Joins.below_alloc1 w _
  have hQ : BNo U w.heap.size N := by rw [hU]; exact heap_alloc_new w _
  have hpU : w.heap.size < U.heap.size := (Array.getElem?_eq_some_iff.1 hQ).1
  have hbU2 : base ≤ U.heap.size := Nat.le_trans hb hbU.size
  have HSS : Hid (∀ W, Below U.heap.size U W → Calls Tryz.prog 101 #[pt m, N.v] W fun e w' => e = .returned (.tuple #[]) ∧ MKL w' m base A (l ++ t.lay l.length) ∧ Fr base W w') := fun W hW =>
    hl W m l ((hM.below hbU hA (by omega)).below hW hA (by omega)) hm (Nat.le_trans hbU2 hW.size) (hT.kept (fun b hb' => (hW.block b (by have := hA b hb'; omega)).trans (hbU.block b (by have := hA b hb'; omega))) (fun _ h => h)) hlen
  have HF := hid (Fr.of_below hbU hb)
  have HW := fun W => hw m W
  have HQ := hid hQ
  obtain ⟨c0, c1, c2, c3, c4, c5, c6, c7, c8⟩ := nine' hQ
  obtain ⟨p, hp⟩ : ∃ p, p = w.heap.size := ⟨_, rfl⟩
  rw [← hp] at c0 c1 c2 c3 c4 c5 c6 c7 c8 hpU HQ
  clear hM hbU hQ hw hl hT hlen
  go_enter Tryz.func29, Tryz.ntmps29
  go_upto_region 1 with fail
  rw [← hU, ← hp]
  clear hU hp
  go_region_held3 (fun W => W.cell? ⟨p, 0, none⟩ = some (.int .i64 N.k) ∧ W.cell? ⟨p, 1, none⟩ = some (.slice N.r1 N.r2 N.r3) ∧ W.cell? ⟨p, 2, none⟩ = some (.int .i64 N.a2) ∧ W.cell? ⟨p, 3, none⟩ = some (.slice N.s1 N.s2 N.s3) ∧ W.cell? ⟨p, 4, none⟩ = some (.int .i64 N.a4) ∧ W.cell? ⟨p, 5, none⟩ = some (.int .i64 N.a5) ∧ W.cell? ⟨p, 6, none⟩ = some (.bool N.a6) ∧ W.cell? ⟨p, 7, none⟩ = some (.int .i64 N.a7) ∧ W.cell? ⟨p, 8, none⟩ = some (.string N.a8)) (first | (exact ⟨j0, j1, j2, j3, j4, j5, j6, j7, j8⟩) | (exact ⟨k0, k1, k2, k3, k4, k5, k6, k7, k8⟩) | (simp [*]; done)) (first | (go_at_call 44; (with_reducible refine (HW _).mono ?_); rintro e w2 ⟨rfl, hb2⟩; have hbb : Below U.heap.size U w2 := ⟨hb2.os, hb2.tape, hb2.output, hb2.size, hb2.block⟩; obtain ⟨k0, k1, k2, k3, k4, k5, k6, k7, k8⟩ := nine' ((hbb.block p hpU).trans HQ.out); have HC := HSS.out w2 hbb; have HBB := hid hbb; clear hbb hb2) | (go_at_call 101; (with_reducible refine HC.mono ?_); rintro e w3 ⟨rfl, hM, hf⟩; obtain ⟨j0, j1, j2, j3, j4, j5, j6, j7, j8⟩ := nine' (hf.blk p _ _ _ ((HBB.out.block p hpU).trans HQ.out) (by decide) (by decide)); have HM := hid hM; have HF3 := hid hf; clear hM hf))
  all_goals go_wp2_with fail
  all_goals go_end0
  all_goals exact ⟨rfl, HM.out, HF.out.trans ((Fr.of_below HBB.out hbU2).trans HF3.out)⟩
set_option maxRecDepth 100000 in
set_option maxHeartbeats 8000000 in
theorem lay49_112 {base : Nat} {A : Nat → Prop} {N : Nv} {t : Tn} (hA : ∀ b, A b → b < base) (hw : ∀ m w, Calls Tryz.prog 44 #[pt m, N.v] w fun e w' => e = .returned (.func (.func 102) #[pt m] #[]) ∧ Below w.heap.size w w') (hl : LP 102 base A N t) : LP 29 base A N t := by
  intro w m l hM hm hb hT hlen
  obtain ⟨U, hU⟩ : ∃ U, U = w.alloc (.cells #[.int .i64 N.k, .slice N.r1 N.r2 N.r3, .int .i64 N.a2, .slice N.s1 N.s2 N.s3, .int .i64 N.a4, .int .i64 N.a5, .bool N.a6, .int .i64 N.a7, .string N.a8] 25) := ⟨_, rfl⟩
  have hbU : Below w.heap.size w U := by rw [hU]; exact Joins.below_alloc1 w _
  have hQ : BNo U w.heap.size N := by rw [hU]; exact heap_alloc_new w _
  have hpU : w.heap.size < U.heap.size := (Array.getElem?_eq_some_iff.1 hQ).1
  have hbU2 : base ≤ U.heap.size := Nat.le_trans hb hbU.size
  have HSS : Hid (∀ W, Below U.heap.size U W → Calls Tryz.prog 102 #[pt m, N.v] W fun e w' => e = .returned (.tuple #[]) ∧ MKL w' m base A (l ++ t.lay l.length) ∧ Fr base W w') := fun W hW =>
    hl W m l ((hM.below hbU hA (by omega)).below hW hA (by omega)) hm (Nat.le_trans hbU2 hW.size) (hT.kept (fun b hb' => (hW.block b (by have := hA b hb'; omega)).trans (hbU.block b (by have := hA b hb'; omega))) (fun _ h => h)) hlen
  have HF := hid (Fr.of_below hbU hb)
  have HW := fun W => hw m W
  have HQ := hid hQ
  obtain ⟨c0, c1, c2, c3, c4, c5, c6, c7, c8⟩ := nine' hQ
  obtain ⟨p, hp⟩ : ∃ p, p = w.heap.size := ⟨_, rfl⟩
  rw [← hp] at c0 c1 c2 c3 c4 c5 c6 c7 c8 hpU HQ
  clear hM hbU hQ hw hl hT hlen
  go_enter Tryz.func29, Tryz.ntmps29
  go_upto_region 1 with fail
  rw [← hU, ← hp]
  clear hU hp
  go_region_held3 (fun W => W.cell? ⟨p, 0, none⟩ = some (.int .i64 N.k) ∧ W.cell? ⟨p, 1, none⟩ = some (.slice N.r1 N.r2 N.r3) ∧ W.cell? ⟨p, 2, none⟩ = some (.int .i64 N.a2) ∧ W.cell? ⟨p, 3, none⟩ = some (.slice N.s1 N.s2 N.s3) ∧ W.cell? ⟨p, 4, none⟩ = some (.int .i64 N.a4) ∧ W.cell? ⟨p, 5, none⟩ = some (.int .i64 N.a5) ∧ W.cell? ⟨p, 6, none⟩ = some (.bool N.a6) ∧ W.cell? ⟨p, 7, none⟩ = some (.int .i64 N.a7) ∧ W.cell? ⟨p, 8, none⟩ = some (.string N.a8)) (first | (exact ⟨j0, j1, j2, j3, j4, j5, j6, j7, j8⟩) | (exact ⟨k0, k1, k2, k3, k4, k5, k6, k7, k8⟩) | (simp [*]; done)) (first | (go_at_call 44; (with_reducible refine (HW _).mono ?_); rintro e w2 ⟨rfl, hb2⟩; have hbb : Below U.heap.size U w2 := ⟨hb2.os, hb2.tape, hb2.output, hb2.size, hb2.block⟩; obtain ⟨k0, k1, k2, k3, k4, k5, k6, k7, k8⟩ := nine' ((hbb.block p hpU).trans HQ.out); have HC := HSS.out w2 hbb; have HBB := hid hbb; clear hbb hb2) | (go_at_call 102; (with_reducible refine HC.mono ?_); rintro e w3 ⟨rfl, hM, hf⟩; obtain ⟨j0, j1, j2, j3, j4, j5, j6, j7, j8⟩ := nine' (hf.blk p _ _ _ ((HBB.out.block p hpU).trans HQ.out) (by decide) (by decide)); have HM := hid hM; have HF3 := hid hf; clear hM hf))
  all_goals go_wp2_with fail
  all_goals go_end0
  all_goals exact ⟨rfl, HM.out, HF.out.trans ((Fr.of_below HBB.out hbU2).trans HF3.out)⟩
/-- ANY SIMPLE TREE LAID DOWN -/
theorem lay_all {base : Nat} {A : Nat → Prop} (hA : ∀ b, A b → b < base) {t : Tn} (h : Nf t) : ∀ N, LP 29 base A N t := by
  have top : ∀ {N : Nv} {k : Int} {R : List (Int × Int)} {a : Int} {s : List Tn} {mn mx : Int} {lz : Bool} {ix : Int} {nm : ByteArray} {w : World}, TP w A N (.mk k R a s mn mx lz ix nm) → N.k = k ∧ N.a2 = a ∧ N.a4 = mn ∧ N.a5 = mx ∧ N.a6 = lz ∧ N.a7 = ix ∧ N.a8 = nm := fun h => by cases h; exact ⟨rfl, rfl, rfl, rfl, rfl, rfl, rfl⟩
  induction h with
  | @leaf k R a mn mx lz ix nm hk hn =>
    intro N w m l hM hm hb hT hlen
    obtain ⟨e0, e2, e4, e5, e6, e7, e8⟩ := top hT
    obtain ⟨k0, r1, r2, r3, a2, s1, s2, s3, a4, a5, a6, a7, a8⟩ := N
    dsimp only at e0 e2 e4 e5 e6 e7 e8
    subst e0 e2 e4 e5 e6 e7 e8
    have hfk := fine_kind0 hn
    rcases hk with rfl | rfl | rfl
    · exact lay49_100 hA (fun m w => way75_100 m (by decide) (by decide) (by decide) (by decide) (by decide) (by decide) w) (empty100 hA (by decide) (by decide) (by decide) (by decide) (by decide) (by decide)) w m l hM hm hb hT hlen
    · exact lay49_94 hA (fun m w => way75_94 m w) (class94g hA (by omega)) w m l hM hm hb hT hlen
    · exact lay49_95 hA (fun m w => way75_95 m w) (assert95 hA) w m l hM hm hb hT hlen
  | @cat s h2 h hs ih =>
    intro N w m l hM hm hb hT hlen
    obtain ⟨e0, e2, e4, e5, e6, e7, e8⟩ := top hT
    obtain ⟨k0, r1, r2, r3, a2, s1, s2, s3, a4, a5, a6, a7, a8⟩ := N
    dsimp only at e0 e2 e4 e5 e6 e7 e8
    subst e0 e2 e4 e5 e6 e7 e8
    exact lay49_97 hA (fun m w => way75_97 m w) (cat97 hA fun i hi N => ih _ (List.getElem_mem hi) N) w m l hM hm hb hT hlen
  | @alt s h2 h hs ih =>
    intro N w m l hM hm hb hT hlen
    obtain ⟨e0, e2, e4, e5, e6, e7, e8⟩ := top hT
    obtain ⟨k0, r1, r2, r3, a2, s1, s2, s3, a4, a5, a6, a7, a8⟩ := N
    dsimp only at e0 e2 e4 e5 e6 e7 e8
    subst e0 e2 e4 e5 e6 e7 e8
    exact lay49_98 hA (fun m w => way75_98 m w) (alt98 hA h2 fun i hi N => ih _ (List.getElem_mem hi) N) w m l hM hm hb hT hlen
  | @loop mn mx lz y h hy ih =>
    intro N w m l hM hm hb hT hlen
    obtain ⟨e0, e2, e4, e5, e6, e7, e8⟩ := top hT
    obtain ⟨k0, r1, r2, r3, a2, s1, s2, s3, a4, a5, a6, a7, a8⟩ := N
    dsimp only at e0 e2 e4 e5 e6 e7 e8
    subst e0 e2 e4 e5 e6 e7 e8
    rcases h with ⟨rfl, rfl⟩ | ⟨rfl, rfl⟩ | ⟨rfl, rfl⟩
    · exact lay49_111 hA (fun m w => way75_111 m (by decide) rfl w) (quest111 hA y rfl (by decide) rfl ih) w m l hM hm hb hT hlen
    · exact lay49_112 hA (fun m w => way75_112 m (by decide) (by decide) w) (star112 hA y rfl (by decide) (by decide) ih) w m l hM hm hb hT hlen
    · exact lay49_110 hA (fun m w => way75_110 m rfl w) (plus110 hA y rfl rfl ih) w m l hM hm hb hT hlen
  | @grp ix nm y hn hy ih =>
    intro N w m l hM hm hb hT hlen
    obtain ⟨e0, e2, e4, e5, e6, e7, e8⟩ := top hT
    obtain ⟨k0, r1, r2, r3, a2, s1, s2, s3, a4, a5, a6, a7, a8⟩ := N
    dsimp only at e0 e2 e4 e5 e6 e7 e8
    subst e0 e2 e4 e5 e6 e7 e8
    have hfk := fine_kind0 hn
    exact lay49_96 hA (fun m w => way75_96 m w) (group96 hA y rfl (by omega) ih) w m l hM hm hb hT hlen
end Go.Proofs.YtpckbpimgoljoaaGreat
namespace Go.Proofs.YtpckbpimgoljoaaGreat
open Go.RowKit
set_option linter.unusedVariables false
set_option linter.unusedSimpArgs false
set_option maxRecDepth 100000 in
set_option maxHeartbeats 8000000 in
theorem whole32g {base : Nat} {A : Nat → Prop} {N : Nv} {t : Tn} (hA : ∀ b, A b → b < base) (hnf : Nf t) {w : World} {m : Nat} (hM : MKL w m base A []) (hm : base ≤ m) (hb : base ≤ w.heap.size) (hT : TP w A N t) (hlen : t.len + 3 ≤ 20000) :
    Calls Tryz.prog 17 #[pt m, N.v] w fun e w' => e = .returned (.tuple #[]) ∧ MKL w' m base A (⟨3, 1, 0, 0, []⟩ :: (t.lay 1 ++ [⟨3, ((t.len + 2 : Nat) : Int), 0, 1, []⟩, ⟨5, 0, 0, 0, []⟩])) ∧ Fr base w w' := by
  obtain ⟨U, hU⟩ : ∃ U, U = w.alloc (.cells #[.int .i64 N.k, .slice N.r1 N.r2 N.r3, .int .i64 N.a2, .slice N.s1 N.s2 N.s3, .int .i64 N.a4, .int .i64 N.a5, .bool N.a6, .int .i64 N.a7, .string N.a8] 25) := ⟨_, rfl⟩
  have hbU : Below w.heap.size w U := by rw [hU]; exact Joins.below_alloc1 w _
  have hQ : BNo U w.heap.size N := by rw [hU]; exact heap_alloc_new w _
  have hbU2 : base ≤ U.heap.size := Nat.le_trans hb hbU.size
  have HF := hid (Fr.of_below hbU hb)
  have hTU : TP U A N t := hT.kept (fun b hb' => hbU.block b (by have := hA b hb'; omega)) (fun _ h => h)
  have HTU := hid hTU
  have H1 := stepL 3 0 0 none 0 0 [] (hM.below hbU hA hb) (im_bare _ _ _ _ _ _) hm hA (by simp) hbU2
  have HQ := hid hQ
  have HLY := hid (lay_all hA hnf N)
  obtain ⟨p, hp⟩ : ∃ p, p = w.heap.size := ⟨_, rfl⟩
  clear hM hbU hQ hT hTU hnf
  go_enter Tryz.func17, Tryz.ntmps17
  go_upto_region 1 with fail
  rw [← hU, ← hp]
  rw [← hp] at HQ
  clear hU hp
  go_upto_region 2 with (go_at_call 28; (with_reducible refine H1.mono ?_); rintro e U1 ⟨rfl, hM, hf⟩; have HM1 := hid hM; have HF1 := hid hf; clear hM hf H1)
  have HQ1 : Hid (BNo U1 p N) := HF1.out.blk p _ _ _ HQ.out (by decide) (by decide)
  have hb1 : base ≤ U1.heap.size := Nat.le_trans hbU2 HF1.out.size
  have H2 := HLY.out U1 m _ HM1.out hm hb1 (HTU.out.kept (HF1.out.bel hA) (fun _ h => h)) (by simp; omega)
  obtain ⟨c0, c1, c2, c3, c4, c5, c6, c7, c8⟩ := nine' HQ1.out
  go_upto_region 3 with (go_at_call 29; (with_reducible refine H2.mono ?_); rintro e U2 ⟨rfl, hM, hf⟩; have HM2 := hid hM; have HF2 := hid hf; clear hM hf H2)
  clear c0 c1 c2 c3 c4 c5 c6 c7 c8
  have hb2 : base ≤ U2.heap.size := Nat.le_trans hb1 HF2.out.size
  have hM2 : MKL U2 m base A (⟨3, 1, 0, 0, []⟩ :: t.lay 1) := by simpa using HM2.out
  have hl2 : ((⟨3, 1, 0, 0, []⟩ : In) :: t.lay 1).length = t.len + 1 := by simp [lay_len]
  have H3 := stepL 3 0 1 none 0 0 [] hM2 (im_bare _ _ _ _ _ _) hm hA (by rw [hl2]; omega) hb2
  rw [hl2] at H3
  clear hM2 hl2
  go_upto_region 4 with (go_at_call 28; (with_reducible refine H3.mono ?_); rintro e U3 ⟨rfl, hM, hf⟩; have HM3 := hid hM; have HF3 := hid hf; clear hM hf H3)
  have hb3 : base ≤ U3.heap.size := Nat.le_trans hb2 HF3.out.size
  have H4 := addL ⟨5, 0, 0, 0, none, 0, 0⟩ ⟨5, 0, 0, 0, []⟩ HM3.out (im_bare _ _ _ _ _ _) hm hA (by simp [lay_len]; omega) hb3
  go_wp2_with (first | (go_at_call 30; (with_reducible refine H4.mono ?_); rintro e U4 ⟨rfl, hM, hf⟩; have HM4 := hid hM; have HF4 := hid hf; clear hM hf H4))
  go_end0
  refine ⟨rfl, ?_, HF.out.trans (HF1.out.trans (HF2.out.trans (HF3.out.trans HF4.out)))⟩
  have h := HM4.out
  have e : (((t.len + 1 : Nat) : Int) + 1) = ((t.len + 2 : Nat) : Int) := by push_cast; omega
  rw [e] at h
  simpa [List.append_assoc] using h
set_option maxRecDepth 100000 in
set_option maxHeartbeats 4000000 in
theorem newRow31g (k : Nat) (hk : k ≤ 20000) (w : World) : Calls Tryz.prog 16 #[.int .i64 (k : Int)] w fun e w' => ∃ z1 c, e = .returned (.agg #[.slice z1 0 c]) ∧ w'.ownsRow w.heap.size 69 5 (.slice z1 0 c) 0 [] ∧ Below w.heap.size w w' := by
  have hmk := make51 k (by omega) (w.alloc (.cells #[.slice none 0 0] 50))
  have hs0 : (w.alloc (.cells #[.slice none 0 0] 50)).heap.size = w.heap.size + 1 := by simp
  have hown0 := made_own51 k (by unfold maxLen; omega) w.heap.size (w.alloc (.cells #[.slice none 0 0] 50)) (by simp)
  rw [hs0] at hmk hown0
  clear hs0
  have hQ : ((w.alloc (.cells #[.slice none 0 0] 50)).alloc (.cells (madeCells Z5.cells (k * 5)) 69)).heap[w.heap.size]? = some (.cells #[.slice none 0 0] 50 (0, 0)) := (heap_alloc_old _ _ (by simp)).trans (heap_alloc_new w _)
  have hbV : Below w.heap.size w ((w.alloc (.cells #[.slice none 0 0] 50)).alloc (.cells (madeCells Z5.cells (k * 5)) 69)) := below_two' w _ _
  obtain ⟨V, hV⟩ : ∃ V, V = (w.alloc (.cells #[.slice none 0 0] 50)).alloc (.cells (madeCells Z5.cells (k * 5)) 69) := ⟨_, rfl⟩
  rw [← hV] at hmk hown0 hQ hbV
  have f0 := Joins.unfrozen_of_block hQ 0
  have k0 := Joins.cell_of_block hQ 0
  have HQ := hid hQ
  have HB := hid hbV
  have HO := hid hown0
  clear hV hown0 hQ hbV
  go_enter Tryz.func16, Tryz.ntmps16
  go_wp2_with fail
  refine bodyPost_ret (results_cell_row rfl _ _ w.heap.size 50 _ (0, 0) _ rfl (Joins.block_setCell (i := 0) HQ.out _) Tryz.underlying50 rfl (by kernel_rfl)) rfl ?_
  exact ⟨some ⟨w.heap.size + 1, 0, none⟩, k, rfl, own_setCell HO.out (fun e => by simp [Value.ownBlock] at e), HB.out.setCell (p := ⟨w.heap.size, 0, none⟩) (Nat.le_refl _) _⟩
end Go.Proofs.YtpckbpimgoljoaaGreat
