/- HELPERS: for awake: the maker lays down the program of a class. -/
import Derived.Test.YtnecakampgdhcaaAc
import Derived.Test.YtnecakampgdhcaaLn
namespace Go.Proofs.Ytnecakampgdhcaa
open Go.RowKit
set_option linter.unusedVariables false
set_option linter.unusedSimpArgs false
abbrev BxC (w : World) (b : Nat) (r1 : Option Addr) (r2 r3 : Nat) : Prop := w.heap[b]? = some (.cells #[.int .i64 2, .slice r1 r2 r3, .int .i64 0, .slice none 0 0, .int .i64 0, .int .i64 0, .bool false, .int .i64 0, .string ⟨#[]⟩] 39 (0, 0))
theorem ninec {w : World} {b : Nat} {r1 : Option Addr} {r2 r3 : Nat} (h : BxC w b r1 r2 r3) : w.cell? ⟨b, 0, none⟩ = some (.int .i64 2) ∧ w.cell? ⟨b, 1, none⟩ = some (.slice r1 r2 r3) ∧ w.cell? ⟨b, 2, none⟩ = some (.int .i64 0) ∧ w.cell? ⟨b, 3, none⟩ = some (.slice none 0 0) ∧ w.cell? ⟨b, 4, none⟩ = some (.int .i64 0) ∧ w.cell? ⟨b, 5, none⟩ = some (.int .i64 0) ∧ w.cell? ⟨b, 6, none⟩ = some (.bool false) ∧ w.cell? ⟨b, 7, none⟩ = some (.int .i64 0) ∧ w.cell? ⟨b, 8, none⟩ = some (.string ⟨#[]⟩) :=
  ⟨Joins.cell_of_block h 0, Joins.cell_of_block h 1, Joins.cell_of_block h 2, Joins.cell_of_block h 3, Joins.cell_of_block h 4, Joins.cell_of_block h 5, Joins.cell_of_block h 6, Joins.cell_of_block h 7, Joins.cell_of_block h 8⟩
set_option maxRecDepth 100000 in
set_option maxHeartbeats 4000000 in
theorem class94 {w : World} {m base n : Nat} {xs : List Value} (r1 : Option Addr) (r3 : Nat) (h : MK w m base n xs) (hm : base ≤ m) (hn : n ≤ 20000) (hb : base ≤ w.heap.size) :
    Calls Try.prog 94 #[pt m, (CN r1 1 r3).v] w fun e w' => e = .returned (.tuple #[]) ∧ MK w' m base (n + 1) (xs ++ Iv.cs ⟨1, (n : Int) + 1, 0, 0, r1, 1, r3⟩) ∧ Fr base w w' := by
  obtain ⟨U, hU⟩ : ∃ U, U = w.alloc (.cells (Array.mk (CN r1 1 r3).cs) 39) := ⟨_, rfl⟩
  have hbU : Below w.heap.size w U := by rw [hU]; exact Joins.below_alloc1 w _
  have hQ : BxC U w.heap.size r1 1 r3 := by rw [hU]; exact heap_alloc_new w _
  have HS : ∀ W, Below U.heap.size U W → Calls Try.prog 48 #[pt m, (⟨1, 0, 0, 0, r1, 1, r3⟩ : Iv).v] W fun e w' => e = .returned (.tuple #[]) ∧ MK w' m base (n + 1) (xs ++ Iv.cs ⟨1, (n : Int) + 1, 0, 0, r1, 1, r3⟩) ∧ Fr base W w' := fun W hW =>
    step48 1 0 0 r1 1 r3 ((h.below hbU).below hW) hm hn (Nat.le_trans hb (Nat.le_trans hbU.size hW.size))
  have HF := hid (Fr.of_below hbU hb)
  have HSS := hid HS
  have hbU2 : base ≤ U.heap.size := Nat.le_trans hb hbU.size
  obtain ⟨c0, c1, c2, c3, c4, c5, c6, c7, c8⟩ := ninec hQ
  obtain ⟨p, hp⟩ : ∃ p, p = w.heap.size := ⟨_, rfl⟩
  clear h hbU hQ HS
  go_enter Try.func94, Try.ntmps94
  go_upto_region 1 with fail
  rw [← hU, ← hp]
  rw [← hp] at c0 c1 c2 c3 c4 c5 c6 c7 c8
  clear hU hp
  go_upto_region 3 with fail
  go_region_with (first | (go_at_call 48; (with_reducible refine (HSS.out _ ?_).mono ?_); (exact ⟨rfl, rfl, rfl, Nat.le_refl _, fun _ _ => rfl⟩); rintro e w3 ⟨rfl, hM, hf⟩; have HM := hid hM; have HF3 := hid hf; clear hM hf))
  all_goals go_wp2_with fail
  all_goals go_end0
  all_goals exact ⟨rfl, HM.out, HF.out.trans ((Fr.of_below (w := U) (w' := U.drew) ⟨rfl, rfl, rfl, Nat.le_refl _, fun _ _ => rfl⟩ hbU2).trans HF3.out)⟩
set_option maxRecDepth 100000 in
set_option maxHeartbeats 4000000 in
theorem way75 (m : Nat) (r1 : Option Addr) (r3 : Nat) (w : World) : Calls Try.prog 75 #[pt m, (CN r1 1 r3).v] w fun e w' => e = .returned (.func (.func 94) #[pt m] #[]) ∧ Below w.heap.size w w' := by
  go_enter Try.func75, Try.ntmps75
  go_wp2
  all_goals go_ret
  all_goals exact ⟨rfl, Joins.below_alloc1 w _⟩
set_option maxRecDepth 100000 in
set_option maxHeartbeats 4000000 in
theorem lay49 {w : World} {m base n : Nat} {xs : List Value} (r1 : Option Addr) (r3 : Nat) (h : MK w m base n xs) (hm : base ≤ m) (hn : n ≤ 20000) (hb : base ≤ w.heap.size) :
    Calls Try.prog 49 #[pt m, (CN r1 1 r3).v] w fun e w' => e = .returned (.tuple #[]) ∧ MK w' m base (n + 1) (xs ++ Iv.cs ⟨1, (n : Int) + 1, 0, 0, r1, 1, r3⟩) ∧ Fr base w w' := by
  obtain ⟨U, hU⟩ : ∃ U, U = w.alloc (.cells (Array.mk (CN r1 1 r3).cs) 39) := ⟨_, rfl⟩
  have hbU : Below w.heap.size w U := by rw [hU]; exact Joins.below_alloc1 w _
  have hQ : BxC U w.heap.size r1 1 r3 := by rw [hU]; exact heap_alloc_new w _
  have hpU : w.heap.size < U.heap.size := (Array.getElem?_eq_some_iff.1 hQ).1
  have HS : ∀ W, Below U.heap.size U W → Calls Try.prog 94 #[pt m, (CN r1 1 r3).v] W fun e w' => e = .returned (.tuple #[]) ∧ MK w' m base (n + 1) (xs ++ Iv.cs ⟨1, (n : Int) + 1, 0, 0, r1, 1, r3⟩) ∧ Fr base W w' := fun W hW =>
    class94 r1 r3 ((h.below hbU).below hW) hm hn (Nat.le_trans hb (Nat.le_trans hbU.size hW.size))
  have HF := hid (Fr.of_below hbU hb)
  have HSS := hid HS
  have HW := fun W => way75 m r1 r3 W
  have hbU2 : base ≤ U.heap.size := Nat.le_trans hb hbU.size
  have HQ := hid hQ
  obtain ⟨c0, c1, c2, c3, c4, c5, c6, c7, c8⟩ := ninec hQ
  obtain ⟨p, hp⟩ : ∃ p, p = w.heap.size := ⟨_, rfl⟩
  clear h hbU hQ HS
  go_enter Try.func49, Try.ntmps49
  go_upto_region 1 with fail
  rw [← hU, ← hp]
  rw [← hp] at c0 c1 c2 c3 c4 c5 c6 c7 c8 hpU HQ
  clear hU hp
  go_region_held3 (fun W => W.cell? ⟨p, 0, none⟩ = some (.int .i64 2) ∧ W.cell? ⟨p, 1, none⟩ = some (.slice r1 1 r3) ∧ W.cell? ⟨p, 2, none⟩ = some (.int .i64 0) ∧ W.cell? ⟨p, 3, none⟩ = some (.slice none 0 0) ∧ W.cell? ⟨p, 4, none⟩ = some (.int .i64 0) ∧ W.cell? ⟨p, 5, none⟩ = some (.int .i64 0) ∧ W.cell? ⟨p, 6, none⟩ = some (.bool false) ∧ W.cell? ⟨p, 7, none⟩ = some (.int .i64 0) ∧ W.cell? ⟨p, 8, none⟩ = some (.string ⟨#[]⟩)) (first | (exact ⟨j0, j1, j2, j3, j4, j5, j6, j7, j8⟩) | (exact ⟨k0, k1, k2, k3, k4, k5, k6, k7, k8⟩) | (simp [*]; done)) (first | (go_at_call 75; (with_reducible refine (HW _).mono ?_); rintro e w2 ⟨rfl, hb2⟩; have hbb : Below U.heap.size U w2 := ⟨hb2.os, hb2.tape, hb2.output, hb2.size, hb2.block⟩; obtain ⟨k0, k1, k2, k3, k4, k5, k6, k7, k8⟩ := ninec ((hbb.block p hpU).trans HQ.out); have HC := HSS.out w2 hbb; have HBB := hid hbb; clear hbb hb2) | (go_at_call 94; (with_reducible refine HC.mono ?_); rintro e w3 ⟨rfl, hM, hf⟩; obtain ⟨j0, j1, j2, j3, j4, j5, j6, j7, j8⟩ := ninec (hf.blk p _ _ _ ((HBB.out.block p hpU).trans HQ.out) (by decide) (by decide)); have HM := hid hM; have HF3 := hid hf; clear hM hf))
  all_goals go_wp2_with fail
  all_goals go_end0
  all_goals exact ⟨rfl, HM.out, HF.out.trans ((Fr.of_below HBB.out hbU2).trans HF3.out)⟩
end Go.Proofs.Ytnecakampgdhcaa
