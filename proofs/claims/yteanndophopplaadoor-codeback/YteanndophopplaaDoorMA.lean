/- HELPERS: a number behind a writer's bytes. -/
import Derived.Test.YteanndophopplaaDoorFa
import Derived.Deep.RegionLaw
import Derived.Deep.Cut
import Derived.Deep.CutRange
import Derived.Deep.RegionHeld3
import Derived.Test.YteanndophopplaaDoorPP
/- HELPERS: a number's decimal digits, as the library lays them. -/
namespace Go.Proofs.YteanndophopplaaDoor
open Go.RowKit
set_option linter.unusedVariables false
set_option linter.unusedSimpArgs false
theorem sm_at (S : ByteArray) (hs : S.size = 200) (h : ∀ x : Fin 100, (S[2 * x.val]'(by have := x.isLt; omega)).toNat = 48 + x.val / 10 ∧ (S[2 * x.val + 1]'(by have := x.isLt; omega)).toNat = 48 + x.val % 10) (SV : Value) (hSV : Value.string S = SV) (b : Nat) (hb : b < 100) :
    (∀ W, (Instr.index 9 SV (.int .u32 ((2 * b : Nat) : Int))).run Tryd.prog W = .ok (.int .u8 ((48 + b / 10 : Nat) : Int)) W) ∧ (∀ W, (Instr.index 9 SV (.int .u32 ((2 * b + 1 : Nat) : Int))).run Tryd.prog W = .ok (.int .u8 ((48 + b % 10 : Nat) : Int)) W) := by
  subst hSV
  obtain ⟨h1, h2⟩ := h ⟨b, hb⟩
  simp only at h1 h2
  refine ⟨fun W => ?_, fun W => ?_⟩
  · rw [run_index_string (P := Tryd.prog) W 9 S .u32 _ Tryd.underlying9, dif_pos (by rw [hs]; omega), ← h1]
    simp only [Int.toNat_natCast]
  · rw [run_index_string (P := Tryd.prog) W 9 S .u32 _ Tryd.underlying9, dif_pos (by rw [hs]; omega), ← h2]
    simp only [Int.toNat_natCast]
/-- one block has turned, nothing else -/
structure FQ (w w' : World) (g : Nat) : Prop where
  os : w'.os = w.os
  tape : w'.tape = w.tape
  output : w'.output = w.output
  size : w'.heap.size = w.heap.size
  block : ∀ b, b ≠ g → w'.heap[b]? = w.heap[b]?
theorem FQ.refl (w : World) (g : Nat) : FQ w w g := ⟨rfl, rfl, rfl, rfl, fun _ _ => rfl⟩
theorem FQ.trans {w w1 w2 : World} {g : Nat} (h : FQ w w1 g) (h2 : FQ w1 w2 g) : FQ w w2 g :=
  ⟨h2.os.trans h.os, h2.tape.trans h.tape, h2.output.trans h.output, h2.size.trans h.size, fun b hb => (h2.block b hb).trans (h.block b hb)⟩
theorem FQ.set {w w' : World} {g : Nat} (h : FQ w w' g) (i : Nat) (v : Value) : FQ w (w'.setCell ⟨g, i, none⟩ v) g :=
  ⟨h.os, h.tape, h.output, by rw [← h.size]; simp [World.setCell], fun b hb => (Below.heap_setCell _ _ _ _ hb).trans (h.block b hb)⟩
theorem FQ.set2 {w w' : World} {g : Nat} (h : FQ w w' g) (i : Nat) (v : Value) : FQ w (w'.setCell ⟨g, i, none⟩ v).drew g :=
  ⟨h.os, h.tape, h.output, by rw [← h.size]; simp [World.setCell], fun b hb => (Below.heap_setCell _ _ _ _ hb).trans (h.block b hb)⟩
abbrev Z24 : Array Value := #[.int .u8 0, .int .u8 0, .int .u8 0, .int .u8 0, .int .u8 0, .int .u8 0, .int .u8 0, .int .u8 0, .int .u8 0, .int .u8 0, .int .u8 0, .int .u8 0, .int .u8 0, .int .u8 0, .int .u8 0, .int .u8 0, .int .u8 0, .int .u8 0, .int .u8 0, .int .u8 0, .int .u8 0, .int .u8 0, .int .u8 0, .int .u8 0]
set_option maxRecDepth 1000000 in
set_option maxHeartbeats 8000000 in
theorem fmt87_3 {k g : Nat} (h1 : 100 ≤ k) (h2 : k < 1000) {w : World} (hg : w.heap[g]? = some (.cells Z24 117 (0, 0))) : Calls Tryd.prog 87 #[.slice (some ⟨g, 0, none⟩) 3 24, .int .u64 (k : Int)] w fun e w' => e = .returned (.tuple #[]) ∧ FQ w w' g ∧ BA w' w.heap.size (some ⟨g, 0, none⟩) (dec k) := by
  have e1 : (k : Int) % 4294967296 = (k : Int) := by omega
  obtain ⟨b0, hb0⟩ : ∃ b0, k % 100 = b0 := ⟨_, rfl⟩
  obtain ⟨c0, hc0⟩ : ∃ c0, k / 100 = c0 := ⟨_, rfl⟩
  have e6 : (k : Int) % 100 = (b0 : Int) := by omega
  have e7 : (k : Int) / 100 = (c0 : Int) := by omega
  have l2 : b0 < 100 := by omega
  have e8 : (48 + (c0 : Int)) % 256 = 48 + (c0 : Int) := by omega
  have l3 : c0 < 10 := by omega
  have hdec : dec k = [48 + c0, 48 + b0 / 10, 48 + b0 % 10] := by
    rw [dec_big (show 10 ≤ k by omega)]
    rw [show k / 10 = k / 10 by omega]
    rw [show k / 10 = k / 10 from rfl, dec_big (show 10 ≤ k / 10 by omega)]
    rw [show k / 10 / 10 = k / 100 by omega]
    rw [dec_small (show ¬ 10 ≤ k / 100 by omega)]
    simp only [List.cons_append, List.nil_append]
    congr 1
    all_goals first | omega | skip
    all_goals (try congr 1)
    all_goals first | omega | skip
    all_goals (try congr 1)
    all_goals first | omega | skip
  have HD := hid hdec
  clear hdec
  have f0 : w.frozen? ⟨g, 0, none⟩ = false := Joins.unfrozen_of_block hg 0
  have d0 : w.cell? ⟨g, 0, none⟩ = some (.int .u8 0) := Joins.cell_of_block hg 0
  have f1 : w.frozen? ⟨g, 1, none⟩ = false := Joins.unfrozen_of_block hg 1
  have d1 : w.cell? ⟨g, 1, none⟩ = some (.int .u8 0) := Joins.cell_of_block hg 1
  have f2 : w.frozen? ⟨g, 2, none⟩ = false := Joins.unfrozen_of_block hg 2
  have d2 : w.cell? ⟨g, 2, none⟩ = some (.int .u8 0) := Joins.cell_of_block hg 2
  have HG := hid hg
  clear hb0 hc0 hg
  go_enter Tryd.func87, Tryd.ntmps87
  go_wp2_with fail
  go_loopw [1, 4] (fun x y wq => x = .int .u64 (k : Int) ∧ y = .int .i64 3 ∧ wq = w) (fun _ _ _ => 0)
  case atStart => exact ⟨rfl, rfl, rfl⟩
  case round =>
    obtain ⟨rfl, rfl, rfl⟩ := hrel
    go_wp2
    generalize hS : (Value.string (ByteArray.mk (List.toArray (List.append _ _)))) = SV
    obtain ⟨F1, F2⟩ := sm_at _ (by decide +kernel) (by decide +kernel) SV hS b0 l2
    obtain ⟨t, ht⟩ : ∃ t, 2 * b0 = t := ⟨_, rfl⟩
    obtain ⟨t', ht'⟩ : ∃ t', 2 * b0 + 1 = t' := ⟨_, rfl⟩
    have ht2 : (b0 : Int) * 2 = (t : Int) := by omega
    have t3 : (t : Int) + 1 = (t' : Int) := by omega
    obtain ⟨x0, hx0⟩ : ∃ x, 48 + b0 / 10 = x := ⟨_, rfl⟩
    obtain ⟨y0, hy0⟩ : ∃ y, 48 + b0 % 10 = y := ⟨_, rfl⟩
    have t4 : t' < 200 := by omega
    rw [ht, hx0] at F1
    rw [ht', hy0] at F2
    rw [hx0, hy0] at HD
    clear ht ht' hx0 hy0 hS
    go_region
    obtain ⟨W0, hW0⟩ : ∃ W, W = ((wr.setCell ⟨g, 2, none⟩ (.int .u8 (y0 : Int))).setCell ⟨g, 1, none⟩ (.int .u8 (x0 : Int))).drew := ⟨_, rfl⟩
    rw [← hW0]
    have g0 : W0.heap[g]? = some (.cells #[.int .u8 0, .int .u8 (x0 : Int), .int .u8 (y0 : Int), .int .u8 0, .int .u8 0, .int .u8 0, .int .u8 0, .int .u8 0, .int .u8 0, .int .u8 0, .int .u8 0, .int .u8 0, .int .u8 0, .int .u8 0, .int .u8 0, .int .u8 0, .int .u8 0, .int .u8 0, .int .u8 0, .int .u8 0, .int .u8 0, .int .u8 0, .int .u8 0, .int .u8 0] 117 (0, 0)) := by rw [hW0]; exact Joins.block_setCell (i := 1) (Joins.block_setCell (i := 2) HG.out _) _
    have HG0 := hid g0
    have HF0 : Hid (FQ wr W0 g) := by rw [hW0]; exact ((FQ.refl wr g).set _ _).set2 _ _
    clear f0 d0 f1 d1 f2 d2 F1 F2 ht2 t3 hW0
    have f0 : W0.frozen? ⟨g, 0, none⟩ = false := Joins.unfrozen_of_block g0 0
    have d0 : W0.cell? ⟨g, 0, none⟩ = some (.int .u8 0) := Joins.cell_of_block g0 0
    have f1 : W0.frozen? ⟨g, 1, none⟩ = false := Joins.unfrozen_of_block g0 1
    have d1 : W0.cell? ⟨g, 1, none⟩ = some (.int .u8 (x0 : Int)) := Joins.cell_of_block g0 1
    have f2 : W0.frozen? ⟨g, 2, none⟩ = false := Joins.unfrozen_of_block g0 2
    have d2 : W0.cell? ⟨g, 2, none⟩ = some (.int .u8 (y0 : Int)) := Joins.cell_of_block g0 2
    clear g0
    go_wp2
    all_goals go_end0
    refine ⟨rfl, (HF0.out).trans ((FQ.refl W0 g).set _ _), ?_⟩
    rw [HD.out]
    have gz := Joins.block_setCell (i := 0) HG0.out (.int .u8 ((48 + c0 : Nat) : Int))
    have gz2 : (W0.setCell ⟨g, 0, none⟩ (.int .u8 (48 + (c0 : Int)))).heap[g]? = some (.cells #[.int .u8 ((48 + c0 : Nat) : Int), .int .u8 (x0 : Int), .int .u8 (y0 : Int), .int .u8 0, .int .u8 0, .int .u8 0, .int .u8 0, .int .u8 0, .int .u8 0, .int .u8 0, .int .u8 0, .int .u8 0, .int .u8 0, .int .u8 0, .int .u8 0, .int .u8 0, .int .u8 0, .int .u8 0, .int .u8 0, .int .u8 0, .int .u8 0, .int .u8 0, .int .u8 0, .int .u8 0] 117 (0, 0)) := gz
    refine .inr ⟨g, 0, rfl, (Array.getElem?_eq_some_iff.1 HG.out).1, fun j hj => ?_⟩
    rw [Nat.zero_add, Joins.cell_of_block gz2]
    match j, hj with
    | 0, _ => rfl
    | 1, _ => rfl
    | 2, _ => rfl
    | j + 3, hj => exact absurd hj (by simp)
set_option maxRecDepth 1000000 in
set_option maxHeartbeats 8000000 in
theorem fmt87_4 {k g : Nat} (h1 : 1000 ≤ k) (h2 : k < 10000) {w : World} (hg : w.heap[g]? = some (.cells Z24 117 (0, 0))) : Calls Tryd.prog 87 #[.slice (some ⟨g, 0, none⟩) 4 24, .int .u64 (k : Int)] w fun e w' => e = .returned (.tuple #[]) ∧ FQ w w' g ∧ BA w' w.heap.size (some ⟨g, 0, none⟩) (dec k) := by
  have e1 : (k : Int) % 4294967296 = (k : Int) := by omega
  obtain ⟨m, hm⟩ : ∃ m, k % 10000 = m := ⟨_, rfl⟩
  obtain ⟨z, hz⟩ : ∃ z, k / 10000 = z := ⟨_, rfl⟩
  obtain ⟨a1, ha1⟩ : ∃ a1, m / 100 = a1 := ⟨_, rfl⟩
  obtain ⟨a0, ha0⟩ : ∃ a0, m % 100 = a0 := ⟨_, rfl⟩
  have e2 : (k : Int) % 10000 = (m : Int) := by omega
  have e3 : (k : Int) / 10000 = (z : Int) := by omega
  have e4 : (m : Int) / 100 = (a1 : Int) := by omega
  have e5 : (m : Int) % 100 = (a0 : Int) := by omega
  have l1 : a1 < 100 := by omega
  have l0 : a0 < 100 := by omega
  have hdec : dec k = [48 + a1 / 10, 48 + a1 % 10, 48 + a0 / 10, 48 + a0 % 10] := by
    rw [dec_big (show 10 ≤ k by omega)]
    rw [show k / 10 = k / 10 by omega]
    rw [show k / 10 = k / 10 from rfl, dec_big (show 10 ≤ k / 10 by omega)]
    rw [show k / 10 / 10 = k / 100 by omega]
    rw [show k / 100 = k / 100 from rfl, dec_big (show 10 ≤ k / 100 by omega)]
    rw [show k / 100 / 10 = k / 1000 by omega]
    rw [dec_small (show ¬ 10 ≤ k / 1000 by omega)]
    simp only [List.cons_append, List.nil_append]
    congr 1
    all_goals first | omega | skip
    all_goals (try congr 1)
    all_goals first | omega | skip
    all_goals (try congr 1)
    all_goals first | omega | skip
    all_goals (try congr 1)
    all_goals first | omega | skip
  have HD := hid hdec
  clear hdec
  have f0 : w.frozen? ⟨g, 0, none⟩ = false := Joins.unfrozen_of_block hg 0
  have d0 : w.cell? ⟨g, 0, none⟩ = some (.int .u8 0) := Joins.cell_of_block hg 0
  have f1 : w.frozen? ⟨g, 1, none⟩ = false := Joins.unfrozen_of_block hg 1
  have d1 : w.cell? ⟨g, 1, none⟩ = some (.int .u8 0) := Joins.cell_of_block hg 1
  have f2 : w.frozen? ⟨g, 2, none⟩ = false := Joins.unfrozen_of_block hg 2
  have d2 : w.cell? ⟨g, 2, none⟩ = some (.int .u8 0) := Joins.cell_of_block hg 2
  have f3 : w.frozen? ⟨g, 3, none⟩ = false := Joins.unfrozen_of_block hg 3
  have d3 : w.cell? ⟨g, 3, none⟩ = some (.int .u8 0) := Joins.cell_of_block hg 3
  have HG := hid hg
  clear hm hz ha1 ha0 hg
  go_enter Tryd.func87, Tryd.ntmps87
  go_wp2_with fail
  go_loopw [1, 4] (fun x y wq => x = .int .u64 (k : Int) ∧ y = .int .i64 4 ∧ wq = w) (fun _ _ _ => 0)
  case atStart => exact ⟨rfl, rfl, rfl⟩
  case round =>
    obtain ⟨rfl, rfl, rfl⟩ := hrel
    go_wp2
    generalize hS : (Value.string (ByteArray.mk (List.toArray (List.append _ _)))) = SV
    obtain ⟨F1, F2⟩ := sm_at _ (by decide +kernel) (by decide +kernel) SV hS a0 l0
    obtain ⟨t, ht⟩ : ∃ t, 2 * a0 = t := ⟨_, rfl⟩
    obtain ⟨t', ht'⟩ : ∃ t', 2 * a0 + 1 = t' := ⟨_, rfl⟩
    have ht2 : (a0 : Int) * 2 = (t : Int) := by omega
    have t3 : (t : Int) + 1 = (t' : Int) := by omega
    obtain ⟨x0, hx0⟩ : ∃ x, 48 + a0 / 10 = x := ⟨_, rfl⟩
    obtain ⟨y0, hy0⟩ : ∃ y, 48 + a0 % 10 = y := ⟨_, rfl⟩
    have t4 : t' < 200 := by omega
    rw [ht, hx0] at F1
    rw [ht', hy0] at F2
    rw [hx0, hy0] at HD
    clear ht ht' hx0 hy0 hS
    go_region
    obtain ⟨W0, hW0⟩ : ∃ W, W = ((wr.setCell ⟨g, 3, none⟩ (.int .u8 (y0 : Int))).setCell ⟨g, 2, none⟩ (.int .u8 (x0 : Int))).drew := ⟨_, rfl⟩
    rw [← hW0]
    have g0 : W0.heap[g]? = some (.cells #[.int .u8 0, .int .u8 0, .int .u8 (x0 : Int), .int .u8 (y0 : Int), .int .u8 0, .int .u8 0, .int .u8 0, .int .u8 0, .int .u8 0, .int .u8 0, .int .u8 0, .int .u8 0, .int .u8 0, .int .u8 0, .int .u8 0, .int .u8 0, .int .u8 0, .int .u8 0, .int .u8 0, .int .u8 0, .int .u8 0, .int .u8 0, .int .u8 0, .int .u8 0] 117 (0, 0)) := by rw [hW0]; exact Joins.block_setCell (i := 2) (Joins.block_setCell (i := 3) HG.out _) _
    have HG0 := hid g0
    have HF0 : Hid (FQ wr W0 g) := by rw [hW0]; exact ((FQ.refl wr g).set _ _).set2 _ _
    clear f0 d0 f1 d1 f2 d2 f3 d3 F1 F2 ht2 t3 hW0
    have f0 : W0.frozen? ⟨g, 0, none⟩ = false := Joins.unfrozen_of_block g0 0
    have d0 : W0.cell? ⟨g, 0, none⟩ = some (.int .u8 0) := Joins.cell_of_block g0 0
    have f1 : W0.frozen? ⟨g, 1, none⟩ = false := Joins.unfrozen_of_block g0 1
    have d1 : W0.cell? ⟨g, 1, none⟩ = some (.int .u8 0) := Joins.cell_of_block g0 1
    have f2 : W0.frozen? ⟨g, 2, none⟩ = false := Joins.unfrozen_of_block g0 2
    have d2 : W0.cell? ⟨g, 2, none⟩ = some (.int .u8 (x0 : Int)) := Joins.cell_of_block g0 2
    have f3 : W0.frozen? ⟨g, 3, none⟩ = false := Joins.unfrozen_of_block g0 3
    have d3 : W0.cell? ⟨g, 3, none⟩ = some (.int .u8 (y0 : Int)) := Joins.cell_of_block g0 3
    clear g0
    go_wp2
    generalize hS : (Value.string (ByteArray.mk (List.toArray (List.append _ _)))) = SV
    obtain ⟨F1, F2⟩ := sm_at _ (by decide +kernel) (by decide +kernel) SV hS a1 l1
    obtain ⟨t, ht⟩ : ∃ t, 2 * a1 = t := ⟨_, rfl⟩
    obtain ⟨t', ht'⟩ : ∃ t', 2 * a1 + 1 = t' := ⟨_, rfl⟩
    have ht2 : (a1 : Int) * 2 = (t : Int) := by omega
    have t3 : (t : Int) + 1 = (t' : Int) := by omega
    obtain ⟨x1, hx1⟩ : ∃ x, 48 + a1 / 10 = x := ⟨_, rfl⟩
    obtain ⟨y1, hy1⟩ : ∃ y, 48 + a1 % 10 = y := ⟨_, rfl⟩
    have t4 : t' < 200 := by omega
    rw [ht, hx1] at F1
    rw [ht', hy1] at F2
    rw [hx1, hy1] at HD
    clear ht ht' hx1 hy1 hS
    go_region
    obtain ⟨W1, hW1⟩ : ∃ W, W = ((W0.setCell ⟨g, 1, none⟩ (.int .u8 (y1 : Int))).setCell ⟨g, 0, none⟩ (.int .u8 (x1 : Int))).drew := ⟨_, rfl⟩
    rw [← hW1]
    have g1 : W1.heap[g]? = some (.cells #[.int .u8 (x1 : Int), .int .u8 (y1 : Int), .int .u8 (x0 : Int), .int .u8 (y0 : Int), .int .u8 0, .int .u8 0, .int .u8 0, .int .u8 0, .int .u8 0, .int .u8 0, .int .u8 0, .int .u8 0, .int .u8 0, .int .u8 0, .int .u8 0, .int .u8 0, .int .u8 0, .int .u8 0, .int .u8 0, .int .u8 0, .int .u8 0, .int .u8 0, .int .u8 0, .int .u8 0] 117 (0, 0)) := by rw [hW1]; exact Joins.block_setCell (i := 0) (Joins.block_setCell (i := 1) HG0.out _) _
    have HG1 := hid g1
    have HF1 : Hid (FQ W0 W1 g) := by rw [hW1]; exact ((FQ.refl W0 g).set _ _).set2 _ _
    clear f0 d0 f1 d1 f2 d2 f3 d3 F1 F2 ht2 t3 hW1
    have f0 : W1.frozen? ⟨g, 0, none⟩ = false := Joins.unfrozen_of_block g1 0
    have d0 : W1.cell? ⟨g, 0, none⟩ = some (.int .u8 (x1 : Int)) := Joins.cell_of_block g1 0
    have f1 : W1.frozen? ⟨g, 1, none⟩ = false := Joins.unfrozen_of_block g1 1
    have d1 : W1.cell? ⟨g, 1, none⟩ = some (.int .u8 (y1 : Int)) := Joins.cell_of_block g1 1
    have f2 : W1.frozen? ⟨g, 2, none⟩ = false := Joins.unfrozen_of_block g1 2
    have d2 : W1.cell? ⟨g, 2, none⟩ = some (.int .u8 (x0 : Int)) := Joins.cell_of_block g1 2
    have f3 : W1.frozen? ⟨g, 3, none⟩ = false := Joins.unfrozen_of_block g1 3
    have d3 : W1.cell? ⟨g, 3, none⟩ = some (.int .u8 (y0 : Int)) := Joins.cell_of_block g1 3
    clear g1
    go_wp2
    all_goals go_end0
    refine ⟨rfl, (HF0.out).trans HF1.out, ?_⟩
    rw [HD.out]
    have gz2 := HG1.out
    refine .inr ⟨g, 0, rfl, (Array.getElem?_eq_some_iff.1 HG.out).1, fun j hj => ?_⟩
    rw [Nat.zero_add, Joins.cell_of_block gz2]
    match j, hj with
    | 0, _ => rfl
    | 1, _ => rfl
    | 2, _ => rfl
    | 3, _ => rfl
    | j + 4, hj => exact absurd hj (by simp)
set_option maxRecDepth 1000000 in
set_option maxHeartbeats 8000000 in
theorem fmt87_5 {k g : Nat} (h1 : 10000 ≤ k) (h2 : k < 100000) {w : World} (hg : w.heap[g]? = some (.cells Z24 117 (0, 0))) : Calls Tryd.prog 87 #[.slice (some ⟨g, 0, none⟩) 5 24, .int .u64 (k : Int)] w fun e w' => e = .returned (.tuple #[]) ∧ FQ w w' g ∧ BA w' w.heap.size (some ⟨g, 0, none⟩) (dec k) := by
  have e1 : (k : Int) % 4294967296 = (k : Int) := by omega
  obtain ⟨m, hm⟩ : ∃ m, k % 10000 = m := ⟨_, rfl⟩
  obtain ⟨z, hz⟩ : ∃ z, k / 10000 = z := ⟨_, rfl⟩
  obtain ⟨a1, ha1⟩ : ∃ a1, m / 100 = a1 := ⟨_, rfl⟩
  obtain ⟨a0, ha0⟩ : ∃ a0, m % 100 = a0 := ⟨_, rfl⟩
  have e2 : (k : Int) % 10000 = (m : Int) := by omega
  have e3 : (k : Int) / 10000 = (z : Int) := by omega
  have e4 : (m : Int) / 100 = (a1 : Int) := by omega
  have e5 : (m : Int) % 100 = (a0 : Int) := by omega
  have l1 : a1 < 100 := by omega
  have l0 : a0 < 100 := by omega
  have e8 : (48 + (z : Int)) % 256 = 48 + (z : Int) := by omega
  have l3 : z < 10 := by omega
  have hdec : dec k = [48 + z, 48 + a1 / 10, 48 + a1 % 10, 48 + a0 / 10, 48 + a0 % 10] := by
    rw [dec_big (show 10 ≤ k by omega)]
    rw [show k / 10 = k / 10 by omega]
    rw [show k / 10 = k / 10 from rfl, dec_big (show 10 ≤ k / 10 by omega)]
    rw [show k / 10 / 10 = k / 100 by omega]
    rw [show k / 100 = k / 100 from rfl, dec_big (show 10 ≤ k / 100 by omega)]
    rw [show k / 100 / 10 = k / 1000 by omega]
    rw [show k / 1000 = k / 1000 from rfl, dec_big (show 10 ≤ k / 1000 by omega)]
    rw [show k / 1000 / 10 = k / 10000 by omega]
    rw [dec_small (show ¬ 10 ≤ k / 10000 by omega)]
    simp only [List.cons_append, List.nil_append]
    congr 1
    all_goals first | omega | skip
    all_goals (try congr 1)
    all_goals first | omega | skip
    all_goals (try congr 1)
    all_goals first | omega | skip
    all_goals (try congr 1)
    all_goals first | omega | skip
    all_goals (try congr 1)
    all_goals first | omega | skip
  have HD := hid hdec
  clear hdec
  have f0 : w.frozen? ⟨g, 0, none⟩ = false := Joins.unfrozen_of_block hg 0
  have d0 : w.cell? ⟨g, 0, none⟩ = some (.int .u8 0) := Joins.cell_of_block hg 0
  have f1 : w.frozen? ⟨g, 1, none⟩ = false := Joins.unfrozen_of_block hg 1
  have d1 : w.cell? ⟨g, 1, none⟩ = some (.int .u8 0) := Joins.cell_of_block hg 1
  have f2 : w.frozen? ⟨g, 2, none⟩ = false := Joins.unfrozen_of_block hg 2
  have d2 : w.cell? ⟨g, 2, none⟩ = some (.int .u8 0) := Joins.cell_of_block hg 2
  have f3 : w.frozen? ⟨g, 3, none⟩ = false := Joins.unfrozen_of_block hg 3
  have d3 : w.cell? ⟨g, 3, none⟩ = some (.int .u8 0) := Joins.cell_of_block hg 3
  have f4 : w.frozen? ⟨g, 4, none⟩ = false := Joins.unfrozen_of_block hg 4
  have d4 : w.cell? ⟨g, 4, none⟩ = some (.int .u8 0) := Joins.cell_of_block hg 4
  have HG := hid hg
  clear hm hz ha1 ha0 hg
  go_enter Tryd.func87, Tryd.ntmps87
  go_wp2_with fail
  go_loopw [1, 4] (fun x y wq => x = .int .u64 (k : Int) ∧ y = .int .i64 5 ∧ wq = w) (fun _ _ _ => 0)
  case atStart => exact ⟨rfl, rfl, rfl⟩
  case round =>
    obtain ⟨rfl, rfl, rfl⟩ := hrel
    go_wp2
    generalize hS : (Value.string (ByteArray.mk (List.toArray (List.append _ _)))) = SV
    obtain ⟨F1, F2⟩ := sm_at _ (by decide +kernel) (by decide +kernel) SV hS a0 l0
    obtain ⟨t, ht⟩ : ∃ t, 2 * a0 = t := ⟨_, rfl⟩
    obtain ⟨t', ht'⟩ : ∃ t', 2 * a0 + 1 = t' := ⟨_, rfl⟩
    have ht2 : (a0 : Int) * 2 = (t : Int) := by omega
    have t3 : (t : Int) + 1 = (t' : Int) := by omega
    obtain ⟨x0, hx0⟩ : ∃ x, 48 + a0 / 10 = x := ⟨_, rfl⟩
    obtain ⟨y0, hy0⟩ : ∃ y, 48 + a0 % 10 = y := ⟨_, rfl⟩
    have t4 : t' < 200 := by omega
    rw [ht, hx0] at F1
    rw [ht', hy0] at F2
    rw [hx0, hy0] at HD
    clear ht ht' hx0 hy0 hS
    go_region
    obtain ⟨W0, hW0⟩ : ∃ W, W = ((wr.setCell ⟨g, 4, none⟩ (.int .u8 (y0 : Int))).setCell ⟨g, 3, none⟩ (.int .u8 (x0 : Int))).drew := ⟨_, rfl⟩
    rw [← hW0]
    have g0 : W0.heap[g]? = some (.cells #[.int .u8 0, .int .u8 0, .int .u8 0, .int .u8 (x0 : Int), .int .u8 (y0 : Int), .int .u8 0, .int .u8 0, .int .u8 0, .int .u8 0, .int .u8 0, .int .u8 0, .int .u8 0, .int .u8 0, .int .u8 0, .int .u8 0, .int .u8 0, .int .u8 0, .int .u8 0, .int .u8 0, .int .u8 0, .int .u8 0, .int .u8 0, .int .u8 0, .int .u8 0] 117 (0, 0)) := by rw [hW0]; exact Joins.block_setCell (i := 3) (Joins.block_setCell (i := 4) HG.out _) _
    have HG0 := hid g0
    have HF0 : Hid (FQ wr W0 g) := by rw [hW0]; exact ((FQ.refl wr g).set _ _).set2 _ _
    clear f0 d0 f1 d1 f2 d2 f3 d3 f4 d4 F1 F2 ht2 t3 hW0
    have f0 : W0.frozen? ⟨g, 0, none⟩ = false := Joins.unfrozen_of_block g0 0
    have d0 : W0.cell? ⟨g, 0, none⟩ = some (.int .u8 0) := Joins.cell_of_block g0 0
    have f1 : W0.frozen? ⟨g, 1, none⟩ = false := Joins.unfrozen_of_block g0 1
    have d1 : W0.cell? ⟨g, 1, none⟩ = some (.int .u8 0) := Joins.cell_of_block g0 1
    have f2 : W0.frozen? ⟨g, 2, none⟩ = false := Joins.unfrozen_of_block g0 2
    have d2 : W0.cell? ⟨g, 2, none⟩ = some (.int .u8 0) := Joins.cell_of_block g0 2
    have f3 : W0.frozen? ⟨g, 3, none⟩ = false := Joins.unfrozen_of_block g0 3
    have d3 : W0.cell? ⟨g, 3, none⟩ = some (.int .u8 (x0 : Int)) := Joins.cell_of_block g0 3
    have f4 : W0.frozen? ⟨g, 4, none⟩ = false := Joins.unfrozen_of_block g0 4
    have d4 : W0.cell? ⟨g, 4, none⟩ = some (.int .u8 (y0 : Int)) := Joins.cell_of_block g0 4
    clear g0
    go_wp2
    generalize hS : (Value.string (ByteArray.mk (List.toArray (List.append _ _)))) = SV
    obtain ⟨F1, F2⟩ := sm_at _ (by decide +kernel) (by decide +kernel) SV hS a1 l1
    obtain ⟨t, ht⟩ : ∃ t, 2 * a1 = t := ⟨_, rfl⟩
    obtain ⟨t', ht'⟩ : ∃ t', 2 * a1 + 1 = t' := ⟨_, rfl⟩
    have ht2 : (a1 : Int) * 2 = (t : Int) := by omega
    have t3 : (t : Int) + 1 = (t' : Int) := by omega
    obtain ⟨x1, hx1⟩ : ∃ x, 48 + a1 / 10 = x := ⟨_, rfl⟩
    obtain ⟨y1, hy1⟩ : ∃ y, 48 + a1 % 10 = y := ⟨_, rfl⟩
    have t4 : t' < 200 := by omega
    rw [ht, hx1] at F1
    rw [ht', hy1] at F2
    rw [hx1, hy1] at HD
    clear ht ht' hx1 hy1 hS
    go_region
    obtain ⟨W1, hW1⟩ : ∃ W, W = ((W0.setCell ⟨g, 2, none⟩ (.int .u8 (y1 : Int))).setCell ⟨g, 1, none⟩ (.int .u8 (x1 : Int))).drew := ⟨_, rfl⟩
    rw [← hW1]
    have g1 : W1.heap[g]? = some (.cells #[.int .u8 0, .int .u8 (x1 : Int), .int .u8 (y1 : Int), .int .u8 (x0 : Int), .int .u8 (y0 : Int), .int .u8 0, .int .u8 0, .int .u8 0, .int .u8 0, .int .u8 0, .int .u8 0, .int .u8 0, .int .u8 0, .int .u8 0, .int .u8 0, .int .u8 0, .int .u8 0, .int .u8 0, .int .u8 0, .int .u8 0, .int .u8 0, .int .u8 0, .int .u8 0, .int .u8 0] 117 (0, 0)) := by rw [hW1]; exact Joins.block_setCell (i := 1) (Joins.block_setCell (i := 2) HG0.out _) _
    have HG1 := hid g1
    have HF1 : Hid (FQ W0 W1 g) := by rw [hW1]; exact ((FQ.refl W0 g).set _ _).set2 _ _
    clear f0 d0 f1 d1 f2 d2 f3 d3 f4 d4 F1 F2 ht2 t3 hW1
    have f0 : W1.frozen? ⟨g, 0, none⟩ = false := Joins.unfrozen_of_block g1 0
    have d0 : W1.cell? ⟨g, 0, none⟩ = some (.int .u8 0) := Joins.cell_of_block g1 0
    have f1 : W1.frozen? ⟨g, 1, none⟩ = false := Joins.unfrozen_of_block g1 1
    have d1 : W1.cell? ⟨g, 1, none⟩ = some (.int .u8 (x1 : Int)) := Joins.cell_of_block g1 1
    have f2 : W1.frozen? ⟨g, 2, none⟩ = false := Joins.unfrozen_of_block g1 2
    have d2 : W1.cell? ⟨g, 2, none⟩ = some (.int .u8 (y1 : Int)) := Joins.cell_of_block g1 2
    have f3 : W1.frozen? ⟨g, 3, none⟩ = false := Joins.unfrozen_of_block g1 3
    have d3 : W1.cell? ⟨g, 3, none⟩ = some (.int .u8 (x0 : Int)) := Joins.cell_of_block g1 3
    have f4 : W1.frozen? ⟨g, 4, none⟩ = false := Joins.unfrozen_of_block g1 4
    have d4 : W1.cell? ⟨g, 4, none⟩ = some (.int .u8 (y0 : Int)) := Joins.cell_of_block g1 4
    clear g1
    go_wp2
    all_goals go_end0
    refine ⟨rfl, ((HF0.out).trans HF1.out).trans ((FQ.refl W1 g).set _ _), ?_⟩
    rw [HD.out]
    have gz := Joins.block_setCell (i := 0) HG1.out (.int .u8 ((48 + z : Nat) : Int))
    have gz2 : (W1.setCell ⟨g, 0, none⟩ (.int .u8 (48 + (z : Int)))).heap[g]? = some (.cells #[.int .u8 ((48 + z : Nat) : Int), .int .u8 (x1 : Int), .int .u8 (y1 : Int), .int .u8 (x0 : Int), .int .u8 (y0 : Int), .int .u8 0, .int .u8 0, .int .u8 0, .int .u8 0, .int .u8 0, .int .u8 0, .int .u8 0, .int .u8 0, .int .u8 0, .int .u8 0, .int .u8 0, .int .u8 0, .int .u8 0, .int .u8 0, .int .u8 0, .int .u8 0, .int .u8 0, .int .u8 0, .int .u8 0] 117 (0, 0)) := gz
    refine .inr ⟨g, 0, rfl, (Array.getElem?_eq_some_iff.1 HG.out).1, fun j hj => ?_⟩
    rw [Nat.zero_add, Joins.cell_of_block gz2]
    match j, hj with
    | 0, _ => rfl
    | 1, _ => rfl
    | 2, _ => rfl
    | 3, _ => rfl
    | 4, _ => rfl
    | j + 5, hj => exact absurd hj (by simp)
set_option maxRecDepth 1000000 in
set_option maxHeartbeats 8000000 in
theorem fmt87_6 {k g : Nat} (h1 : 100000 ≤ k) (h2 : k < 1000000) {w : World} (hg : w.heap[g]? = some (.cells Z24 117 (0, 0))) : Calls Tryd.prog 87 #[.slice (some ⟨g, 0, none⟩) 6 24, .int .u64 (k : Int)] w fun e w' => e = .returned (.tuple #[]) ∧ FQ w w' g ∧ BA w' w.heap.size (some ⟨g, 0, none⟩) (dec k) := by
  have e1 : (k : Int) % 4294967296 = (k : Int) := by omega
  obtain ⟨m, hm⟩ : ∃ m, k % 10000 = m := ⟨_, rfl⟩
  obtain ⟨z, hz⟩ : ∃ z, k / 10000 = z := ⟨_, rfl⟩
  obtain ⟨a1, ha1⟩ : ∃ a1, m / 100 = a1 := ⟨_, rfl⟩
  obtain ⟨a0, ha0⟩ : ∃ a0, m % 100 = a0 := ⟨_, rfl⟩
  have e2 : (k : Int) % 10000 = (m : Int) := by omega
  have e3 : (k : Int) / 10000 = (z : Int) := by omega
  have e4 : (m : Int) / 100 = (a1 : Int) := by omega
  have e5 : (m : Int) % 100 = (a0 : Int) := by omega
  have l1 : a1 < 100 := by omega
  have l0 : a0 < 100 := by omega
  obtain ⟨b0, hb0⟩ : ∃ b0, z % 100 = b0 := ⟨_, rfl⟩
  obtain ⟨c0, hc0⟩ : ∃ c0, z / 100 = c0 := ⟨_, rfl⟩
  have e6 : (z : Int) % 100 = (b0 : Int) := by omega
  have e7 : (z : Int) / 100 = (c0 : Int) := by omega
  have l2 : b0 < 100 := by omega
  have hdec : dec k = [48 + b0 / 10, 48 + b0 % 10, 48 + a1 / 10, 48 + a1 % 10, 48 + a0 / 10, 48 + a0 % 10] := by
    rw [dec_big (show 10 ≤ k by omega)]
    rw [show k / 10 = k / 10 by omega]
    rw [show k / 10 = k / 10 from rfl, dec_big (show 10 ≤ k / 10 by omega)]
    rw [show k / 10 / 10 = k / 100 by omega]
    rw [show k / 100 = k / 100 from rfl, dec_big (show 10 ≤ k / 100 by omega)]
    rw [show k / 100 / 10 = k / 1000 by omega]
    rw [show k / 1000 = k / 1000 from rfl, dec_big (show 10 ≤ k / 1000 by omega)]
    rw [show k / 1000 / 10 = k / 10000 by omega]
    rw [show k / 10000 = k / 10000 from rfl, dec_big (show 10 ≤ k / 10000 by omega)]
    rw [show k / 10000 / 10 = k / 100000 by omega]
    rw [dec_small (show ¬ 10 ≤ k / 100000 by omega)]
    simp only [List.cons_append, List.nil_append]
    congr 1
    all_goals first | omega | skip
    all_goals (try congr 1)
    all_goals first | omega | skip
    all_goals (try congr 1)
    all_goals first | omega | skip
    all_goals (try congr 1)
    all_goals first | omega | skip
    all_goals (try congr 1)
    all_goals first | omega | skip
    all_goals (try congr 1)
    all_goals first | omega | skip
  have HD := hid hdec
  clear hdec
  have f0 : w.frozen? ⟨g, 0, none⟩ = false := Joins.unfrozen_of_block hg 0
  have d0 : w.cell? ⟨g, 0, none⟩ = some (.int .u8 0) := Joins.cell_of_block hg 0
  have f1 : w.frozen? ⟨g, 1, none⟩ = false := Joins.unfrozen_of_block hg 1
  have d1 : w.cell? ⟨g, 1, none⟩ = some (.int .u8 0) := Joins.cell_of_block hg 1
  have f2 : w.frozen? ⟨g, 2, none⟩ = false := Joins.unfrozen_of_block hg 2
  have d2 : w.cell? ⟨g, 2, none⟩ = some (.int .u8 0) := Joins.cell_of_block hg 2
  have f3 : w.frozen? ⟨g, 3, none⟩ = false := Joins.unfrozen_of_block hg 3
  have d3 : w.cell? ⟨g, 3, none⟩ = some (.int .u8 0) := Joins.cell_of_block hg 3
  have f4 : w.frozen? ⟨g, 4, none⟩ = false := Joins.unfrozen_of_block hg 4
  have d4 : w.cell? ⟨g, 4, none⟩ = some (.int .u8 0) := Joins.cell_of_block hg 4
  have f5 : w.frozen? ⟨g, 5, none⟩ = false := Joins.unfrozen_of_block hg 5
  have d5 : w.cell? ⟨g, 5, none⟩ = some (.int .u8 0) := Joins.cell_of_block hg 5
  have HG := hid hg
  clear hm hz ha1 ha0 hb0 hc0 hg
  go_enter Tryd.func87, Tryd.ntmps87
  go_wp2_with fail
  go_loopw [1, 4] (fun x y wq => x = .int .u64 (k : Int) ∧ y = .int .i64 6 ∧ wq = w) (fun _ _ _ => 0)
  case atStart => exact ⟨rfl, rfl, rfl⟩
  case round =>
    obtain ⟨rfl, rfl, rfl⟩ := hrel
    go_wp2
    generalize hS : (Value.string (ByteArray.mk (List.toArray (List.append _ _)))) = SV
    obtain ⟨F1, F2⟩ := sm_at _ (by decide +kernel) (by decide +kernel) SV hS a0 l0
    obtain ⟨t, ht⟩ : ∃ t, 2 * a0 = t := ⟨_, rfl⟩
    obtain ⟨t', ht'⟩ : ∃ t', 2 * a0 + 1 = t' := ⟨_, rfl⟩
    have ht2 : (a0 : Int) * 2 = (t : Int) := by omega
    have t3 : (t : Int) + 1 = (t' : Int) := by omega
    obtain ⟨x0, hx0⟩ : ∃ x, 48 + a0 / 10 = x := ⟨_, rfl⟩
    obtain ⟨y0, hy0⟩ : ∃ y, 48 + a0 % 10 = y := ⟨_, rfl⟩
    have t4 : t' < 200 := by omega
    rw [ht, hx0] at F1
    rw [ht', hy0] at F2
    rw [hx0, hy0] at HD
    clear ht ht' hx0 hy0 hS
    go_region
    obtain ⟨W0, hW0⟩ : ∃ W, W = ((wr.setCell ⟨g, 5, none⟩ (.int .u8 (y0 : Int))).setCell ⟨g, 4, none⟩ (.int .u8 (x0 : Int))).drew := ⟨_, rfl⟩
    rw [← hW0]
    have g0 : W0.heap[g]? = some (.cells #[.int .u8 0, .int .u8 0, .int .u8 0, .int .u8 0, .int .u8 (x0 : Int), .int .u8 (y0 : Int), .int .u8 0, .int .u8 0, .int .u8 0, .int .u8 0, .int .u8 0, .int .u8 0, .int .u8 0, .int .u8 0, .int .u8 0, .int .u8 0, .int .u8 0, .int .u8 0, .int .u8 0, .int .u8 0, .int .u8 0, .int .u8 0, .int .u8 0, .int .u8 0] 117 (0, 0)) := by rw [hW0]; exact Joins.block_setCell (i := 4) (Joins.block_setCell (i := 5) HG.out _) _
    have HG0 := hid g0
    have HF0 : Hid (FQ wr W0 g) := by rw [hW0]; exact ((FQ.refl wr g).set _ _).set2 _ _
    clear f0 d0 f1 d1 f2 d2 f3 d3 f4 d4 f5 d5 F1 F2 ht2 t3 hW0
    have f0 : W0.frozen? ⟨g, 0, none⟩ = false := Joins.unfrozen_of_block g0 0
    have d0 : W0.cell? ⟨g, 0, none⟩ = some (.int .u8 0) := Joins.cell_of_block g0 0
    have f1 : W0.frozen? ⟨g, 1, none⟩ = false := Joins.unfrozen_of_block g0 1
    have d1 : W0.cell? ⟨g, 1, none⟩ = some (.int .u8 0) := Joins.cell_of_block g0 1
    have f2 : W0.frozen? ⟨g, 2, none⟩ = false := Joins.unfrozen_of_block g0 2
    have d2 : W0.cell? ⟨g, 2, none⟩ = some (.int .u8 0) := Joins.cell_of_block g0 2
    have f3 : W0.frozen? ⟨g, 3, none⟩ = false := Joins.unfrozen_of_block g0 3
    have d3 : W0.cell? ⟨g, 3, none⟩ = some (.int .u8 0) := Joins.cell_of_block g0 3
    have f4 : W0.frozen? ⟨g, 4, none⟩ = false := Joins.unfrozen_of_block g0 4
    have d4 : W0.cell? ⟨g, 4, none⟩ = some (.int .u8 (x0 : Int)) := Joins.cell_of_block g0 4
    have f5 : W0.frozen? ⟨g, 5, none⟩ = false := Joins.unfrozen_of_block g0 5
    have d5 : W0.cell? ⟨g, 5, none⟩ = some (.int .u8 (y0 : Int)) := Joins.cell_of_block g0 5
    clear g0
    go_wp2
    generalize hS : (Value.string (ByteArray.mk (List.toArray (List.append _ _)))) = SV
    obtain ⟨F1, F2⟩ := sm_at _ (by decide +kernel) (by decide +kernel) SV hS a1 l1
    obtain ⟨t, ht⟩ : ∃ t, 2 * a1 = t := ⟨_, rfl⟩
    obtain ⟨t', ht'⟩ : ∃ t', 2 * a1 + 1 = t' := ⟨_, rfl⟩
    have ht2 : (a1 : Int) * 2 = (t : Int) := by omega
    have t3 : (t : Int) + 1 = (t' : Int) := by omega
    obtain ⟨x1, hx1⟩ : ∃ x, 48 + a1 / 10 = x := ⟨_, rfl⟩
    obtain ⟨y1, hy1⟩ : ∃ y, 48 + a1 % 10 = y := ⟨_, rfl⟩
    have t4 : t' < 200 := by omega
    rw [ht, hx1] at F1
    rw [ht', hy1] at F2
    rw [hx1, hy1] at HD
    clear ht ht' hx1 hy1 hS
    go_region
    obtain ⟨W1, hW1⟩ : ∃ W, W = ((W0.setCell ⟨g, 3, none⟩ (.int .u8 (y1 : Int))).setCell ⟨g, 2, none⟩ (.int .u8 (x1 : Int))).drew := ⟨_, rfl⟩
    rw [← hW1]
    have g1 : W1.heap[g]? = some (.cells #[.int .u8 0, .int .u8 0, .int .u8 (x1 : Int), .int .u8 (y1 : Int), .int .u8 (x0 : Int), .int .u8 (y0 : Int), .int .u8 0, .int .u8 0, .int .u8 0, .int .u8 0, .int .u8 0, .int .u8 0, .int .u8 0, .int .u8 0, .int .u8 0, .int .u8 0, .int .u8 0, .int .u8 0, .int .u8 0, .int .u8 0, .int .u8 0, .int .u8 0, .int .u8 0, .int .u8 0] 117 (0, 0)) := by rw [hW1]; exact Joins.block_setCell (i := 2) (Joins.block_setCell (i := 3) HG0.out _) _
    have HG1 := hid g1
    have HF1 : Hid (FQ W0 W1 g) := by rw [hW1]; exact ((FQ.refl W0 g).set _ _).set2 _ _
    clear f0 d0 f1 d1 f2 d2 f3 d3 f4 d4 f5 d5 F1 F2 ht2 t3 hW1
    have f0 : W1.frozen? ⟨g, 0, none⟩ = false := Joins.unfrozen_of_block g1 0
    have d0 : W1.cell? ⟨g, 0, none⟩ = some (.int .u8 0) := Joins.cell_of_block g1 0
    have f1 : W1.frozen? ⟨g, 1, none⟩ = false := Joins.unfrozen_of_block g1 1
    have d1 : W1.cell? ⟨g, 1, none⟩ = some (.int .u8 0) := Joins.cell_of_block g1 1
    have f2 : W1.frozen? ⟨g, 2, none⟩ = false := Joins.unfrozen_of_block g1 2
    have d2 : W1.cell? ⟨g, 2, none⟩ = some (.int .u8 (x1 : Int)) := Joins.cell_of_block g1 2
    have f3 : W1.frozen? ⟨g, 3, none⟩ = false := Joins.unfrozen_of_block g1 3
    have d3 : W1.cell? ⟨g, 3, none⟩ = some (.int .u8 (y1 : Int)) := Joins.cell_of_block g1 3
    have f4 : W1.frozen? ⟨g, 4, none⟩ = false := Joins.unfrozen_of_block g1 4
    have d4 : W1.cell? ⟨g, 4, none⟩ = some (.int .u8 (x0 : Int)) := Joins.cell_of_block g1 4
    have f5 : W1.frozen? ⟨g, 5, none⟩ = false := Joins.unfrozen_of_block g1 5
    have d5 : W1.cell? ⟨g, 5, none⟩ = some (.int .u8 (y0 : Int)) := Joins.cell_of_block g1 5
    clear g1
    go_wp2
    generalize hS : (Value.string (ByteArray.mk (List.toArray (List.append _ _)))) = SV
    obtain ⟨F1, F2⟩ := sm_at _ (by decide +kernel) (by decide +kernel) SV hS b0 l2
    obtain ⟨t, ht⟩ : ∃ t, 2 * b0 = t := ⟨_, rfl⟩
    obtain ⟨t', ht'⟩ : ∃ t', 2 * b0 + 1 = t' := ⟨_, rfl⟩
    have ht2 : (b0 : Int) * 2 = (t : Int) := by omega
    have t3 : (t : Int) + 1 = (t' : Int) := by omega
    obtain ⟨x2, hx2⟩ : ∃ x, 48 + b0 / 10 = x := ⟨_, rfl⟩
    obtain ⟨y2, hy2⟩ : ∃ y, 48 + b0 % 10 = y := ⟨_, rfl⟩
    have t4 : t' < 200 := by omega
    rw [ht, hx2] at F1
    rw [ht', hy2] at F2
    rw [hx2, hy2] at HD
    clear ht ht' hx2 hy2 hS
    go_region
    obtain ⟨W2, hW2⟩ : ∃ W, W = ((W1.setCell ⟨g, 1, none⟩ (.int .u8 (y2 : Int))).setCell ⟨g, 0, none⟩ (.int .u8 (x2 : Int))).drew := ⟨_, rfl⟩
    rw [← hW2]
    have g2 : W2.heap[g]? = some (.cells #[.int .u8 (x2 : Int), .int .u8 (y2 : Int), .int .u8 (x1 : Int), .int .u8 (y1 : Int), .int .u8 (x0 : Int), .int .u8 (y0 : Int), .int .u8 0, .int .u8 0, .int .u8 0, .int .u8 0, .int .u8 0, .int .u8 0, .int .u8 0, .int .u8 0, .int .u8 0, .int .u8 0, .int .u8 0, .int .u8 0, .int .u8 0, .int .u8 0, .int .u8 0, .int .u8 0, .int .u8 0, .int .u8 0] 117 (0, 0)) := by rw [hW2]; exact Joins.block_setCell (i := 0) (Joins.block_setCell (i := 1) HG1.out _) _
    have HG2 := hid g2
    have HF2 : Hid (FQ W1 W2 g) := by rw [hW2]; exact ((FQ.refl W1 g).set _ _).set2 _ _
    clear f0 d0 f1 d1 f2 d2 f3 d3 f4 d4 f5 d5 F1 F2 ht2 t3 hW2
    have f0 : W2.frozen? ⟨g, 0, none⟩ = false := Joins.unfrozen_of_block g2 0
    have d0 : W2.cell? ⟨g, 0, none⟩ = some (.int .u8 (x2 : Int)) := Joins.cell_of_block g2 0
    have f1 : W2.frozen? ⟨g, 1, none⟩ = false := Joins.unfrozen_of_block g2 1
    have d1 : W2.cell? ⟨g, 1, none⟩ = some (.int .u8 (y2 : Int)) := Joins.cell_of_block g2 1
    have f2 : W2.frozen? ⟨g, 2, none⟩ = false := Joins.unfrozen_of_block g2 2
    have d2 : W2.cell? ⟨g, 2, none⟩ = some (.int .u8 (x1 : Int)) := Joins.cell_of_block g2 2
    have f3 : W2.frozen? ⟨g, 3, none⟩ = false := Joins.unfrozen_of_block g2 3
    have d3 : W2.cell? ⟨g, 3, none⟩ = some (.int .u8 (y1 : Int)) := Joins.cell_of_block g2 3
    have f4 : W2.frozen? ⟨g, 4, none⟩ = false := Joins.unfrozen_of_block g2 4
    have d4 : W2.cell? ⟨g, 4, none⟩ = some (.int .u8 (x0 : Int)) := Joins.cell_of_block g2 4
    have f5 : W2.frozen? ⟨g, 5, none⟩ = false := Joins.unfrozen_of_block g2 5
    have d5 : W2.cell? ⟨g, 5, none⟩ = some (.int .u8 (y0 : Int)) := Joins.cell_of_block g2 5
    clear g2
    go_wp2
    all_goals go_end0
    refine ⟨rfl, ((HF0.out).trans HF1.out).trans HF2.out, ?_⟩
    rw [HD.out]
    have gz2 := HG2.out
    refine .inr ⟨g, 0, rfl, (Array.getElem?_eq_some_iff.1 HG.out).1, fun j hj => ?_⟩
    rw [Nat.zero_add, Joins.cell_of_block gz2]
    match j, hj with
    | 0, _ => rfl
    | 1, _ => rfl
    | 2, _ => rfl
    | 3, _ => rfl
    | 4, _ => rfl
    | 5, _ => rfl
    | j + 6, hj => exact absurd hj (by simp)
set_option maxRecDepth 1000000 in
set_option maxHeartbeats 8000000 in
theorem fmt87_7 {k g : Nat} (h1 : 1000000 ≤ k) (h2 : k < 10000000) {w : World} (hg : w.heap[g]? = some (.cells Z24 117 (0, 0))) : Calls Tryd.prog 87 #[.slice (some ⟨g, 0, none⟩) 7 24, .int .u64 (k : Int)] w fun e w' => e = .returned (.tuple #[]) ∧ FQ w w' g ∧ BA w' w.heap.size (some ⟨g, 0, none⟩) (dec k) := by
  have e1 : (k : Int) % 4294967296 = (k : Int) := by omega
  obtain ⟨m, hm⟩ : ∃ m, k % 10000 = m := ⟨_, rfl⟩
  obtain ⟨z, hz⟩ : ∃ z, k / 10000 = z := ⟨_, rfl⟩
  obtain ⟨a1, ha1⟩ : ∃ a1, m / 100 = a1 := ⟨_, rfl⟩
  obtain ⟨a0, ha0⟩ : ∃ a0, m % 100 = a0 := ⟨_, rfl⟩
  have e2 : (k : Int) % 10000 = (m : Int) := by omega
  have e3 : (k : Int) / 10000 = (z : Int) := by omega
  have e4 : (m : Int) / 100 = (a1 : Int) := by omega
  have e5 : (m : Int) % 100 = (a0 : Int) := by omega
  have l1 : a1 < 100 := by omega
  have l0 : a0 < 100 := by omega
  obtain ⟨b0, hb0⟩ : ∃ b0, z % 100 = b0 := ⟨_, rfl⟩
  obtain ⟨c0, hc0⟩ : ∃ c0, z / 100 = c0 := ⟨_, rfl⟩
  have e6 : (z : Int) % 100 = (b0 : Int) := by omega
  have e7 : (z : Int) / 100 = (c0 : Int) := by omega
  have l2 : b0 < 100 := by omega
  have e8 : (48 + (c0 : Int)) % 256 = 48 + (c0 : Int) := by omega
  have l3 : c0 < 10 := by omega
  have hdec : dec k = [48 + c0, 48 + b0 / 10, 48 + b0 % 10, 48 + a1 / 10, 48 + a1 % 10, 48 + a0 / 10, 48 + a0 % 10] := by
    rw [dec_big (show 10 ≤ k by omega)]
    rw [show k / 10 = k / 10 by omega]
    rw [show k / 10 = k / 10 from rfl, dec_big (show 10 ≤ k / 10 by omega)]
    rw [show k / 10 / 10 = k / 100 by omega]
    rw [show k / 100 = k / 100 from rfl, dec_big (show 10 ≤ k / 100 by omega)]
    rw [show k / 100 / 10 = k / 1000 by omega]
    rw [show k / 1000 = k / 1000 from rfl, dec_big (show 10 ≤ k / 1000 by omega)]
    rw [show k / 1000 / 10 = k / 10000 by omega]
    rw [show k / 10000 = k / 10000 from rfl, dec_big (show 10 ≤ k / 10000 by omega)]
    rw [show k / 10000 / 10 = k / 100000 by omega]
    rw [show k / 100000 = k / 100000 from rfl, dec_big (show 10 ≤ k / 100000 by omega)]
    rw [show k / 100000 / 10 = k / 1000000 by omega]
    rw [dec_small (show ¬ 10 ≤ k / 1000000 by omega)]
    simp only [List.cons_append, List.nil_append]
    congr 1
    all_goals first | omega | skip
    all_goals (try congr 1)
    all_goals first | omega | skip
    all_goals (try congr 1)
    all_goals first | omega | skip
    all_goals (try congr 1)
    all_goals first | omega | skip
    all_goals (try congr 1)
    all_goals first | omega | skip
    all_goals (try congr 1)
    all_goals first | omega | skip
    all_goals (try congr 1)
    all_goals first | omega | skip
  have HD := hid hdec
  clear hdec
  have f0 : w.frozen? ⟨g, 0, none⟩ = false := Joins.unfrozen_of_block hg 0
  have d0 : w.cell? ⟨g, 0, none⟩ = some (.int .u8 0) := Joins.cell_of_block hg 0
  have f1 : w.frozen? ⟨g, 1, none⟩ = false := Joins.unfrozen_of_block hg 1
  have d1 : w.cell? ⟨g, 1, none⟩ = some (.int .u8 0) := Joins.cell_of_block hg 1
  have f2 : w.frozen? ⟨g, 2, none⟩ = false := Joins.unfrozen_of_block hg 2
  have d2 : w.cell? ⟨g, 2, none⟩ = some (.int .u8 0) := Joins.cell_of_block hg 2
  have f3 : w.frozen? ⟨g, 3, none⟩ = false := Joins.unfrozen_of_block hg 3
  have d3 : w.cell? ⟨g, 3, none⟩ = some (.int .u8 0) := Joins.cell_of_block hg 3
  have f4 : w.frozen? ⟨g, 4, none⟩ = false := Joins.unfrozen_of_block hg 4
  have d4 : w.cell? ⟨g, 4, none⟩ = some (.int .u8 0) := Joins.cell_of_block hg 4
  have f5 : w.frozen? ⟨g, 5, none⟩ = false := Joins.unfrozen_of_block hg 5
  have d5 : w.cell? ⟨g, 5, none⟩ = some (.int .u8 0) := Joins.cell_of_block hg 5
  have f6 : w.frozen? ⟨g, 6, none⟩ = false := Joins.unfrozen_of_block hg 6
  have d6 : w.cell? ⟨g, 6, none⟩ = some (.int .u8 0) := Joins.cell_of_block hg 6
  have HG := hid hg
  clear hm hz ha1 ha0 hb0 hc0 hg
  go_enter Tryd.func87, Tryd.ntmps87
  go_wp2_with fail
  go_loopw [1, 4] (fun x y wq => x = .int .u64 (k : Int) ∧ y = .int .i64 7 ∧ wq = w) (fun _ _ _ => 0)
  case atStart => exact ⟨rfl, rfl, rfl⟩
  case round =>
    obtain ⟨rfl, rfl, rfl⟩ := hrel
    go_wp2
    generalize hS : (Value.string (ByteArray.mk (List.toArray (List.append _ _)))) = SV
    obtain ⟨F1, F2⟩ := sm_at _ (by decide +kernel) (by decide +kernel) SV hS a0 l0
    obtain ⟨t, ht⟩ : ∃ t, 2 * a0 = t := ⟨_, rfl⟩
    obtain ⟨t', ht'⟩ : ∃ t', 2 * a0 + 1 = t' := ⟨_, rfl⟩
    have ht2 : (a0 : Int) * 2 = (t : Int) := by omega
    have t3 : (t : Int) + 1 = (t' : Int) := by omega
    obtain ⟨x0, hx0⟩ : ∃ x, 48 + a0 / 10 = x := ⟨_, rfl⟩
    obtain ⟨y0, hy0⟩ : ∃ y, 48 + a0 % 10 = y := ⟨_, rfl⟩
    have t4 : t' < 200 := by omega
    rw [ht, hx0] at F1
    rw [ht', hy0] at F2
    rw [hx0, hy0] at HD
    clear ht ht' hx0 hy0 hS
    go_region
    obtain ⟨W0, hW0⟩ : ∃ W, W = ((wr.setCell ⟨g, 6, none⟩ (.int .u8 (y0 : Int))).setCell ⟨g, 5, none⟩ (.int .u8 (x0 : Int))).drew := ⟨_, rfl⟩
    rw [← hW0]
    have g0 : W0.heap[g]? = some (.cells #[.int .u8 0, .int .u8 0, .int .u8 0, .int .u8 0, .int .u8 0, .int .u8 (x0 : Int), .int .u8 (y0 : Int), .int .u8 0, .int .u8 0, .int .u8 0, .int .u8 0, .int .u8 0, .int .u8 0, .int .u8 0, .int .u8 0, .int .u8 0, .int .u8 0, .int .u8 0, .int .u8 0, .int .u8 0, .int .u8 0, .int .u8 0, .int .u8 0, .int .u8 0] 117 (0, 0)) := by rw [hW0]; exact Joins.block_setCell (i := 5) (Joins.block_setCell (i := 6) HG.out _) _
    have HG0 := hid g0
    have HF0 : Hid (FQ wr W0 g) := by rw [hW0]; exact ((FQ.refl wr g).set _ _).set2 _ _
    clear f0 d0 f1 d1 f2 d2 f3 d3 f4 d4 f5 d5 f6 d6 F1 F2 ht2 t3 hW0
    have f0 : W0.frozen? ⟨g, 0, none⟩ = false := Joins.unfrozen_of_block g0 0
    have d0 : W0.cell? ⟨g, 0, none⟩ = some (.int .u8 0) := Joins.cell_of_block g0 0
    have f1 : W0.frozen? ⟨g, 1, none⟩ = false := Joins.unfrozen_of_block g0 1
    have d1 : W0.cell? ⟨g, 1, none⟩ = some (.int .u8 0) := Joins.cell_of_block g0 1
    have f2 : W0.frozen? ⟨g, 2, none⟩ = false := Joins.unfrozen_of_block g0 2
    have d2 : W0.cell? ⟨g, 2, none⟩ = some (.int .u8 0) := Joins.cell_of_block g0 2
    have f3 : W0.frozen? ⟨g, 3, none⟩ = false := Joins.unfrozen_of_block g0 3
    have d3 : W0.cell? ⟨g, 3, none⟩ = some (.int .u8 0) := Joins.cell_of_block g0 3
    have f4 : W0.frozen? ⟨g, 4, none⟩ = false := Joins.unfrozen_of_block g0 4
    have d4 : W0.cell? ⟨g, 4, none⟩ = some (.int .u8 0) := Joins.cell_of_block g0 4
    have f5 : W0.frozen? ⟨g, 5, none⟩ = false := Joins.unfrozen_of_block g0 5
    have d5 : W0.cell? ⟨g, 5, none⟩ = some (.int .u8 (x0 : Int)) := Joins.cell_of_block g0 5
    have f6 : W0.frozen? ⟨g, 6, none⟩ = false := Joins.unfrozen_of_block g0 6
    have d6 : W0.cell? ⟨g, 6, none⟩ = some (.int .u8 (y0 : Int)) := Joins.cell_of_block g0 6
    clear g0
    go_wp2
    generalize hS : (Value.string (ByteArray.mk (List.toArray (List.append _ _)))) = SV
    obtain ⟨F1, F2⟩ := sm_at _ (by decide +kernel) (by decide +kernel) SV hS a1 l1
    obtain ⟨t, ht⟩ : ∃ t, 2 * a1 = t := ⟨_, rfl⟩
    obtain ⟨t', ht'⟩ : ∃ t', 2 * a1 + 1 = t' := ⟨_, rfl⟩
    have ht2 : (a1 : Int) * 2 = (t : Int) := by omega
    have t3 : (t : Int) + 1 = (t' : Int) := by omega
    obtain ⟨x1, hx1⟩ : ∃ x, 48 + a1 / 10 = x := ⟨_, rfl⟩
    obtain ⟨y1, hy1⟩ : ∃ y, 48 + a1 % 10 = y := ⟨_, rfl⟩
    have t4 : t' < 200 := by omega
    rw [ht, hx1] at F1
    rw [ht', hy1] at F2
    rw [hx1, hy1] at HD
    clear ht ht' hx1 hy1 hS
    go_region
    obtain ⟨W1, hW1⟩ : ∃ W, W = ((W0.setCell ⟨g, 4, none⟩ (.int .u8 (y1 : Int))).setCell ⟨g, 3, none⟩ (.int .u8 (x1 : Int))).drew := ⟨_, rfl⟩
    rw [← hW1]
    have g1 : W1.heap[g]? = some (.cells #[.int .u8 0, .int .u8 0, .int .u8 0, .int .u8 (x1 : Int), .int .u8 (y1 : Int), .int .u8 (x0 : Int), .int .u8 (y0 : Int), .int .u8 0, .int .u8 0, .int .u8 0, .int .u8 0, .int .u8 0, .int .u8 0, .int .u8 0, .int .u8 0, .int .u8 0, .int .u8 0, .int .u8 0, .int .u8 0, .int .u8 0, .int .u8 0, .int .u8 0, .int .u8 0, .int .u8 0] 117 (0, 0)) := by rw [hW1]; exact Joins.block_setCell (i := 3) (Joins.block_setCell (i := 4) HG0.out _) _
    have HG1 := hid g1
    have HF1 : Hid (FQ W0 W1 g) := by rw [hW1]; exact ((FQ.refl W0 g).set _ _).set2 _ _
    clear f0 d0 f1 d1 f2 d2 f3 d3 f4 d4 f5 d5 f6 d6 F1 F2 ht2 t3 hW1
    have f0 : W1.frozen? ⟨g, 0, none⟩ = false := Joins.unfrozen_of_block g1 0
    have d0 : W1.cell? ⟨g, 0, none⟩ = some (.int .u8 0) := Joins.cell_of_block g1 0
    have f1 : W1.frozen? ⟨g, 1, none⟩ = false := Joins.unfrozen_of_block g1 1
    have d1 : W1.cell? ⟨g, 1, none⟩ = some (.int .u8 0) := Joins.cell_of_block g1 1
    have f2 : W1.frozen? ⟨g, 2, none⟩ = false := Joins.unfrozen_of_block g1 2
    have d2 : W1.cell? ⟨g, 2, none⟩ = some (.int .u8 0) := Joins.cell_of_block g1 2
    have f3 : W1.frozen? ⟨g, 3, none⟩ = false := Joins.unfrozen_of_block g1 3
    have d3 : W1.cell? ⟨g, 3, none⟩ = some (.int .u8 (x1 : Int)) := Joins.cell_of_block g1 3
    have f4 : W1.frozen? ⟨g, 4, none⟩ = false := Joins.unfrozen_of_block g1 4
    have d4 : W1.cell? ⟨g, 4, none⟩ = some (.int .u8 (y1 : Int)) := Joins.cell_of_block g1 4
    have f5 : W1.frozen? ⟨g, 5, none⟩ = false := Joins.unfrozen_of_block g1 5
    have d5 : W1.cell? ⟨g, 5, none⟩ = some (.int .u8 (x0 : Int)) := Joins.cell_of_block g1 5
    have f6 : W1.frozen? ⟨g, 6, none⟩ = false := Joins.unfrozen_of_block g1 6
    have d6 : W1.cell? ⟨g, 6, none⟩ = some (.int .u8 (y0 : Int)) := Joins.cell_of_block g1 6
    clear g1
    go_wp2
    generalize hS : (Value.string (ByteArray.mk (List.toArray (List.append _ _)))) = SV
    obtain ⟨F1, F2⟩ := sm_at _ (by decide +kernel) (by decide +kernel) SV hS b0 l2
    obtain ⟨t, ht⟩ : ∃ t, 2 * b0 = t := ⟨_, rfl⟩
    obtain ⟨t', ht'⟩ : ∃ t', 2 * b0 + 1 = t' := ⟨_, rfl⟩
    have ht2 : (b0 : Int) * 2 = (t : Int) := by omega
    have t3 : (t : Int) + 1 = (t' : Int) := by omega
    obtain ⟨x2, hx2⟩ : ∃ x, 48 + b0 / 10 = x := ⟨_, rfl⟩
    obtain ⟨y2, hy2⟩ : ∃ y, 48 + b0 % 10 = y := ⟨_, rfl⟩
    have t4 : t' < 200 := by omega
    rw [ht, hx2] at F1
    rw [ht', hy2] at F2
    rw [hx2, hy2] at HD
    clear ht ht' hx2 hy2 hS
    go_region
    obtain ⟨W2, hW2⟩ : ∃ W, W = ((W1.setCell ⟨g, 2, none⟩ (.int .u8 (y2 : Int))).setCell ⟨g, 1, none⟩ (.int .u8 (x2 : Int))).drew := ⟨_, rfl⟩
    rw [← hW2]
    have g2 : W2.heap[g]? = some (.cells #[.int .u8 0, .int .u8 (x2 : Int), .int .u8 (y2 : Int), .int .u8 (x1 : Int), .int .u8 (y1 : Int), .int .u8 (x0 : Int), .int .u8 (y0 : Int), .int .u8 0, .int .u8 0, .int .u8 0, .int .u8 0, .int .u8 0, .int .u8 0, .int .u8 0, .int .u8 0, .int .u8 0, .int .u8 0, .int .u8 0, .int .u8 0, .int .u8 0, .int .u8 0, .int .u8 0, .int .u8 0, .int .u8 0] 117 (0, 0)) := by rw [hW2]; exact Joins.block_setCell (i := 1) (Joins.block_setCell (i := 2) HG1.out _) _
    have HG2 := hid g2
    have HF2 : Hid (FQ W1 W2 g) := by rw [hW2]; exact ((FQ.refl W1 g).set _ _).set2 _ _
    clear f0 d0 f1 d1 f2 d2 f3 d3 f4 d4 f5 d5 f6 d6 F1 F2 ht2 t3 hW2
    have f0 : W2.frozen? ⟨g, 0, none⟩ = false := Joins.unfrozen_of_block g2 0
    have d0 : W2.cell? ⟨g, 0, none⟩ = some (.int .u8 0) := Joins.cell_of_block g2 0
    have f1 : W2.frozen? ⟨g, 1, none⟩ = false := Joins.unfrozen_of_block g2 1
    have d1 : W2.cell? ⟨g, 1, none⟩ = some (.int .u8 (x2 : Int)) := Joins.cell_of_block g2 1
    have f2 : W2.frozen? ⟨g, 2, none⟩ = false := Joins.unfrozen_of_block g2 2
    have d2 : W2.cell? ⟨g, 2, none⟩ = some (.int .u8 (y2 : Int)) := Joins.cell_of_block g2 2
    have f3 : W2.frozen? ⟨g, 3, none⟩ = false := Joins.unfrozen_of_block g2 3
    have d3 : W2.cell? ⟨g, 3, none⟩ = some (.int .u8 (x1 : Int)) := Joins.cell_of_block g2 3
    have f4 : W2.frozen? ⟨g, 4, none⟩ = false := Joins.unfrozen_of_block g2 4
    have d4 : W2.cell? ⟨g, 4, none⟩ = some (.int .u8 (y1 : Int)) := Joins.cell_of_block g2 4
    have f5 : W2.frozen? ⟨g, 5, none⟩ = false := Joins.unfrozen_of_block g2 5
    have d5 : W2.cell? ⟨g, 5, none⟩ = some (.int .u8 (x0 : Int)) := Joins.cell_of_block g2 5
    have f6 : W2.frozen? ⟨g, 6, none⟩ = false := Joins.unfrozen_of_block g2 6
    have d6 : W2.cell? ⟨g, 6, none⟩ = some (.int .u8 (y0 : Int)) := Joins.cell_of_block g2 6
    clear g2
    go_wp2
    all_goals go_end0
    refine ⟨rfl, (((HF0.out).trans HF1.out).trans HF2.out).trans ((FQ.refl W2 g).set _ _), ?_⟩
    rw [HD.out]
    have gz := Joins.block_setCell (i := 0) HG2.out (.int .u8 ((48 + c0 : Nat) : Int))
    have gz2 : (W2.setCell ⟨g, 0, none⟩ (.int .u8 (48 + (c0 : Int)))).heap[g]? = some (.cells #[.int .u8 ((48 + c0 : Nat) : Int), .int .u8 (x2 : Int), .int .u8 (y2 : Int), .int .u8 (x1 : Int), .int .u8 (y1 : Int), .int .u8 (x0 : Int), .int .u8 (y0 : Int), .int .u8 0, .int .u8 0, .int .u8 0, .int .u8 0, .int .u8 0, .int .u8 0, .int .u8 0, .int .u8 0, .int .u8 0, .int .u8 0, .int .u8 0, .int .u8 0, .int .u8 0, .int .u8 0, .int .u8 0, .int .u8 0, .int .u8 0] 117 (0, 0)) := gz
    refine .inr ⟨g, 0, rfl, (Array.getElem?_eq_some_iff.1 HG.out).1, fun j hj => ?_⟩
    rw [Nat.zero_add, Joins.cell_of_block gz2]
    match j, hj with
    | 0, _ => rfl
    | 1, _ => rfl
    | 2, _ => rfl
    | 3, _ => rfl
    | 4, _ => rfl
    | 5, _ => rfl
    | 6, _ => rfl
    | j + 7, hj => exact absurd hj (by simp)
end Go.Proofs.YteanndophopplaaDoor
/- HELPERS: how many digits a number has, as the library counts them. -/
namespace Go.Proofs.YteanndophopplaaDoor
open Go.RowKit
set_option linter.unusedVariables false
set_option linter.unusedSimpArgs false
theorem tab_len (S : ByteArray) (hs : S.size = 256) (h : ∀ x : Fin 256, 1 ≤ x.val → (S[x.val]'(by have := x.isLt; omega)).toNat = 1 + Nat.log2 x.val) (q : Nat) (h1 : 1 ≤ q) (hq : q < 256) (hq' : q < S.size) : (S[q]'hq').toNat = 1 + Nat.log2 q := h ⟨q, hq⟩ h1
theorem log2_sh (k m : Nat) : ∀ (j : Nat), 1 ≤ k / 2 ^ j → Nat.log2 k = j + Nat.log2 (k / 2 ^ j) := by
  intro j
  induction j generalizing k with
  | zero => intro _; simp
  | succ j ih =>
    intro h
    have e : k / 2 ^ (j + 1) = k / 2 / 2 ^ j := by rw [Nat.pow_succ, Nat.mul_comm, Nat.div_div_eq_div_mul]
    have h2 : 2 ≤ k := by
      rcases Nat.lt_or_ge k 2 with h3 | h3
      · have : k / 2 = 0 := by omega
        rw [e, this] at h; simp at h
      · exact h3
    rw [Nat.log2_def, if_pos h2, ih (k / 2) (by rw [← e]; exact h), e]
    omega
set_option maxRecDepth 1000000 in
set_option maxHeartbeats 4000000 in
theorem len90 {k : Nat} (h1 : 1 ≤ k) (h2 : k < 16777216) (w : World) : Calls Tryd.prog 90 #[.int .u64 (k : Int)] w fun e w' => e = .returned (.int .i64 ((1 + Nat.log2 k : Nat) : Int)) ∧ w' = w := by
  have a1 : decide ((k : Int) ≥ 4294967296) = false := by simp; omega
  have a1' : decide ((4294967296 : Int) ≤ (k : Int)) = false := by simp; omega
  by_cases h3 : 65536 ≤ k
  · have b2 : decide ((k : Int) ≥ 65536) = true := by simp; omega
    have b2' : decide ((65536 : Int) ≤ (k : Int)) = true := by simp; omega
    have hl := log2_sh k 0 16 (by show 1 ≤ k / 65536; omega)
    rw [show (2 : Nat) ^ 16 = 65536 by rfl] at hl
    obtain ⟨q, hq⟩ : ∃ q, k / 65536 = q := ⟨_, rfl⟩
    rw [hq] at hl
    have HL := hid hl
    have e1 : (k : Int) / 65536 = (q : Int) := by omega
    have q1 : 1 ≤ q := by omega
    have q2 : q < 256 := by omega
    have b3 : decide ((q : Int) ≥ 256) = false := by simp; omega
    have b3' : decide ((256 : Int) ≤ (q : Int)) = false := by simp; omega
    clear hl hq
    go_enter Tryd.func90, Tryd.ntmps90
    go_wp2
    all_goals go_ret
    refine ⟨?_, rfl⟩
    rw [tab_len _ (by decide +kernel) (by decide +kernel) q q1 q2]
    have l8 : Nat.log2 q < 8 := (Nat.log2_lt (by omega)).2 q2
    rw [IntWalk.wrap64_in ((1 + Nat.log2 q : Nat) : Int) (by omega), IntWalk.wrap64_in _ (by omega)]
    have := HL.out
    have e : (16 : Int) + ((1 + Nat.log2 q : Nat) : Int) = ((1 + Nat.log2 k : Nat) : Int) := by omega
    rw [e]
    rfl
  · have b2 : decide ((k : Int) ≥ 65536) = false := by simp; omega
    have b2' : decide ((65536 : Int) ≤ (k : Int)) = false := by simp; omega
    by_cases h4 : 256 ≤ k
    · have b3 : decide ((k : Int) ≥ 256) = true := by simp; omega
      have b3' : decide ((256 : Int) ≤ (k : Int)) = true := by simp; omega
      have hl := log2_sh k 0 8 (by show 1 ≤ k / 256; omega)
      rw [show (2 : Nat) ^ 8 = 256 by rfl] at hl
      obtain ⟨q, hq⟩ : ∃ q, k / 256 = q := ⟨_, rfl⟩
      rw [hq] at hl
      have HL := hid hl
      have e1 : (k : Int) / 256 = (q : Int) := by omega
      have q1 : 1 ≤ q := by omega
      have q2 : q < 256 := by omega
      clear hl hq
      go_enter Tryd.func90, Tryd.ntmps90
      go_wp2
      all_goals go_ret
      refine ⟨?_, rfl⟩
      rw [tab_len _ (by decide +kernel) (by decide +kernel) q q1 q2]
      have l8 : Nat.log2 q < 8 := (Nat.log2_lt (by omega)).2 q2
      rw [IntWalk.wrap64_in ((1 + Nat.log2 q : Nat) : Int) (by omega), IntWalk.wrap64_in _ (by omega)]
      have := HL.out
      have e : (8 : Int) + ((1 + Nat.log2 q : Nat) : Int) = ((1 + Nat.log2 k : Nat) : Int) := by omega
      rw [e]
      rfl
    · have b3 : decide ((k : Int) ≥ 256) = false := by simp; omega
      have b3' : decide ((256 : Int) ≤ (k : Int)) = false := by simp; omega
      have q2 : k < 256 := by omega
      go_enter Tryd.func90, Tryd.ntmps90
      go_wp2
      all_goals go_ret
      refine ⟨?_, rfl⟩
      rw [tab_len _ (by decide +kernel) (by decide +kernel) k h1 q2]
      have l8 : Nat.log2 k < 8 := (Nat.log2_lt (by omega)).2 q2
      rw [IntWalk.wrap64_in ((1 + Nat.log2 k : Nat) : Int) (by omega)]
      rw [show wrap64 ((1 + Nat.log2 k : Nat) : Int) = ((1 + Nat.log2 k : Nat) : Int) from IntWalk.wrap64_in _ (by omega)]
      rfl

set_option maxHeartbeats 4000000 in
theorem log89 {L : Nat} (h : L ≤ 64) (w : World) : Calls Tryd.prog 89 #[.int .i64 (L : Int)] w fun e w' => e = .returned (.int .i64 ((L * 78913 / 262144 : Nat) : Int)) ∧ w' = w := by
  have e1 : IntKind.i64.wrap ((L : Int) * 78913) = ((L * 78913 : Nat) : Int) := by simp [IntKind.wrap, IntKind.bits, IntKind.signed]; omega
  go_enter Tryd.func89, Tryd.ntmps89
  go_wp2
  all_goals go_ret
  exact ⟨by show Ending.returned (Value.int .i64 ((L : Int) * 78913 / 262144)) = _; congr 2, rfl⟩
theorem two91 (b : Bool) (w : World) : Calls Tryd.prog 91 #[.bool b] w fun e w' => e = .returned (.int .i64 ((if b = true then 1 else 0 : Nat) : Int)) ∧ w' = w := by
  cases b
  all_goals
    go_enter Tryd.func91, Tryd.ntmps91
    go_wp2
    all_goals go_ret
    all_goals exact ⟨rfl, rfl⟩
/-- the powers of ten lie where their variable does -/
def G10 (w : World) : Prop := ∀ i, i < 20 → w.cell? ⟨1, i, none⟩ = some (.int .u64 ((10 ^ i : Nat) : Int))
set_option maxRecDepth 1000000 in
set_option maxHeartbeats 4000000 in
theorem nd86 {k : Nat} (h1 : 1 ≤ k) (h2 : k < 16777216) {w : World} (hG : G10 w) : Calls Tryd.prog 86 #[.int .u64 (k : Int)] w fun e w' => e = .returned (.int .i64 (((1 + Nat.log2 k) * 78913 / 262144 + (if 10 ^ ((1 + Nat.log2 k) * 78913 / 262144) ≤ k then 1 else 0) : Nat) : Int)) ∧ w' = w := by
  have C90 := len90 h1 h2 w
  have l24 : Nat.log2 k < 24 := (Nat.log2_lt (by omega)).2 h2
  obtain ⟨L, hL⟩ : ∃ L, 1 + Nat.log2 k = L := ⟨_, rfl⟩
  rw [hL] at C90 ⊢
  have C89 := log89 (L := L) (by omega) w
  obtain ⟨d, hd⟩ : ∃ d, L * 78913 / 262144 = d := ⟨_, rfl⟩
  rw [hd] at C89 ⊢
  have hd7 : d ≤ 7 := by omega
  have g := hG d (by omega)
  obtain ⟨P, hP⟩ : ∃ P, 10 ^ d = P := ⟨_, rfl⟩
  rw [hP] at g ⊢
  have b1 : decide ((k : Int) ≥ (P : Int)) = decide (P ≤ k) := by simp
  have b1' : decide ((P : Int) ≤ (k : Int)) = decide (P ≤ k) := by simp
  have C91 := two91 (decide (P ≤ k)) w
  have hd8 : d < 20 := by omega
  clear hL hd hP l24 hG
  go_enter Tryd.func86, Tryd.ntmps86
  go_wp2_with (first | (go_at_call 90; (with_reducible refine C90.mono ?_); rintro e w1 ⟨rfl, h⟩; obtain rfl := h.symm) | (go_at_call 89; (with_reducible refine C89.mono ?_); rintro e w1 ⟨rfl, h⟩; obtain rfl := h.symm) | (go_at_call 91; (with_reducible refine C91.mono ?_); rintro e w1 ⟨rfl, h⟩; obtain rfl := h.symm))
  all_goals go_ret
  all_goals refine ⟨?_, rfl⟩
  · show Ending.returned (Value.int .i64 (wrap64 ((d : Int) + 1))) = _
    rw [IntWalk.wrap64_in _ (by omega)]
  · show Ending.returned (Value.int .i64 (wrap64 ((d : Int) + 0))) = _
    rw [IntWalk.wrap64_in _ (by omega), Int.add_zero]
end Go.Proofs.YteanndophopplaaDoor
namespace Go.Proofs.YteanndophopplaaDoor
open Go.RowKit Go.Lib
set_option linter.unusedVariables false
set_option linter.unusedSimpArgs false
theorem bs_ext (S : ByteArray) (hs : S.size = 36) (h : ∀ x : Fin 10, bs (S.extract x.val (x.val + 1)) = [48 + x.val % 10]) (k : Nat) (hk : k < 10) : bs (S.extract k (k + 1)) = [48 + k % 10] := h ⟨k, hk⟩
theorem bs_ext2 (S : ByteArray) (h : ∀ x : Fin 100, bs (S.extract (x.val * 2) (x.val * 2 + 2)) = [48 + x.val / 10, 48 + x.val % 10]) (k : Nat) (hk : k < 100) : bs (S.extract (k * 2) (k * 2 + 2)) = [48 + k / 10, 48 + k % 10] := h ⟨k, hk⟩
set_option maxRecDepth 1000000 in
set_option maxHeartbeats 4000000 in
theorem small85g {k : Nat} (hk : k < 100) (w : World) : Calls Tryd.prog 85 #[.int .i64 (k : Int)] w fun e w' => (∃ S, e = .returned (.string S) ∧ bs S = dec k) ∧ w' = w := by
  by_cases h : k < 10
  · have b1 : decide ((k : Int) < 10) = true := by simp; omega
    have b2 : (k : Int) < 10 := by omega
    have ad1 : IntKind.i64.wrap ((k : Int) + 1) = (k : Int) + 1 := by simp [IntKind.wrap, IntKind.bits, IntKind.signed]; omega
    have u1 : (0 : Int) ≤ (k : Int) := by omega
    have u2 : (k : Int) ≤ (k : Int) + 1 := by omega
    have u3 : (k : Int) + 1 ≤ 36 := by omega
    go_enter Tryd.func85, Tryd.ntmps85
    go_wp2
    all_goals go_ret
    exact ⟨⟨_, rfl, by rw [dec_small (by omega)]; exact bs_ext _ (by decide +kernel) (by decide +kernel) k h⟩, rfl⟩
  · have b1 : decide ((k : Int) < 10) = false := by simp; omega
    have b2 : ¬ (k : Int) < 10 := by omega
    obtain ⟨t, ht⟩ : ∃ t, k * 2 = t := ⟨_, rfl⟩
    obtain ⟨t', ht'⟩ : ∃ t', k * 2 + 2 = t' := ⟨_, rfl⟩
    have e1 : (k : Int) * 2 = (t : Int) := by omega
    have e2 : (t : Int) + 2 = (t' : Int) := by omega
    have l1 : (t : Int) ≤ (t' : Int) := by omega
    have l2 : (t' : Int) ≤ 200 := by omega
    have HT := hid ht
    have HT' := hid ht'
    clear ht ht'
    go_enter Tryd.func85, Tryd.ntmps85
    go_wp2
    all_goals go_ret
    exact ⟨⟨_, rfl, by rw [dec_big (by omega), dec_small (by omega), show k / 10 % 10 = k / 10 by omega, ← HT'.out, ← HT.out]; exact bs_ext2 _ (by decide +kernel) k hk⟩, rfl⟩
theorem nd_3 {k : Nat} (h1 : 100 ≤ k) (h2 : k < 1000) : (1 + Nat.log2 k) * 78913 / 262144 + (if 10 ^ ((1 + Nat.log2 k) * 78913 / 262144) ≤ k then 1 else 0) = 3 := by
  have lo := Nat.log2_self_le (show k ≠ 0 by omega)
  have hi := Nat.lt_log2_self (n := k)
  obtain ⟨L, hL⟩ : ∃ L, Nat.log2 k = L := ⟨_, rfl⟩
  rw [hL] at lo hi ⊢
  have a1 : L ≤ 9 := by
    rcases Nat.lt_or_ge 9 L with h | h
    · have := Nat.pow_le_pow_right (show 0 < 2 by omega) (show 10 ≤ L by omega); simp at this; omega
    · exact h
  have a2 : 6 ≤ L := by
    rcases Nat.lt_or_ge L 6 with h | h
    · have := Nat.pow_le_pow_right (show 0 < 2 by omega) (show L + 1 ≤ 6 by omega); simp at this; omega
    · exact h
  clear hL
  obtain rfl | rfl | rfl | rfl : L = 6 ∨ L = 7 ∨ L = 8 ∨ L = 9 := by omega
  · show 2 + (if 100 ≤ k then 1 else 0) = 3
    simp only [Nat.reducePow, Nat.reduceAdd] at lo hi
    rw [if_pos (by omega)]
  · show 2 + (if 100 ≤ k then 1 else 0) = 3
    simp only [Nat.reducePow, Nat.reduceAdd] at lo hi
    rw [if_pos (by omega)]
  · show 2 + (if 100 ≤ k then 1 else 0) = 3
    simp only [Nat.reducePow, Nat.reduceAdd] at lo hi
    rw [if_pos (by omega)]
  · show 3 + (if 1000 ≤ k then 1 else 0) = 3
    simp only [Nat.reducePow, Nat.reduceAdd] at lo hi
    rw [if_neg (by omega)]
theorem nd_4 {k : Nat} (h1 : 1000 ≤ k) (h2 : k < 10000) : (1 + Nat.log2 k) * 78913 / 262144 + (if 10 ^ ((1 + Nat.log2 k) * 78913 / 262144) ≤ k then 1 else 0) = 4 := by
  have lo := Nat.log2_self_le (show k ≠ 0 by omega)
  have hi := Nat.lt_log2_self (n := k)
  obtain ⟨L, hL⟩ : ∃ L, Nat.log2 k = L := ⟨_, rfl⟩
  rw [hL] at lo hi ⊢
  have a1 : L ≤ 13 := by
    rcases Nat.lt_or_ge 13 L with h | h
    · have := Nat.pow_le_pow_right (show 0 < 2 by omega) (show 14 ≤ L by omega); simp at this; omega
    · exact h
  have a2 : 9 ≤ L := by
    rcases Nat.lt_or_ge L 9 with h | h
    · have := Nat.pow_le_pow_right (show 0 < 2 by omega) (show L + 1 ≤ 9 by omega); simp at this; omega
    · exact h
  clear hL
  obtain rfl | rfl | rfl | rfl | rfl : L = 9 ∨ L = 10 ∨ L = 11 ∨ L = 12 ∨ L = 13 := by omega
  · show 3 + (if 1000 ≤ k then 1 else 0) = 4
    simp only [Nat.reducePow, Nat.reduceAdd] at lo hi
    rw [if_pos (by omega)]
  · show 3 + (if 1000 ≤ k then 1 else 0) = 4
    simp only [Nat.reducePow, Nat.reduceAdd] at lo hi
    rw [if_pos (by omega)]
  · show 3 + (if 1000 ≤ k then 1 else 0) = 4
    simp only [Nat.reducePow, Nat.reduceAdd] at lo hi
    rw [if_pos (by omega)]
  · show 3 + (if 1000 ≤ k then 1 else 0) = 4
    simp only [Nat.reducePow, Nat.reduceAdd] at lo hi
    rw [if_pos (by omega)]
  · show 4 + (if 10000 ≤ k then 1 else 0) = 4
    simp only [Nat.reducePow, Nat.reduceAdd] at lo hi
    rw [if_neg (by omega)]
theorem nd_5 {k : Nat} (h1 : 10000 ≤ k) (h2 : k < 100000) : (1 + Nat.log2 k) * 78913 / 262144 + (if 10 ^ ((1 + Nat.log2 k) * 78913 / 262144) ≤ k then 1 else 0) = 5 := by
  have lo := Nat.log2_self_le (show k ≠ 0 by omega)
  have hi := Nat.lt_log2_self (n := k)
  obtain ⟨L, hL⟩ : ∃ L, Nat.log2 k = L := ⟨_, rfl⟩
  rw [hL] at lo hi ⊢
  have a1 : L ≤ 16 := by
    rcases Nat.lt_or_ge 16 L with h | h
    · have := Nat.pow_le_pow_right (show 0 < 2 by omega) (show 17 ≤ L by omega); simp at this; omega
    · exact h
  have a2 : 13 ≤ L := by
    rcases Nat.lt_or_ge L 13 with h | h
    · have := Nat.pow_le_pow_right (show 0 < 2 by omega) (show L + 1 ≤ 13 by omega); simp at this; omega
    · exact h
  clear hL
  obtain rfl | rfl | rfl | rfl : L = 13 ∨ L = 14 ∨ L = 15 ∨ L = 16 := by omega
  · show 4 + (if 10000 ≤ k then 1 else 0) = 5
    simp only [Nat.reducePow, Nat.reduceAdd] at lo hi
    rw [if_pos (by omega)]
  · show 4 + (if 10000 ≤ k then 1 else 0) = 5
    simp only [Nat.reducePow, Nat.reduceAdd] at lo hi
    rw [if_pos (by omega)]
  · show 4 + (if 10000 ≤ k then 1 else 0) = 5
    simp only [Nat.reducePow, Nat.reduceAdd] at lo hi
    rw [if_pos (by omega)]
  · show 5 + (if 100000 ≤ k then 1 else 0) = 5
    simp only [Nat.reducePow, Nat.reduceAdd] at lo hi
    rw [if_neg (by omega)]
theorem nd_6 {k : Nat} (h1 : 100000 ≤ k) (h2 : k < 1000000) : (1 + Nat.log2 k) * 78913 / 262144 + (if 10 ^ ((1 + Nat.log2 k) * 78913 / 262144) ≤ k then 1 else 0) = 6 := by
  have lo := Nat.log2_self_le (show k ≠ 0 by omega)
  have hi := Nat.lt_log2_self (n := k)
  obtain ⟨L, hL⟩ : ∃ L, Nat.log2 k = L := ⟨_, rfl⟩
  rw [hL] at lo hi ⊢
  have a1 : L ≤ 19 := by
    rcases Nat.lt_or_ge 19 L with h | h
    · have := Nat.pow_le_pow_right (show 0 < 2 by omega) (show 20 ≤ L by omega); simp at this; omega
    · exact h
  have a2 : 16 ≤ L := by
    rcases Nat.lt_or_ge L 16 with h | h
    · have := Nat.pow_le_pow_right (show 0 < 2 by omega) (show L + 1 ≤ 16 by omega); simp at this; omega
    · exact h
  clear hL
  obtain rfl | rfl | rfl | rfl : L = 16 ∨ L = 17 ∨ L = 18 ∨ L = 19 := by omega
  · show 5 + (if 100000 ≤ k then 1 else 0) = 6
    simp only [Nat.reducePow, Nat.reduceAdd] at lo hi
    rw [if_pos (by omega)]
  · show 5 + (if 100000 ≤ k then 1 else 0) = 6
    simp only [Nat.reducePow, Nat.reduceAdd] at lo hi
    rw [if_pos (by omega)]
  · show 5 + (if 100000 ≤ k then 1 else 0) = 6
    simp only [Nat.reducePow, Nat.reduceAdd] at lo hi
    rw [if_pos (by omega)]
  · show 6 + (if 1000000 ≤ k then 1 else 0) = 6
    simp only [Nat.reducePow, Nat.reduceAdd] at lo hi
    rw [if_neg (by omega)]
theorem nd_7 {k : Nat} (h1 : 1000000 ≤ k) (h2 : k < 10000000) : (1 + Nat.log2 k) * 78913 / 262144 + (if 10 ^ ((1 + Nat.log2 k) * 78913 / 262144) ≤ k then 1 else 0) = 7 := by
  have lo := Nat.log2_self_le (show k ≠ 0 by omega)
  have hi := Nat.lt_log2_self (n := k)
  obtain ⟨L, hL⟩ : ∃ L, Nat.log2 k = L := ⟨_, rfl⟩
  rw [hL] at lo hi ⊢
  have a1 : L ≤ 23 := by
    rcases Nat.lt_or_ge 23 L with h | h
    · have := Nat.pow_le_pow_right (show 0 < 2 by omega) (show 24 ≤ L by omega); simp at this; omega
    · exact h
  have a2 : 19 ≤ L := by
    rcases Nat.lt_or_ge L 19 with h | h
    · have := Nat.pow_le_pow_right (show 0 < 2 by omega) (show L + 1 ≤ 19 by omega); simp at this; omega
    · exact h
  clear hL
  obtain rfl | rfl | rfl | rfl | rfl : L = 19 ∨ L = 20 ∨ L = 21 ∨ L = 22 ∨ L = 23 := by omega
  · show 6 + (if 1000000 ≤ k then 1 else 0) = 7
    simp only [Nat.reducePow, Nat.reduceAdd] at lo hi
    rw [if_pos (by omega)]
  · show 6 + (if 1000000 ≤ k then 1 else 0) = 7
    simp only [Nat.reducePow, Nat.reduceAdd] at lo hi
    rw [if_pos (by omega)]
  · show 6 + (if 1000000 ≤ k then 1 else 0) = 7
    simp only [Nat.reducePow, Nat.reduceAdd] at lo hi
    rw [if_pos (by omega)]
  · show 6 + (if 1000000 ≤ k then 1 else 0) = 7
    simp only [Nat.reducePow, Nat.reduceAdd] at lo hi
    rw [if_pos (by omega)]
  · show 7 + (if 10000000 ≤ k then 1 else 0) = 7
    simp only [Nat.reducePow, Nat.reduceAdd] at lo hi
    rw [if_neg (by omega)]
theorem len_dec1 {k : Nat} (h : k < 10) : (dec k).length = 1 := by rw [dec_small (by omega)]; rfl
theorem len_dec2 {k : Nat} (h1 : 10 ≤ k) (h2 : k < 100) : (dec k).length = 2 := by rw [dec_big (by omega), List.length_append, len_dec1 (by omega)]; rfl
theorem len_dec3 {k : Nat} (h1 : 100 ≤ k) (h2 : k < 1000) : (dec k).length = 3 := by rw [dec_big (by omega), List.length_append, len_dec2 (by omega) (by omega)]; rfl
theorem len_dec4 {k : Nat} (h1 : 1000 ≤ k) (h2 : k < 10000) : (dec k).length = 4 := by rw [dec_big (by omega), List.length_append, len_dec3 (by omega) (by omega)]; rfl
theorem len_dec5 {k : Nat} (h1 : 10000 ≤ k) (h2 : k < 100000) : (dec k).length = 5 := by rw [dec_big (by omega), List.length_append, len_dec4 (by omega) (by omega)]; rfl
theorem len_dec6 {k : Nat} (h1 : 100000 ≤ k) (h2 : k < 1000000) : (dec k).length = 6 := by rw [dec_big (by omega), List.length_append, len_dec5 (by omega) (by omega)]; rfl
theorem len_dec7 {k : Nat} (h1 : 1000000 ≤ k) (h2 : k < 10000000) : (dec k).length = 7 := by rw [dec_big (by omega), List.length_append, len_dec6 (by omega) (by omega)]; rfl
theorem fmt87 {k g : Nat} (h1 : 100 ≤ k) (h2 : k < 10000000) : ∃ d, 3 ≤ d ∧ d ≤ 7 ∧ (dec k).length = d ∧ (1 + Nat.log2 k) * 78913 / 262144 + (if 10 ^ ((1 + Nat.log2 k) * 78913 / 262144) ≤ k then 1 else 0) = d ∧ ∀ {w : World}, w.heap[g]? = some (.cells Z24 117 (0, 0)) → Calls Tryd.prog 87 #[.slice (some ⟨g, 0, none⟩) d 24, .int .u64 (k : Int)] w fun e w' => e = .returned (.tuple #[]) ∧ FQ w w' g ∧ BA w' w.heap.size (some ⟨g, 0, none⟩) (dec k) := by
  by_cases a3 : k < 1000
  · exact ⟨3, by omega, by omega, len_dec3 h1 a3, nd_3 h1 a3, fun h => fmt87_3 h1 a3 h⟩
  by_cases a4 : k < 10000
  · exact ⟨4, by omega, by omega, len_dec4 (by omega) a4, nd_4 (by omega) a4, fun h => fmt87_4 (by omega) a4 h⟩
  by_cases a5 : k < 100000
  · exact ⟨5, by omega, by omega, len_dec5 (by omega) a5, nd_5 (by omega) a5, fun h => fmt87_5 (by omega) a5 h⟩
  by_cases a6 : k < 1000000
  · exact ⟨6, by omega, by omega, len_dec6 (by omega) a6, nd_6 (by omega) a6, fun h => fmt87_6 (by omega) a6 h⟩
  exact ⟨7, by omega, by omega, len_dec7 (by omega) h2, nd_7 (by omega) h2, fun h => fmt87_7 (by omega) h2 h⟩
/-- a row of bytes of the call's own has grown -/
theorem gb_of_moved0 {w w1 : World} {v v' : Value} (hm : Moved w w1 v v') : GB w w1 v v' := by
  have f := hm.frm
  exact ⟨f.os, f.tape, f.output, f.size, fun k hk hn => f.block k hk hn, fun k hk => (f.own k hk).imp id (fun e => by omega)⟩
theorem GB.pre {w w1 : World} {o : Obj} {v v' : Value} (h : GB (w.alloc o) w1 v v') : GB w w1 v v' :=
  ⟨h.os, h.tape, h.output, by have := h.size; simp at this; omega, fun k hk hn => (h.block k (by simp; omega) hn).trans (heap_alloc_old w o hk), fun k hk => by
    rcases h.own k hk with e | e
    · exact .inl e
    · right; simp at e; omega⟩
theorem GB.preFQ {w w1 w2 : World} {g : Nat} {v v' : Value} (hf : FQ w w1 g) (h : GB w1 w2 v v') (hn : ∀ k, k < w.heap.size → v.ownBlock ≠ some k → k ≠ g) : ∀ k, k < w.heap.size → v.ownBlock ≠ some k → w2.heap[k]? = w.heap[k]? :=
  fun k hk hv => (h.block k (by rw [hf.size]; exact hk) hv).trans (hf.block k (hn k hk hv))
set_option maxRecDepth 100000 in
set_option maxHeartbeats 4000000 in
theorem uint82g {k base : Nat} (hk : 100 ≤ k) (hk2 : k < 10000000) {w : World} {xs : List Nat} {v : Value} (hG : G10 w) (h2 : 2 ≤ w.heap.size) (ho : w.ownsRow base 5 1 v xs.length (U8 xs)) (hb : base ≤ w.heap.size) (hS : xs.length + 10 ≤ 1099511627776) :
    Calls Tryd.prog 82 #[v, .int .u64 (k : Int), .int .i64 10] w fun e w' => ∃ v' ln, e = .returned v' ∧ (xs ++ dec k).length = ln ∧ w'.ownsRow base 5 1 v' ln (U8 (xs ++ dec k)) ∧ GB w w' v v' := by
  obtain ⟨za, zc, rfl, -, -⟩ := row_shape ho
  have b1 : decide ((k : Int) < 100) = false := by simp; omega
  have b2 : ¬ (k : Int) < 100 := by omega
  obtain ⟨g, hg⟩ : ∃ g, g = w.heap.size := ⟨_, rfl⟩
  obtain ⟨d, d3, d7, hd, hd2, C87⟩ := fmt87 (g := g) hk hk2
  obtain ⟨W, hW⟩ : ∃ W, W = w.alloc (.cells Z24 117) := ⟨_, rfl⟩
  have C86 := nd86 (k := k) (by omega) (by omega) (w := W) (fun i hi => by
    rw [hW]
    exact (cell_eq (heap_alloc_old w _ (show 1 < w.heap.size by omega)) _).trans (hG i hi))
  rw [hd2] at C86
  have hgW : W.heap[g]? = some (.cells Z24 117 (0, 0)) := by rw [hW, hg]; exact heap_alloc_new w _
  have D87 := C87 hgW
  have HD := hid hd
  have HO : Hid (W.ownsRow base 5 1 (.slice za xs.length zc) xs.length (U8 xs)) := by rw [hW]; exact ho.alloc _
  have HL := hid ho.lt
  have HGE := hid hg
  have HW := hid hW
  have HGW := hid hgW
  obtain ⟨xn, hxn⟩ : ∃ xn, xs.length = xn := ⟨_, rfl⟩
  have HXN := hid hxn
  rw [hxn] at hS HO HL ⊢
  clear hG ho hd hd2 C87 hgW hxn
  obtain ⟨i0, hi0, hz0, hz1, hz2⟩ := info_parts info5
  go_enter Tryd.func82, Tryd.ntmps82
  go_upto_region 5 with fail
  rw [← HGE.out]
  rw [show w.alloc (.cells #[.int .u8 0, .int .u8 0, .int .u8 0, .int .u8 0, .int .u8 0, .int .u8 0, .int .u8 0, .int .u8 0, .int .u8 0, .int .u8 0, .int .u8 0, .int .u8 0, .int .u8 0, .int .u8 0, .int .u8 0, .int .u8 0, .int .u8 0, .int .u8 0, .int .u8 0, .int .u8 0, .int .u8 0, .int .u8 0, .int .u8 0, .int .u8 0] 117) = W from HW.out.symm]
  clear hW hg
  have dd1 : (0 : Int) ≤ (d : Int) := by omega
  have dd2 : (d : Int) ≤ 24 := by omega
  go_upto_region 7 with (first | (go_at_call 86; (with_reducible refine C86.mono ?_); rintro e w1 ⟨rfl, h⟩; obtain rfl := h.symm) | (go_at_call 87; (with_reducible refine D87.mono ?_); rintro e w2 ⟨rfl, hf, hba⟩; have HF := hid hf; have HBA := hid hba; clear hf hba D87 C86))
  have hne : (Value.slice za xn zc).ownBlock ≠ some g := own_ne HO.out HGW.out (by decide)
  have HO2 : Hid (w2.ownsRow base 5 1 (.slice za xn zc) xn (U8 xs)) := row_kept HO.out (fun b hb' => HF.out.block b (fun e => hne (e ▸ hb')))
  have HC : Hid (∀ j u, (U8 (dec k))[j]? = some u → w2.cell? ((⟨g, 0, none⟩ : Addr).add j) = some u) := by
    intro j u hj
    rcases HBA.out with h0 | ⟨b, o, e, _, hc⟩
    · rw [h0] at hj; simp [U8] at hj
    · simp only [Option.some.injEq, Addr.mk.injEq, and_true] at e
      obtain ⟨rfl, rfl⟩ := e
      obtain ⟨hj1, hj2⟩ := List.getElem?_eq_some_iff.1 hj
      have hj3 : j < (dec k).length := by simpa [U8] using hj1
      have := hc j hj3
      rw [Addr.add_mid, this, ← hj2]
      simp [U8]
  have hs2 : w2.heap.size = w.heap.size + 1 := by rw [HF.out.size, HW.out]; simp
  go_wp2_with (at_builtin; refine wpList_append_moveN rfl (.tmp 24) (.tmp 26) 36 rfl base 5 i0 (.int .u8 0) 1 1 Tryd.underlying36 hi0 hz0 hz1 hz2 rfl (by decide) _ xn (U8 xs) rfl HO2.out ⟨g, 0, none⟩ d 24 _ rfl (by rw [U8_len, HD.out]; omega) (by omega) HC.out (by intro u hu; simp only [U8, List.mem_map] at hu; obtain ⟨y, _, rfl⟩ := hu; rfl) (by unfold maxLen; omega) (by omega) (by omega) ?_; intro v9 w9 ho9 hm9; obtain ⟨va, vc, rfl, _, _⟩ := row_shape ho9.out)
  all_goals go_ret
  have hl : (xs ++ dec k).length = xn + d := by rw [List.length_append, HXN.out, HD.out]
  have hgb := gb_of_moved0 hm9.out
  refine ⟨_, _, rfl, rfl, ?_, ⟨hgb.os.trans (HF.out.os.trans (by rw [HW.out]; rfl)), hgb.tape.trans (HF.out.tape.trans (by rw [HW.out]; rfl)), hgb.output.trans (HF.out.output.trans (by rw [HW.out]; rfl)), by have := hgb.size; omega, fun b hb' hn => ?_, fun b hb' => ?_⟩⟩
  · rw [hl]
    have e : U8 (xs ++ dec k) = U8 xs ++ U8 (dec k) := by simp [U8]
    rw [e]; exact ho9.out
  · exact (hgb.block b (by omega) hn).trans ((HF.out.block b (by have := HGE.out; omega)).trans (by rw [HW.out]; exact heap_alloc_old w _ hb'))
  · rcases hgb.own b hb' with e | e
    · exact .inl e
    · exact .inr (by omega)
end Go.Proofs.YteanndophopplaaDoor
