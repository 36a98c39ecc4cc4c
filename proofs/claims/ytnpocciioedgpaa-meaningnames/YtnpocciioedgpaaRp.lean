/- HELPERS: slices.Repeat of one number, four times. -/
import Derived.Test.YtnpocciioedgpaaWi
import Derived.LoopN
import Derived.Deep.OwnRows
import Derived.Laws.IdiomCopy
namespace Go.Proofs.Ytnpocciioedgpaa
open Go.RowKit
set_option linter.unusedVariables false
set_option linter.unusedSimpArgs false
set_option maxRecDepth 100000 in
set_option maxHeartbeats 2000000 in
theorem mul88 (w : World) : Calls Try.prog 88 #[.int .u64 1, .int .u64 4] w fun e w' => e = .returned (.tuple #[.int .u64 0, .int .u64 4]) ∧ w' = w := by
  go_enter Try.func88, Try.ntmps88
  go_wp2
  go_ret2
  exact ⟨rfl, rfl⟩
set_option maxRecDepth 100000 in
set_option maxHeartbeats 2000000 in
theorem mul63 (w : World) : Calls Try.prog 63 #[.int .u64 1, .int .u64 4] w fun e w' => e = .returned (.tuple #[.int .u64 0, .int .u64 4]) ∧ w' = w := by
  have HC := mul88
  go_enter Try.func63, Try.ntmps63
  go_wp2_with (go_at_call 88; (with_reducible refine (HC _).mono ?_); rintro e w' ⟨rfl, rfl⟩)
  go_ret2
  exact ⟨rfl, rfl⟩
theorem make4 (w : World) : (Instr.makeSlice 29 (.int .i64 4) (.int .i64 4)).run Try.prog w = .ok (.slice (some ⟨w.heap.size, 0, none⟩) 4 4) (w.alloc (.cells #[.int .i64 0, .int .i64 0, .int .i64 0, .int .i64 0] 3)) := by
  have h := run_make_row' (P := Try.prog) 29 3 (.int .i64 0) 8 Try.underlying29 info3 rfl .i64 .i64 4 (by decide) (by decide) w
  have e : madeCells #[.int .i64 0] 4 = #[.int .i64 0, .int .i64 0, .int .i64 0, .int .i64 0] := by
    unfold madeCells
    rw [show Array.range 4 = #[0, 1, 2, 3] from rfl]
    simp
  rw [e] at h
  exact h
theorem size3 : (Try.prog.info? 3).map (·.size) = some 1 := by kernel_rfl
abbrev M1 : Value := .int .i64 (-1)
theorem row4 {w : World} {b : Nat} {a0 a1 a2 a3 : Value} (h : w.heap[b]? = some (.cells #[a0, a1, a2, a3] 3 (0, 0))) : (w.cell? ⟨b, 0, none⟩ = some a0 ∧ w.cell? ⟨b, 1, none⟩ = some a1 ∧ w.cell? ⟨b, 2, none⟩ = some a2 ∧ w.cell? ⟨b, 3, none⟩ = some a3) ∧ ∀ j, w.frozen? ⟨b, j, none⟩ = false :=
  ⟨⟨Joins.cell_of_block h 0, Joins.cell_of_block h 1, Joins.cell_of_block h 2, Joins.cell_of_block h 3⟩, fun j => Joins.unfrozen_of_block h j⟩
theorem copy_one (W : World) (b o dl dc sc : Nat) (a : Addr) (hs : W.cell? (a.add 0) = some M1) (hd : (W.cell? ⟨b, o, none⟩).isSome = true) (hf : W.frozen? ⟨b, o, none⟩ = false) (hdl : 1 ≤ dl) :
    (Builtin.copy_ #[29, 29] 3 #[.slice (some ⟨b, o, none⟩) dl dc, .slice (some a) 1 sc]).run Try.prog W = .ok (.int .i64 1) (W.setCell ⟨b, o, none⟩ M1) := by
  have h := run_copy_cells (P := Try.prog) W 29 29 3 3 b o dl dc a 1 sc [M1] Try.underlying29 size3 (by simp [Nat.min_def]; omega) (by intro j v hj; match j, hj with | 0, hj => simp at hj; subst hj; exact hs) (by intro j hj; simp at hj; subst hj; exact hd) (by intro j hj; simp at hj; subst hj; exact hf) (by intro v hv; simp at hv; subst hv; rfl)
  exact h
theorem copy_two (W : World) (b o dc sc : Nat) (a : Addr) (hs : W.cell? (a.add 0) = some M1) (hs1 : W.cell? (a.add 1) = some M1) (hd : (W.cell? ⟨b, o, none⟩).isSome = true) (hd1 : (W.cell? ⟨b, o + 1, none⟩).isSome = true) (hf : W.frozen? ⟨b, o, none⟩ = false) (hf1 : W.frozen? ⟨b, o + 1, none⟩ = false) :
    (Builtin.copy_ #[29, 29] 3 #[.slice (some ⟨b, o, none⟩) 2 dc, .slice (some a) 2 sc]).run Try.prog W = .ok (.int .i64 2) ((W.setCell ⟨b, o, none⟩ M1).setCell ⟨b, o + 1, none⟩ M1) := by
  have h := run_copy_cells (P := Try.prog) W 29 29 3 3 b o 2 dc a 2 sc [M1, M1] Try.underlying29 size3 rfl (by intro j v hj; match j, hj with | 0, hj => simp at hj; subst hj; exact hs | 1, hj => simp at hj; subst hj; exact hs1) (by intro j hj; match j, hj with | 0, _ => exact hd | 1, _ => exact hd1) (by intro j hj; match j, hj with | 0, _ => exact hf | 1, _ => exact hf1) (by intro v hv; simp at hv; subst hv; rfl)
  exact h
set_option maxRecDepth 100000 in
set_option maxHeartbeats 2000000 in
theorem repeat51 (xb cap : Nat) (w : World) (hx : w.cell? ⟨xb, 0, none⟩ = some (.int .i64 (-1))) (hxl : xb < w.heap.size) :
    Calls Try.prog 51 #[.slice (some ⟨xb, 0, none⟩) 1 cap, .int .i64 4] w fun e w' => e = .returned (.slice (some ⟨w.heap.size, 0, none⟩) 4 4) ∧ Below w.heap.size w w' ∧ w'.heap[w.heap.size]? = some (.cells #[M1, M1, M1, M1] 3 (0, 0)) := by
  have HC := mul63 w
  have hmk := make4 w
  obtain ⟨nb, hnb⟩ : ∃ nb, nb = w.heap.size := ⟨_, rfl⟩
  obtain ⟨V0, hV0⟩ : ∃ V, V = w.alloc (.cells #[.int .i64 0, .int .i64 0, .int .i64 0, .int .i64 0] 3) := ⟨_, rfl⟩
  obtain ⟨V1, hV1⟩ : ∃ V, V = V0.setCell ⟨nb, 0, none⟩ M1 := ⟨_, rfl⟩
  obtain ⟨V2, hV2⟩ : ∃ V, V = V1.drew.setCell ⟨nb, 1, none⟩ M1 := ⟨_, rfl⟩
  obtain ⟨V3, hV3⟩ : ∃ V, V = (V2.drew.setCell ⟨nb, 2, none⟩ M1).setCell ⟨nb, 3, none⟩ M1 := ⟨_, rfl⟩
  have h0 : V0.heap[nb]? = some (.cells #[.int .i64 0, .int .i64 0, .int .i64 0, .int .i64 0] 3 (0, 0)) := by rw [hV0, hnb]; exact heap_alloc_new w _
  have h1 : V1.heap[nb]? = some (.cells #[M1, .int .i64 0, .int .i64 0, .int .i64 0] 3 (0, 0)) := by rw [hV1]; exact Joins.block_setCell (i := 0) h0 _
  have h2 : V2.heap[nb]? = some (.cells #[M1, M1, .int .i64 0, .int .i64 0] 3 (0, 0)) := by rw [hV2]; exact Joins.block_setCell (i := 1) (w := V1.drew) h1 _
  have h3 : V3.heap[nb]? = some (.cells #[M1, M1, M1, M1] 3 (0, 0)) := by rw [hV3]; exact Joins.block_setCell (i := 3) (Joins.block_setCell (i := 2) (w := V2.drew) h2 _) _
  have hB : Below w.heap.size w V3 := by
    rw [hV3, hV2, hV1, hV0]
    have hb0 := Joins.below_alloc1 w (.cells #[.int .i64 0, .int .i64 0, .int .i64 0, .int .i64 0] 3)
    exact ((((((hb0.setCell (by show w.heap.size ≤ nb; omega) _).drew).setCell (by show w.heap.size ≤ nb; omega) _).drew).setCell (by show w.heap.size ≤ nb; omega) _).setCell (by show w.heap.size ≤ nb; omega) _)
  have k1 : (Builtin.copy_ #[29, 29] 3 #[.slice (some ⟨nb, 0, none⟩) 4 4, .slice (some ⟨xb, 0, none⟩) 1 cap]).run Try.prog V0 = .ok (.int .i64 1) V1 := by
    rw [hV1]
    exact copy_one V0 nb 0 4 4 cap ⟨xb, 0, none⟩ (by rw [hV0]; exact (World.cell?_alloc_lt _ _ _ hxl).trans hx) (by rw [(row4 h0).1.1]; rfl) ((row4 h0).2 0) (by omega)
  have k2 : (Builtin.copy_ #[29, 29] 3 #[.slice (some ⟨nb, 1, none⟩) 3 3, .slice (some ⟨nb, 0, none⟩) 1 4]).run Try.prog V1.drew = .ok (.int .i64 1) V2 := by
    rw [hV2]
    exact copy_one V1.drew nb 1 3 3 4 ⟨nb, 0, none⟩ (row4 h1).1.1 (by rw [show V1.drew.cell? ⟨nb, 1, none⟩ = _ from (row4 h1).1.2.1]; rfl) ((row4 h1).2 1) (by omega)
  have k3 : (Builtin.copy_ #[29, 29] 3 #[.slice (some ⟨nb, 2, none⟩) 2 2, .slice (some ⟨nb, 0, none⟩) 2 4]).run Try.prog V2.drew = .ok (.int .i64 2) V3 := by
    rw [hV3]
    exact copy_two V2.drew nb 2 2 4 ⟨nb, 0, none⟩ (row4 h2).1.1 (row4 h2).1.2.1 (by rw [show V2.drew.cell? ⟨nb, 2, none⟩ = _ from (row4 h2).1.2.2.1]; rfl) (by rw [show V2.drew.cell? ⟨nb, 2 + 1, none⟩ = _ from (row4 h2).1.2.2.2]; rfl) ((row4 h2).2 2) ((row4 h2).2 3)
  rw [← hV0, ← hnb] at hmk
  rw [← hnb]
  have HB := hid hB
  have H3 := hid h3
  have HNB := hid hnb
  clear h0 h1 h2 h3 hB hV0 hV1 hV2 hV3 hnb hx
  go_enter Try.func51, Try.ntmps51
  go_wp2_with (go_at_call 63; (with_reducible refine HC.mono ?_); rintro e w' ⟨rfl, hw'⟩; rw [hw']; clear hw' HC)
  go_loopw [8] (fun x wq => (x = .int .i64 1 ∧ wq = V1) ∨ (x = .int .i64 2 ∧ wq = V2) ∨ (x = .int .i64 4 ∧ wq = V3)) (fun x _ => 4 - (intOf x).toNat)
  case atStart => exact .inl ⟨rfl, rfl⟩
  case round =>
    rcases hrel with ⟨rfl, rfl⟩ | ⟨rfl, rfl⟩ | ⟨rfl, rfl⟩
    · go_wp2_with fail
      go_region
      all_goals
        go_wp2
        exact ⟨by simp, by simp [intOf]⟩
    · go_wp2_with fail
      go_region
      all_goals
        go_wp2
        exact ⟨by simp, by simp [intOf]⟩
    · go_wp2
      go_ret
      refine ⟨rfl, ?_, H3.out⟩
      rw [HNB.out]
      exact HB.out
end Go.Proofs.Ytnpocciioedgpaa
