/- HELPERS: a program that was read, if it may be. -/
import Derived.Test.YteanndophopplaaDoorGh
namespace Go.Proofs.YteanndophopplaaDoor
open Go.RowKit
set_option linter.unusedVariables false
set_option linter.unusedSimpArgs false
set_option maxRecDepth 100000 in
set_option maxHeartbeats 4000000 in
theorem mayBe53 {w : World} {ad : Option Addr} {n c : Nat} {l : List In} {s k : Int} (h : PI w w.heap.size ad n l) :
    Calls Tryd.prog 53 #[pv ad n c s k] w fun e w' => Below w.heap.size w w' ∧ ((mayB l s k = false ∧ e = Broke) ∨ (mayB l s k = true ∧ e = .returned (pv ad n c s k))) := by
  obtain ⟨U, hU⟩ : ∃ U, U = (w.alloc (.cells #[.slice ad n c, .int .i64 s, .int .i64 k] 24)).alloc (.cells #[.slice none 0 0, .int .i64 0, .int .i64 0] 24) := ⟨_, rfl⟩
  have hb0 : Below w.heap.size w U := by rw [hU]; exact Joins.below_alloc2 w _ _
  have g0 : B3 U w.heap.size (.slice ad n c) (.int .i64 s) (.int .i64 k) := by rw [hU]; exact (heap_alloc_old _ _ (by simp)).trans (heap_alloc_new w _)
  have g1 : B3 U (w.heap.size + 1) (.slice none 0 0) (.int .i64 0) (.int .i64 0) := by
    rw [hU]
    have := heap_alloc_new (w.alloc (.cells #[.slice ad n c, .int .i64 s, .int .i64 k] 24)) (.cells #[.slice none 0 0, .int .i64 0, .int .i64 0] 24)
    rw [show (w.alloc (.cells #[.slice ad n c, .int .i64 s, .int .i64 k] 24)).heap.size = w.heap.size + 1 by simp] at this
    exact this
  have C37 := check10 (c := c) (s := s) (k := k) (h.kept hb0 hb0.size)
  have HB0 := hid hb0
  have HG0 := hid g0
  have HG1 := hid g1
  have l0 : w.heap.size < U.heap.size := (Array.getElem?_eq_some_iff.1 g0).1
  have l1 : w.heap.size + 1 < U.heap.size := (Array.getElem?_eq_some_iff.1 g1).1
  have HU := hid hU
  obtain ⟨c0, c1, c2⟩ := three_cells g0
  cases hm : mayB l s k with
  | false =>
    rw [hm] at C37
    clear g0 g1 hb0 h hU
    go_enter Tryd.func53, Tryd.ntmps53
    go_upto_region 1 with fail
    rw [← HU.out]
    go_wp2_with (go_at_call 37; (with_reducible refine C37.mono ?_); rintro e w2 ⟨rfl, hb2⟩; have HB2 := hid hb2; clear hb2 C37)
    exact ⟨rfl, HB0.out.trans (Joins.below_le HB2.out HB0.out.size), .inl ⟨trivial, rfl⟩⟩
  | true =>
    rw [hm] at C37
    clear g0 g1 hb0 h hU
    go_enter Tryd.func53, Tryd.ntmps53
    go_upto_region 1 with fail
    rw [← HU.out]
    go_wp2_with (go_at_call 37; (with_reducible refine C37.mono ?_); rintro e w2 ⟨rfl, hb2⟩; have HB2 := hid hb2; have e0 : B3 w2 w.heap.size (.slice ad n c) (.int .i64 s) (.int .i64 k) := (hb2.block _ l0).trans HG0.out; have e1 : B3 w2 (w.heap.size + 1) (.slice none 0 0) (.int .i64 0) (.int .i64 0) := (hb2.block _ l1).trans HG1.out; obtain ⟨d0, d1, d2⟩ := three_cells e0; obtain ⟨q0, q1, q2⟩ := three_cells e1; obtain ⟨f0, f1, f2⟩ := frz3 e1; have E1 := hid e1; clear hb2 C37 e0 e1)
    refine bodyPost_ret (results_cell_row rfl _ _ (w.heap.size + 1) 24 _ (0, 0) _ rfl (all3 E1.out _ _ _) Tryd.underlying24 rfl (by kernel_rfl)) rfl ?_
    refine ⟨?_, .inr ⟨trivial, rfl⟩⟩
    have hB : Below w.heap.size w w2 := HB0.out.trans (Joins.below_le HB2.out HB0.out.size)
    exact ((hB.setCell (by simp) _).setCell (by simp) _).setCell (by simp) _
end Go.Proofs.YteanndophopplaaDoor
