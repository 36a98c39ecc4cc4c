/- HELPERS: an instruction in memory; may it be. -/
import Derived.Test.YteanndophopplaaDoorCa
import Derived.Test.YteanndophopplaaDoorTg
import Derived.Deep.RegionHeld3
import Derived.Deep.Cut
import Derived.Deep.CutRange
import Derived.Deep.QuietTactic
import Derived.BigQuiet
namespace Go.Proofs.YteanndophopplaaDoor
open Go.RowKit
set_option linter.unusedVariables false
set_option linter.unusedSimpArgs false
/-- an instruction's five cells -/
structure Iv where
  op : Int
  x : Int
  y : Int
  a : Int
  r1 : Option Addr
  r2 : Nat
  r3 : Nat
instance : Inhabited Iv := ⟨⟨0, 0, 0, 0, none, 0, 0⟩⟩
abbrev Iv.cs (N : Iv) : List Value := [.int .i64 N.op, .int .i64 N.x, .int .i64 N.y, .int .i64 N.a, .slice N.r1 N.r2 N.r3]
abbrev Iv.v (N : Iv) : Value := .agg #[.int .i64 N.op, .int .i64 N.x, .int .i64 N.y, .int .i64 N.a, .slice N.r1 N.r2 N.r3]
/-- an instruction -/
structure In where
  op : Int
  x : Int
  y : Int
  a : Int
  R : List (Int × Int)
instance : Inhabited In := ⟨⟨0, 0, 0, 0, []⟩⟩
def In.okB (I : In) (n caps : Int) : Bool := isTargetB I.x (hasXB I.op) n && isTargetB I.y (hasYB I.op) n && isArgB I.op I.a caps && isRangesB I.op I.R
abbrev BxI (w : World) (b : Nat) (N : Iv) : Prop := w.heap[b]? = some (.cells #[.int .i64 N.op, .int .i64 N.x, .int .i64 N.y, .int .i64 N.a, .slice N.r1 N.r2 N.r3] 49 (0, 0))
theorem five {w : World} {b : Nat} {v0 v1 v2 v3 v4 : Value} {t : TypeId} {fr : Nat × Nat} (h : w.heap[b]? = some (.cells #[v0, v1, v2, v3, v4] t fr)) : w.cell? ⟨b, 0, none⟩ = some v0 ∧ w.cell? ⟨b, 1, none⟩ = some v1 ∧ w.cell? ⟨b, 2, none⟩ = some v2 ∧ w.cell? ⟨b, 3, none⟩ = some v3 ∧ w.cell? ⟨b, 4, none⟩ = some v4 :=
  ⟨Joins.cell_of_block h 0, Joins.cell_of_block h 1, Joins.cell_of_block h 2, Joins.cell_of_block h 3, Joins.cell_of_block h 4⟩
set_option maxRecDepth 100000 in
set_option maxHeartbeats 4000000 in
theorem inst40 (N : Iv) (R : List (Int × Int)) (n caps : Int) (w : World) (hn : N.r2 = R.length) (hS : N.r2 * 16 ≤ 140737488351232) (hl : RowAt w.heap.size w (.slice N.r1 N.r2 N.r3) R) :
    Calls Tryd.prog 70 #[N.v, .int .i64 n, .int .i64 caps] w fun e w' => e = .returned (.bool (In.okB ⟨N.op, N.x, N.y, N.a, R⟩ n caps)) ∧ Below w.heap.size w w' := by
  obtain ⟨op, x, y, a, r1, r2, r3⟩ := N
  dsimp only at hn hS hl ⊢
  obtain ⟨U, hU⟩ : ∃ U, U = w.alloc (.cells #[.int .i64 op, .int .i64 x, .int .i64 y, .int .i64 a, .slice r1 r2 r3] 49) := ⟨_, rfl⟩
  have hb : Below w.heap.size w U := by rw [hU]; exact Joins.below_alloc1 w _
  have hX : U.heap[w.heap.size]? = some (.cells #[.int .i64 op, .int .i64 x, .int .i64 y, .int .i64 a, .slice r1 r2 r3] 49 (0, 0)) := by rw [hU]; exact heap_alloc_new w _
  obtain ⟨c0, c1, c2, c3, c4⟩ := five hX
  have HR : ∀ W, W.heap = U.heap → W.os = U.os → W.tape = U.tape → W.output = U.output → Calls Tryd.prog 78 #[.int .i64 op, .slice r1 r2 r3] W fun e w' => e = .returned (.bool (isRangesB op R)) ∧ Below U.heap.size U w' := by
    intro W e1 e2 e3 e4
    have hbW : Below U.heap.size U W := ⟨e2, e3, e4, by rw [e1]; exact Nat.le_refl _, fun k hk => by rw [e1]⟩
    have hbw : Below w.heap.size w W := hb.trans (Joins.below_le hbW hb.size)
    refine (ranges64 op R r1 r2 r3 W hn hS (hl.below hbw (Nat.le_refl _) hbw.size)).mono ?_
    rintro e w' ⟨h1, h2⟩
    exact ⟨h1, hbW.trans (Joins.below_le h2 hbW.size)⟩
  have HRR := hid' HR
  have HB := hid' hb
  have HX := hid' hX
  have hsz : w.heap.size < U.heap.size := (Array.getElem?_eq_some_iff.1 hX).1
  clear HR hn hS hl hb hX
  have T1 := fun W => target60 x (hasXB op) n W
  have T2 := fun W => target60 y (hasYB op) n W
  have T3 := fun W => arg63 op a caps W
  have X1 := fun W => hasX61 op W
  have X2 := fun W => hasY62 op W
  obtain ⟨b, hbe⟩ : ∃ b, b = w.heap.size := ⟨_, rfl⟩
  go_enter Tryd.func70, Tryd.ntmps70
  go_upto_region 1 with fail
  rw [← hU, ← hbe]
  rw [← hbe] at c0 c1 c2 c3 c4 hsz HX HB
  have HBE := hid' hbe
  clear hU hbe
  cases g1 : isTargetB x (hasXB op) n
  · simp only [g1] at T1
    go_quiet (first | (go_at_call 75; with_reducible refine Calls.quiet_of_same (X1 _)) | (go_at_call 74; first | (with_reducible refine Calls.quiet_of_same (T1 _)) | (with_reducible refine Calls.quiet_of_same (T2 _))) | (go_at_call 76; with_reducible refine Calls.quiet_of_same (X2 _)) | (go_at_call 77; with_reducible refine Calls.quiet_of_same (T3 _)))
    go_wp2
    all_goals go_ret
    all_goals refine ⟨ret_bool (by simp [In.okB, g1]), ?_⟩
    all_goals rw [← HBE.out]
    all_goals exact below_drewN' HB.out _
  · simp only [g1] at T1
    cases g2 : isTargetB y (hasYB op) n
    · simp only [g2] at T2
      go_quiet (first | (go_at_call 75; with_reducible refine Calls.quiet_of_same (X1 _)) | (go_at_call 74; first | (with_reducible refine Calls.quiet_of_same (T1 _)) | (with_reducible refine Calls.quiet_of_same (T2 _))) | (go_at_call 76; with_reducible refine Calls.quiet_of_same (X2 _)) | (go_at_call 77; with_reducible refine Calls.quiet_of_same (T3 _)))
      go_wp2
      all_goals go_ret
      all_goals refine ⟨ret_bool (by simp [In.okB, g1, g2]), ?_⟩
      all_goals rw [← HBE.out]
      all_goals exact below_drewN' HB.out _
    · simp only [g2] at T2
      cases g3 : isArgB op a caps
      · simp only [g3] at T3
        go_quiet (first | (go_at_call 75; with_reducible refine Calls.quiet_of_same (X1 _)) | (go_at_call 74; first | (with_reducible refine Calls.quiet_of_same (T1 _)) | (with_reducible refine Calls.quiet_of_same (T2 _))) | (go_at_call 76; with_reducible refine Calls.quiet_of_same (X2 _)) | (go_at_call 77; with_reducible refine Calls.quiet_of_same (T3 _)))
        go_wp2
        all_goals go_ret
        all_goals refine ⟨ret_bool (by simp [In.okB, g1, g2, g3]), ?_⟩
        all_goals rw [← HBE.out]
        all_goals exact below_drewN' HB.out _
      · simp only [g3] at T3
        go_region_held3 (fun W => W.cell? ⟨b, 0, none⟩ = some (.int .i64 op) ∧ W.cell? ⟨b, 1, none⟩ = some (.int .i64 x) ∧ W.cell? ⟨b, 2, none⟩ = some (.int .i64 y) ∧ W.cell? ⟨b, 3, none⟩ = some (.int .i64 a) ∧ W.cell? ⟨b, 4, none⟩ = some (.slice r1 r2 r3)) (first | (exact ⟨d0, d1, d2, d3, d4⟩) | (simp [*]; done)) (first | (go_at_call 75; (with_reducible refine (X1 _).mono ?_); rintro e w2 ⟨rfl, rfl⟩) | (go_at_call 74; (first | (with_reducible refine (T1 _).mono ?_) | (with_reducible refine (T2 _).mono ?_)); rintro e w2 ⟨rfl, rfl⟩) | (go_at_call 76; (with_reducible refine (X2 _).mono ?_); rintro e w2 ⟨rfl, rfl⟩) | (go_at_call 77; (with_reducible refine (T3 _).mono ?_); rintro e w2 ⟨rfl, rfl⟩) | (go_at_call 78; (with_reducible refine (HRR.out _ ?_ ?_ ?_ ?_).mono ?_); (rfl); (rfl); (rfl); (rfl); rintro e w2 ⟨rfl, hb2⟩; obtain ⟨d0, d1, d2, d3, d4⟩ := five ((hb2.block b hsz).trans HX.out); have HB2 := hid' hb2; clear hb2))
        all_goals go_wp2
        all_goals go_ret
        all_goals refine ⟨ret_bool (by simp [In.okB, g1, g2, g3]), ?_⟩
        all_goals rw [← HBE.out]
        all_goals first | exact HB.out.drew | exact HB.out | exact HB.out.trans (Joins.below_le HB2.out (by omega))
end Go.Proofs.YteanndophopplaaDoor
