/- HELPERS: the document's side: may an instruction be. -/
import Derived.Test.YtnecakampgdhcaaCb
namespace Go.Proofs.Ytnecakampgdhcaa
open Go.RowKit
set_option linter.unusedVariables false
set_option linter.unusedSimpArgs false
theorem ok_1 (x y a : Int) (R : List (Int × Int)) (n caps : Int) : In.okB ⟨1, x, y, a, R⟩ n caps = (belowB x n && (y == 0) && (a == 0) && (decide (0 < R.length) && rightB R)) := by simp [In.okB, isTargetB, hasXB, hasYB, isArgB, isRangesB]
theorem ok_2 (x y a : Int) (R : List (Int × Int)) (n caps : Int) : In.okB ⟨2, x, y, a, R⟩ n caps = (belowB x n && belowB y n && (a == 0) && (R.length == 0)) := by simp [In.okB, isTargetB, hasXB, hasYB, isArgB, isRangesB]
theorem ok_3 (x y a : Int) (R : List (Int × Int)) (n caps : Int) : In.okB ⟨3, x, y, a, R⟩ n caps = (belowB x n && (y == 0) && belowB a caps && (R.length == 0)) := by simp [In.okB, isTargetB, hasXB, hasYB, isArgB, isRangesB]
theorem ok_4 (x y a : Int) (R : List (Int × Int)) (n caps : Int) : In.okB ⟨4, x, y, a, R⟩ n caps = (belowB x n && (y == 0) && assertB a && (R.length == 0)) := by simp [In.okB, isTargetB, hasXB, hasYB, isArgB, isRangesB]
theorem ok_5 (x y a : Int) (R : List (Int × Int)) (n caps : Int) : In.okB ⟨5, x, y, a, R⟩ n caps = ((x == 0) && (y == 0) && belowB a 100 && (R.length == 0)) := by simp [In.okB, isTargetB, hasXB, hasYB, isArgB, isRangesB]
theorem ok_6 (x y a : Int) (R : List (Int × Int)) (n caps : Int) : In.okB ⟨6, x, y, a, R⟩ n caps = ((x == 0) && (y == 0) && (a == 0) && (R.length == 0)) := by simp [In.okB, isTargetB, hasXB, hasYB, isArgB, isRangesB]
theorem ok_7 (x y a : Int) (R : List (Int × Int)) (n caps : Int) : In.okB ⟨7, x, y, a, R⟩ n caps = (belowB x n && (y == 0) && (a == 0) && (R.length == 0)) := by simp [In.okB, isTargetB, hasXB, hasYB, isArgB, isRangesB]
theorem ok_no (op x y a : Int) (R : List (Int × Int)) (n caps : Int) (h1 : op ≠ 1) (h2 : op ≠ 2) (h3 : op ≠ 3) (h4 : op ≠ 4) (h5 : op ≠ 5) (h6 : op ≠ 6) (h7 : op ≠ 7) : In.okB ⟨op, x, y, a, R⟩ n caps = false := by simp [In.okB, isArgB, h1, h2, h3, h4, h5, h6, h7]
set_option maxRecDepth 100000 in
set_option maxHeartbeats 8000000 in
theorem may23 (N : Iv) (R : List (Int × Int)) (n caps : Int) (w : World) (hn : N.r2 = R.length) (hS : N.r2 * 16 ≤ 140737488351232) (hl : RowAt w.heap.size w (.slice N.r1 N.r2 N.r3) R) :
    Calls Try.prog 23 #[N.v, .int .i64 n, .int .i64 caps] w fun e w' => e = .returned (.bool (In.okB ⟨N.op, N.x, N.y, N.a, R⟩ n caps)) ∧ Below w.heap.size w w' := by
  obtain ⟨op, x, y, a, r1, r2, r3⟩ := N
  dsimp only at hn hS hl ⊢
  obtain ⟨ok, hok⟩ : ∃ ok, ok = In.okB ⟨op, x, y, a, R⟩ n caps := ⟨_, rfl⟩
  rw [← hok]
  have HOK := hid' hok
  clear hok
  obtain ⟨U, hU⟩ : ∃ U, U = w.alloc (.cells #[.int .i64 op, .int .i64 x, .int .i64 y, .int .i64 a, .slice r1 r2 r3] 51) := ⟨_, rfl⟩
  have hb : Below w.heap.size w U := by rw [hU]; exact Joins.below_alloc1 w _
  have hX : U.heap[w.heap.size]? = some (.cells #[.int .i64 op, .int .i64 x, .int .i64 y, .int .i64 a, .slice r1 r2 r3] 51 (0, 0)) := by rw [hU]; exact heap_alloc_new w _
  obtain ⟨c0, c1, c2, c3, c4⟩ := five hX
  have HC := rright33 R r1 r2 r3 U hn.symm (by omega) (hl.below hb (Nat.le_refl _) hb.size)
  have HB := hid' hb
  have HX := hid' hX
  have hsz : w.heap.size < U.heap.size := (Array.getElem?_eq_some_iff.1 hX).1
  have HN := hid' hn
  clear hl hb hX hn
  obtain ⟨b, hbe⟩ : ∃ b, b = w.heap.size := ⟨_, rfl⟩
  obtain ⟨rt, hrt⟩ : ∃ rt, rt = rightB R := ⟨_, rfl⟩
  rw [← hrt] at HC
  go_enter Try.func23, Try.ntmps23
  go_upto_region 1 with fail
  rw [← hU, ← hbe]
  rw [← hbe] at c0 c1 c2 c3 c4 hsz HX HB
  have HBE := hid' hbe
  have HRT := hid' hrt
  clear hU hbe hrt
  go_upto_region 2 with (go_at_call 37; (with_reducible refine HC.mono ?_); rintro e w2 ⟨rfl, hb2⟩; have HB2 := hid' hb2; clear hb2 HC)
  clear c0 c1 c2 c3 c4
  obtain ⟨c0, c1, c2, c3, c4⟩ := five ((HB2.out.block b hsz).trans HX.out)
  have HF : Hid (Below b w w2) := HB.out.trans (Joins.below_le HB2.out (by omega))
  clear HB HB2 HX hsz
  have lift : ∀ (bb : Bool), bb = ok → Ending.returned (.bool bb) = .returned (.bool ok) ∧ Below w.heap.size w w2 := fun bb h => ⟨ret_bool h, by rw [← HBE.out]; exact HF.out⟩
  have LIFT := hid' lift
  clear lift HBE HF
  have hr2 : R.length = r2 := HN.out.symm
  have HR2 := hid' hr2
  clear hr2 HN
  by_cases h1 : op = 1
  · subst h1
    by_cases hz : r2 = 0
    · subst hz
      cases rt <;> go_wp2 <;> go_ret <;> refine LIFT.out _ ?_ <;> rw [HOK.out, ok_1, HR2.out] <;> simp
    · have b1 : decide ((r2 : Int) > 0) = true := by simp; omega
      have b2 : decide (0 < r2) = true := by simp; omega
      have b3 : 0 < r2 := by omega
      cases rt <;> go_wp2 <;> go_ret <;> refine LIFT.out _ ?_ <;> rw [HOK.out, ok_1, HR2.out, ← HRT.out, belowB] <;> simp [*] <;> (intros; omega)
  by_cases h2 : op = 2
  · subst h2
    clear HRT
    by_cases hz : r2 = 0
    · subst hz
      go_wp2 <;> go_ret <;> refine LIFT.out _ ?_ <;> rw [HOK.out, ok_2, HR2.out] <;> simp [*, belowB, assertB] <;> (intros; omega)
    · have b1 : ((r2 : Int) == 0) = false := by simp; omega
      have b2 : (r2 == 0) = false := by simp; omega
      go_wp2 <;> go_ret <;> refine LIFT.out _ ?_ <;> rw [HOK.out, ok_2, HR2.out, b2] <;> simp
  by_cases h3 : op = 3
  · subst h3
    clear HRT
    by_cases hz : r2 = 0
    · subst hz
      go_wp2 <;> go_ret <;> refine LIFT.out _ ?_ <;> rw [HOK.out, ok_3, HR2.out] <;> simp [*, belowB, assertB] <;> (intros; omega)
    · have b1 : ((r2 : Int) == 0) = false := by simp; omega
      have b2 : (r2 == 0) = false := by simp; omega
      go_wp2 <;> go_ret <;> refine LIFT.out _ ?_ <;> rw [HOK.out, ok_3, HR2.out, b2] <;> simp
  by_cases h4 : op = 4
  · subst h4
    clear HRT
    by_cases hz : r2 = 0
    · subst hz
      go_wp2 <;> go_ret <;> refine LIFT.out _ ?_ <;> rw [HOK.out, ok_4, HR2.out] <;> simp [*, belowB, assertB] <;> (intros; omega)
    · have b1 : ((r2 : Int) == 0) = false := by simp; omega
      have b2 : (r2 == 0) = false := by simp; omega
      go_wp2 <;> go_ret <;> refine LIFT.out _ ?_ <;> rw [HOK.out, ok_4, HR2.out, b2] <;> simp
  by_cases h5 : op = 5
  · subst h5
    clear HRT
    by_cases hz : r2 = 0
    · subst hz
      go_wp2 <;> go_ret <;> refine LIFT.out _ ?_ <;> rw [HOK.out, ok_5, HR2.out] <;> simp [*, belowB, assertB] <;> (intros; omega)
    · have b1 : ((r2 : Int) == 0) = false := by simp; omega
      have b2 : (r2 == 0) = false := by simp; omega
      go_wp2 <;> go_ret <;> refine LIFT.out _ ?_ <;> rw [HOK.out, ok_5, HR2.out, b2] <;> simp
  by_cases h6 : op = 6
  · subst h6
    clear HRT
    by_cases hz : r2 = 0
    · subst hz
      go_wp2 <;> go_ret <;> refine LIFT.out _ ?_ <;> rw [HOK.out, ok_6, HR2.out] <;> simp [*, belowB, assertB] <;> (intros; omega)
    · have b1 : ((r2 : Int) == 0) = false := by simp; omega
      have b2 : (r2 == 0) = false := by simp; omega
      go_wp2 <;> go_ret <;> refine LIFT.out _ ?_ <;> rw [HOK.out, ok_6, HR2.out, b2] <;> simp
  by_cases h7 : op = 7
  · subst h7
    clear HRT
    by_cases hz : r2 = 0
    · subst hz
      go_wp2 <;> go_ret <;> refine LIFT.out _ ?_ <;> rw [HOK.out, ok_7, HR2.out] <;> simp [*, belowB, assertB] <;> (intros; omega)
    · have b1 : ((r2 : Int) == 0) = false := by simp; omega
      have b2 : (r2 == 0) = false := by simp; omega
      go_wp2 <;> go_ret <;> refine LIFT.out _ ?_ <;> rw [HOK.out, ok_7, HR2.out, b2] <;> simp
  have e1 : (op == 1) = false := by simpa using h1
  have e2 : (op == 2) = false := by simpa using h2
  have e3 : (op == 3) = false := by simpa using h3
  have e4 : (op == 4) = false := by simpa using h4
  have e5 : (op == 5) = false := by simpa using h5
  have e6 : (op == 6) = false := by simpa using h6
  have e7 : (op == 7) = false := by simpa using h7
  have hno := ok_no op x y a R n caps h1 h2 h3 h4 h5 h6 h7
  have HNO := hid' hno
  clear hno h1 h2 h3 h4 h5 h6 h7
  go_wp2 <;> go_ret <;> exact LIFT.out _ (by rw [HOK.out]; exact HNO.out.symm)
end Go.Proofs.Ytnecakampgdhcaa
