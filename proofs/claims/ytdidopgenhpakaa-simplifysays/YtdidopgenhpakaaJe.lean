/- HELPERS: the document's Size of a tree. -/
import Derived.Test.YtdidopgenhpakaaJd
import Derived.Test.YtdidopgenhpakaaGg
namespace Go.Proofs.Ytdidopgenhpakaa
open Go.RowKit
set_option linter.unusedVariables false
set_option linter.unusedSimpArgs false
set_option maxRecDepth 100000 in
set_option maxHeartbeats 4000000 in
theorem size35 {w : World} {N : Nv} {t : Tn} (h : TI w w.heap.size N t) : Calls Try.prog 35 #[N.v] w fun e w' => e = .returned (.int .i64 ((sizeT t : Nat) : Int)) ∧ Below w.heap.size w w' := by
  have hTI : TI (w.alloc (.cells #[.int .i64 N.k, .slice N.r1 N.r2 N.r3, .int .i64 N.a2, .slice N.s1 N.s2 N.s3, .int .i64 N.a4, .int .i64 N.a5, .bool N.a6, .int .i64 N.a7, .string N.a8] 25)) w.heap.size N t := h.kept fun b hb => heap_alloc_old w _ hb
  obtain ⟨W, hW⟩ : ∃ W, W = w.alloc (.cells #[.int .i64 N.k, .slice N.r1 N.r2 N.r3, .int .i64 N.a2, .slice N.s1 N.s2 N.s3, .int .i64 N.a4, .int .i64 N.a5, .bool N.a6, .int .i64 N.a7, .string N.a8] 25) := ⟨_, rfl⟩
  have hbW : Below w.heap.size w W := by rw [hW]; exact Joins.below_alloc1 w _
  have hsW : W.heap.size = w.heap.size + 1 := by rw [hW]; simp
  have hX : BN W w.heap.size N := by rw [hW]; exact heap_alloc_new w _
  rw [← hW] at hTI
  have HC := sound25 (hTI.le (by omega))
  obtain ⟨x, hx⟩ : ∃ x, x = w.heap.size := ⟨_, rfl⟩
  rw [← hx] at hX hsW
  obtain ⟨k, r1, r2, r3, a2, s1, s2, s3, a4, a5, a6, a7, a8⟩ := N
  obtain ⟨q0, q1, q2, q3, q4, q5, q6, q7, q8⟩ := nine' hX
  have HX := hid hX
  have HBW := hid hbW
  have HSW := hid hsW
  have HXE := hid hx
  have HTI := hid hTI
  dsimp only at HC hW q0 q1 q2 q3 q4 q5 q6 q7 q8
  by_cases hsd : t.sound = true
  · rw [hsd] at HC
    simp only [if_true] at HC
    have HSZ : Hid (sizeT t = capN t.S.nodes) := by unfold sizeT; rw [hsd]; rfl
    simp only [Tn.sound, Bool.and_eq_true, decide_eq_true_eq] at hsd
    have HFO := hid (reckon50 HTI.out hsd.1.1 (by omega))
    clear hX hbW hsW hTI h hsd
    go_enter Try.func35, Try.ntmps35
    go_upto_region 1 with fail
    rw [← hx, ← hW]
    clear hW hx
    obtain ⟨T, hT⟩ : ∃ T, T = sumOf 1099511627776 t.S := ⟨_, rfl⟩
    have HT := hid hT
    clear hT
    go_upto_region 3 with (first | (go_at_call 22; (with_reducible refine HC.mono ?_); rintro e w2 ⟨rfl, hb2⟩; have hX2 := (hb2.block x (by have := HSW.out; omega)).trans HX.out; clear q0 q1 q2 q3 q4 q5 q6 q7 q8; obtain ⟨q0, q1, q2, q3, q4, q5, q6, q7, q8⟩ := nine' hX2; have HC2 := HFO.out w2 (by have := HXE.out; have := HSW.out; have := hb2.size; omega) (fun c hc => hb2.block c (by have := HXE.out; have := HSW.out; omega)); rw [← HT.out] at HC2; have HB2 := hid hb2; clear hb2 hX2 HC))
    go_wp2_with (first | (go_at_call 50; (with_reducible refine HC2.mono ?_); rintro e w3 ⟨rfl, hb3⟩; have HB3 := hid hb3; clear hb3 HC2))
    all_goals go_ret
    all_goals
      rw [HSZ.out]
      refine ⟨?_, ?_⟩
      · exact congrArg (fun x : Int => Ending.returned (Value.int .i64 x)) (by rw [HT.out]; simp only [sumOf, capN]; omega)
      · exact ((HBW.out.trans (Joins.below_le HB2.out HBW.out.size)).trans (Joins.below_le HB3.out (Nat.le_trans HBW.out.size HB2.out.size))).alloc (by have := HBW.out.size; have := HB2.out.size; have := HB3.out.size; omega) _
  · have hsd' : t.sound = false := by simpa using hsd
    rw [hsd'] at HC
    simp only [Bool.false_eq_true, if_false] at HC
    have HSZ : Hid (sizeT t = 0) := by unfold sizeT; rw [hsd']; rfl
    clear hX hbW hsW hTI h hsd hsd'
    go_enter Try.func35, Try.ntmps35
    go_upto_region 1 with fail
    rw [← hx, ← hW]
    clear hW hx
    go_wp2_with (first | (go_at_call 22; (with_reducible refine HC.mono ?_); rintro e w4 ⟨rfl, hb4⟩; have HB4 := hid hb4; clear hb4 HC))
    all_goals go_ret
    all_goals
      rw [HSZ.out]
      exact ⟨rfl, HBW.out.trans (Joins.below_le HB4.out HBW.out.size)⟩
end Go.Proofs.Ytdidopgenhpakaa
