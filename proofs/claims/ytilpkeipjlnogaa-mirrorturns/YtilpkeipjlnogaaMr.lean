/- HELPERS: Mirror. -/
import Derived.Test.YtilpkeipjlnogaaMo
import Derived.Test.YtilpkeipjlnogaaTk
namespace Go.Proofs.Ytilpkeipjlnogaa
open Go.RowKit Go.Lk
set_option linter.unusedVariables false
set_option linter.unusedSimpArgs false
theorem results_cell_tmp {P : Program} {fn : Func} {p u : Tmp} {ty : TypeId} (h : fn.results = #[.cell p ty, .tmp u]) (tmps : Array Value) (w : World) (g : Nat) (t : TypeId) (cs : Array Value) (fr : Nat × Nat) (d : TypeDesc)
    (hp : tmps.getD p undef = .pointer (some ⟨g, 0, none⟩)) (hg : w.heap[g]? = some (.cells cs t fr))
    (hu : P.underlying ty = some d) (hd : (match d with | .struct _ | .array _ _ => true | _ => false) = true) (hi : (P.info? ty).map (·.size) = some cs.size) :
    (results fn tmps).run P w = .ok (.tuple #[.agg cs, tmps.getD u undef]) w := by
  have hp' : tmps[p]?.getD undef = .pointer (some ⟨g, 0, none⟩) := by simpa using hp
  simp [results, h, hp', asAddr, run_loadVar_row w g t ty cs fr d hg hu hd hi]
abbrev NvZ : Nv := ⟨0, none, 0, 0, 0, none, 0, 0, 0, 0, false, 0, ⟨#[]⟩⟩
set_option maxRecDepth 100000 in
set_option maxHeartbeats 8000000 in
theorem mirror10_no {w : World} {N : Nv} {t : Tn} (h : TI w w.heap.size N t) (hs : t.sound = false) : Calls Try.prog 10 #[N.v] w fun e w' => e = .returned (.tuple #[NvZ.v, .int .i64 50]) ∧ Below w.heap.size w w' := by
  have HC : Calls Try.prog 26 #[N.v] ((w.alloc (.cells #[.int .i64 N.k, .slice N.r1 N.r2 N.r3, .int .i64 N.a2, .slice N.s1 N.s2 N.s3, .int .i64 N.a4, .int .i64 N.a5, .bool N.a6, .int .i64 N.a7, .string N.a8] 25)).alloc (.cells #[.int .i64 0, .slice none 0 0, .int .i64 0, .slice none 0 0, .int .i64 0, .int .i64 0, .bool false, .int .i64 0, .string ⟨#[]⟩] 25)) fun e w' => _ :=
    sound29g ((h.kept fun b hb => (heap_alloc_old _ _ (by simp; omega)).trans (heap_alloc_old w _ hb)).le (by simp; omega))
  rw [hs] at HC
  obtain ⟨k, r1, r2, r3, a2, s1, s2, s3, a4, a5, a6, a7, a8⟩ := N
  dsimp only at HC
  clear h hs
  simp only [Bool.false_eq_true, if_false] at HC
  go_enter Try.func10, Try.ntmps10
  go_wp2_with (first | (go_at_call 26; (with_reducible refine HC.mono ?_); rintro e w2 ⟨rfl, hb2⟩; have hY : BxZ w2 (w.heap.size + 1) := (hb2.block (w.heap.size + 1) (by simp)).trans (two_new w _ _ _); have f0 := Joins.unfrozen_of_block hY 0; have f1 := Joins.unfrozen_of_block hY 1; have f2 := Joins.unfrozen_of_block hY 2; have f3 := Joins.unfrozen_of_block hY 3; have f4 := Joins.unfrozen_of_block hY 4; have f5 := Joins.unfrozen_of_block hY 5; have f6 := Joins.unfrozen_of_block hY 6; have f7 := Joins.unfrozen_of_block hY 7; have f8 := Joins.unfrozen_of_block hY 8; obtain ⟨q0, q1, q2, q3, q4, q5, q6, q7, q8⟩ := nine' hY; have HYY := hid hY; have HB2 := hid hb2; clear hY hb2 HC))
  obtain ⟨y1, y2, y3, y4⟩ := nineSet w2 (w.heap.size + 1) (.int .i64 0) (.slice none 0 0) (.int .i64 0) (.slice none 0 0) (.int .i64 0) (.int .i64 0) (.bool false) (.int .i64 0) (.string ⟨#[]⟩) HYY.out
  have y4' := y4 ((below_two' w _ _).trans (Joins.below_le HB2.out (by simp; omega))) (by omega)
  refine bodyPost_ret (results_cell_tmp rfl _ _ (w.heap.size + 1) 25 _ (0, 0) _ rfl y1 Try.underlying25 rfl (by kernel_rfl)) rfl ?_
  exact ⟨rfl, y4'⟩
set_option maxRecDepth 100000 in
set_option maxHeartbeats 8000000 in
theorem mirror10_ok {w : World} {N : Nv} {t : Tn} (h : TI w w.heap.size N t) (hs : t.sound = true) : Calls Try.prog 10 #[N.v] w fun e w' => ∃ M A, e = .returned (.tuple #[Nv.v M, .int .i64 0]) ∧ TO w' M t.mir A ∧ (∀ b, A b → w.heap.size ≤ b) ∧ Below w.heap.size w w' := by
  have HC : Calls Try.prog 26 #[N.v] ((w.alloc (.cells #[.int .i64 N.k, .slice N.r1 N.r2 N.r3, .int .i64 N.a2, .slice N.s1 N.s2 N.s3, .int .i64 N.a4, .int .i64 N.a5, .bool N.a6, .int .i64 N.a7, .string N.a8] 25)).alloc (.cells #[.int .i64 0, .slice none 0 0, .int .i64 0, .slice none 0 0, .int .i64 0, .int .i64 0, .bool false, .int .i64 0, .string ⟨#[]⟩] 25)) fun e w' => _ :=
    sound29g ((h.kept fun b hb => (heap_alloc_old _ _ (by simp; omega)).trans (heap_alloc_old w _ hb)).le (by simp; omega))
  rw [hs] at HC
  simp only [Tn.sound, Bool.and_eq_true, decide_eq_true_eq] at hs
  have HM := mirror27 h hs.1.1 hs.2
  obtain ⟨k, r1, r2, r3, a2, s1, s2, s3, a4, a5, a6, a7, a8⟩ := N
  dsimp only at HC
  clear h hs
  simp only [if_true] at HC
  have HMM := hid HM
  clear HM
  go_enter Try.func10, Try.ntmps10
  go_wp2_with (first | (go_at_call 26; (with_reducible refine HC.mono ?_); rintro e w2 ⟨rfl, hb2⟩; have hX : BxN w2 w.heap.size ⟨k, r1, r2, r3, a2, s1, s2, s3, a4, a5, a6, a7, a8⟩ := (hb2.block w.heap.size (by simp; omega)).trans ((heap_alloc_old _ _ (by simp)).trans (heap_alloc_new w _)); obtain ⟨q0, q1, q2, q3, q4, q5, q6, q7, q8⟩ := nine' hX; have HB2 := hid hb2; have hsz2 : w.heap.size + 1 < w2.heap.size := (by have := hb2.size; simp at this; omega); have HC27 := HMM.out w2 (by omega) (fun b hb => (hb2.block b (by simp; omega)).trans ((heap_alloc_old _ _ (by simp; omega)).trans (heap_alloc_old w _ hb))); clear hX hb2 HC) | (go_at_call 27; (with_reducible refine HC27.mono ?_); rintro e w3 ⟨M, A, rfl, hM, hA, hb3⟩; clear q0 q1 q2 q3 q4 q5 q6 q7 q8; have hY : BxZ w3 (w.heap.size + 1) := (hb3.block (w.heap.size + 1) hsz2).trans ((HB2.out.block (w.heap.size + 1) (by simp)).trans (two_new w _ _ _)); have f0 := Joins.unfrozen_of_block hY 0; have f1 := Joins.unfrozen_of_block hY 1; have f2 := Joins.unfrozen_of_block hY 2; have f3 := Joins.unfrozen_of_block hY 3; have f4 := Joins.unfrozen_of_block hY 4; have f5 := Joins.unfrozen_of_block hY 5; have f6 := Joins.unfrozen_of_block hY 6; have f7 := Joins.unfrozen_of_block hY 7; have f8 := Joins.unfrozen_of_block hY 8; obtain ⟨q0, q1, q2, q3, q4, q5, q6, q7, q8⟩ := nine' hY; have HYY := hid hY; have HM := hid hM; have HA := hid hA; have HB3 := hid hb3; clear hY hM hA hb3 HC27))
  obtain ⟨y1, y2, y3, y4⟩ := nineSet w3 (w.heap.size + 1) (.int .i64 M.k) (.slice M.r1 M.r2 M.r3) (.int .i64 M.a2) (.slice M.s1 M.s2 M.s3) (.int .i64 M.a4) (.int .i64 M.a5) (.bool M.a6) (.int .i64 M.a7) (.string M.a8) HYY.out
  obtain ⟨Y, hY⟩ : ∃ Y, Y = ((((((((((((((((((w3).setCell ⟨w.heap.size + 1, 0, none⟩ (.int .i64 M.k))).setCell ⟨w.heap.size + 1, 1, none⟩ (.slice M.r1 M.r2 M.r3))).setCell ⟨w.heap.size + 1, 2, none⟩ (.int .i64 M.a2))).setCell ⟨w.heap.size + 1, 3, none⟩ (.slice M.s1 M.s2 M.s3))).setCell ⟨w.heap.size + 1, 4, none⟩ (.int .i64 M.a4))).setCell ⟨w.heap.size + 1, 5, none⟩ (.int .i64 M.a5))).setCell ⟨w.heap.size + 1, 6, none⟩ (.bool M.a6))).setCell ⟨w.heap.size + 1, 7, none⟩ (.int .i64 M.a7))).setCell ⟨w.heap.size + 1, 8, none⟩ (.string M.a8)) := ⟨_, rfl⟩
  rw [← hY] at y1 y2 y3 y4
  have y4' := y4 (((below_two' w _ _).trans (Joins.below_le HB2.out (by simp; omega))).trans (Joins.below_le HB3.out (by omega))) (by omega)
  rw [← hY]
  refine bodyPost_ret (results_cell_tmp rfl _ _ (w.heap.size + 1) 25 _ (0, 0) _ rfl y1 Try.underlying25 rfl (by kernel_rfl)) rfl ?_
  exact ⟨M, A, rfl, HM.out.kept (fun b hb => y2 b (by have := HA.out b hb; omega)), fun b hb => by have := HA.out b hb; omega, y4'⟩
end Go.Proofs.Ytilpkeipjlnogaa
