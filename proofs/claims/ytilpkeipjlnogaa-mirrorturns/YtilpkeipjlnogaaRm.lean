/- HELPERS: the document's Mirror; both Mirrors of any tree. -/
import Derived.Test.YtilpkeipjlnogaaMr
import Derived.Test.YtilpkeipjlnogaaCo
import Derived.Test.YtilpkeipjlnogaaTw
import Derived.Test.YtilpkeipjlnogaaLs
namespace Go.Proofs.Ytilpkeipjlnogaa
open Go.RowKit Go.Lk
set_option linter.unusedVariables false
set_option linter.unusedSimpArgs false
set_option maxRecDepth 100000 in
set_option maxHeartbeats 8000000 in
theorem rmirror11_no {w : World} {N : Nv} {t : Tn} (h : TI w w.heap.size N t) (hs : t.sound = false) : Calls Try.prog 11 #[N.v] w fun e w' => e = .returned (.tuple #[NvZ.v, .int .i64 50]) ∧ Below w.heap.size w w' := by
  have HC : Calls Try.prog 22 #[N.v] ((w.alloc (.cells #[.int .i64 N.k, .slice N.r1 N.r2 N.r3, .int .i64 N.a2, .slice N.s1 N.s2 N.s3, .int .i64 N.a4, .int .i64 N.a5, .bool N.a6, .int .i64 N.a7, .string N.a8] 25)).alloc (.cells #[.int .i64 0, .slice none 0 0, .int .i64 0, .slice none 0 0, .int .i64 0, .int .i64 0, .bool false, .int .i64 0, .string ⟨#[]⟩] 25)) fun e w' => _ :=
    sound25 ((h.kept fun b hb => (heap_alloc_old _ _ (by simp; omega)).trans (heap_alloc_old w _ hb)).le (by simp; omega))
  rw [hs] at HC
  obtain ⟨k, r1, r2, r3, a2, s1, s2, s3, a4, a5, a6, a7, a8⟩ := N
  dsimp only at HC
  clear h hs
  simp only [Bool.false_eq_true, if_false] at HC
  go_enter Try.func11, Try.ntmps11
  go_wp2_with (first | (go_at_call 22; (with_reducible refine HC.mono ?_); rintro e w2 ⟨rfl, hb2⟩; have hY : BxZ w2 (w.heap.size + 1) := (hb2.block (w.heap.size + 1) (by simp)).trans (two_new w _ _ _); have f0 := Joins.unfrozen_of_block hY 0; have f1 := Joins.unfrozen_of_block hY 1; have f2 := Joins.unfrozen_of_block hY 2; have f3 := Joins.unfrozen_of_block hY 3; have f4 := Joins.unfrozen_of_block hY 4; have f5 := Joins.unfrozen_of_block hY 5; have f6 := Joins.unfrozen_of_block hY 6; have f7 := Joins.unfrozen_of_block hY 7; have f8 := Joins.unfrozen_of_block hY 8; obtain ⟨q0, q1, q2, q3, q4, q5, q6, q7, q8⟩ := nine' hY; have HYY := hid hY; have HB2 := hid hb2; clear hY hb2 HC))
  obtain ⟨y1, y2, y3, y4⟩ := nineSet w2 (w.heap.size + 1) (.int .i64 0) (.slice none 0 0) (.int .i64 0) (.slice none 0 0) (.int .i64 0) (.int .i64 0) (.bool false) (.int .i64 0) (.string ⟨#[]⟩) HYY.out
  have y4' := y4 ((below_two' w _ _).trans (Joins.below_le HB2.out (by simp; omega))) (by omega)
  refine bodyPost_ret (results_cell_tmp rfl _ _ (w.heap.size + 1) 25 _ (0, 0) _ rfl y1 Try.underlying25 rfl (by kernel_rfl)) rfl ?_
  exact ⟨rfl, y4'⟩
set_option maxRecDepth 100000 in
set_option maxHeartbeats 8000000 in
theorem rmirror11_ok {w : World} {N : Nv} {t : Tn} (h : TI w w.heap.size N t) (hs : t.sound = true) : Calls Try.prog 11 #[N.v] w fun e w' => ∃ M, e = .returned (.tuple #[Nv.v M, .int .i64 0]) ∧ TP w' (fun b => w.heap.size ≤ b ∧ b < w'.heap.size) M t.mir ∧ Below w.heap.size w w' := by
  have HC : Calls Try.prog 22 #[N.v] ((w.alloc (.cells #[.int .i64 N.k, .slice N.r1 N.r2 N.r3, .int .i64 N.a2, .slice N.s1 N.s2 N.s3, .int .i64 N.a4, .int .i64 N.a5, .bool N.a6, .int .i64 N.a7, .string N.a8] 25)).alloc (.cells #[.int .i64 0, .slice none 0 0, .int .i64 0, .slice none 0 0, .int .i64 0, .int .i64 0, .bool false, .int .i64 0, .string ⟨#[]⟩] 25)) fun e w' => _ :=
    sound25 ((h.kept fun b hb => (heap_alloc_old _ _ (by simp; omega)).trans (heap_alloc_old w _ hb)).le (by simp; omega))
  rw [hs] at HC
  simp only [Tn.sound, Bool.and_eq_true, decide_eq_true_eq] at hs
  have HM := rturned28 h hs.1.1 hs.2
  obtain ⟨k, r1, r2, r3, a2, s1, s2, s3, a4, a5, a6, a7, a8⟩ := N
  dsimp only at HC
  clear h hs
  simp only [if_true] at HC
  have HMM := hid HM
  clear HM
  go_enter Try.func11, Try.ntmps11
  go_wp2_with (first | (go_at_call 22; (with_reducible refine HC.mono ?_); rintro e w2 ⟨rfl, hb2⟩; have hX : BxN w2 w.heap.size ⟨k, r1, r2, r3, a2, s1, s2, s3, a4, a5, a6, a7, a8⟩ := (hb2.block w.heap.size (by simp; omega)).trans ((heap_alloc_old _ _ (by simp)).trans (heap_alloc_new w _)); obtain ⟨q0, q1, q2, q3, q4, q5, q6, q7, q8⟩ := nine' hX; have HB2 := hid hb2; have hsz2 : w.heap.size + 1 < w2.heap.size := (by have := hb2.size; simp at this; omega); have HC27 := HMM.out w2 (by omega) (fun b hb => (hb2.block b (by simp; omega)).trans ((heap_alloc_old _ _ (by simp; omega)).trans (heap_alloc_old w _ hb))); clear hX hb2 HC) | (go_at_call 28; (with_reducible refine HC27.mono ?_); rintro e w3 ⟨M, rfl, hM, hb3⟩; clear q0 q1 q2 q3 q4 q5 q6 q7 q8; have hY : BxZ w3 (w.heap.size + 1) := (hb3.block (w.heap.size + 1) hsz2).trans ((HB2.out.block (w.heap.size + 1) (by simp)).trans (two_new w _ _ _)); have f0 := Joins.unfrozen_of_block hY 0; have f1 := Joins.unfrozen_of_block hY 1; have f2 := Joins.unfrozen_of_block hY 2; have f3 := Joins.unfrozen_of_block hY 3; have f4 := Joins.unfrozen_of_block hY 4; have f5 := Joins.unfrozen_of_block hY 5; have f6 := Joins.unfrozen_of_block hY 6; have f7 := Joins.unfrozen_of_block hY 7; have f8 := Joins.unfrozen_of_block hY 8; obtain ⟨q0, q1, q2, q3, q4, q5, q6, q7, q8⟩ := nine' hY; have HYY := hid hY; have HM := hid hM; have HB3 := hid hb3; clear hY hM hb3 HC27))
  obtain ⟨y1, y2, y3, y4⟩ := nineSet w3 (w.heap.size + 1) (.int .i64 M.k) (.slice M.r1 M.r2 M.r3) (.int .i64 M.a2) (.slice M.s1 M.s2 M.s3) (.int .i64 M.a4) (.int .i64 M.a5) (.bool M.a6) (.int .i64 M.a7) (.string M.a8) HYY.out
  obtain ⟨Y, hY⟩ : ∃ Y, Y = ((((((((((((((((((w3).setCell ⟨w.heap.size + 1, 0, none⟩ (.int .i64 M.k))).setCell ⟨w.heap.size + 1, 1, none⟩ (.slice M.r1 M.r2 M.r3))).setCell ⟨w.heap.size + 1, 2, none⟩ (.int .i64 M.a2))).setCell ⟨w.heap.size + 1, 3, none⟩ (.slice M.s1 M.s2 M.s3))).setCell ⟨w.heap.size + 1, 4, none⟩ (.int .i64 M.a4))).setCell ⟨w.heap.size + 1, 5, none⟩ (.int .i64 M.a5))).setCell ⟨w.heap.size + 1, 6, none⟩ (.bool M.a6))).setCell ⟨w.heap.size + 1, 7, none⟩ (.int .i64 M.a7))).setCell ⟨w.heap.size + 1, 8, none⟩ (.string M.a8)) := ⟨_, rfl⟩
  rw [← hY] at y1 y2 y3 y4
  have y4' := y4 (((below_two' w _ _).trans (Joins.below_le HB2.out (by simp; omega))).trans (Joins.below_le HB3.out (by omega))) (by omega)
  rw [← hY]
  refine bodyPost_ret (results_cell_tmp rfl _ _ (w.heap.size + 1) 25 _ (0, 0) _ rfl y1 Try.underlying25 rfl (by kernel_rfl)) rfl ?_
  exact ⟨M, rfl, HM.out.kept (fun b hb => y2 b (by omega)) (fun b hb => ⟨by omega, by rw [y3]; omega⟩), y4'⟩
/-- the tree that is answered beside an error -/
abbrev zT : Tn := .mk 0 [] 0 [] 0 0 false 0 ⟨#[]⟩
def Tn.mirx (t : Tn) : Tn := if t.sound then t.mir else zT
def Tn.code (t : Tn) : Int := if t.sound then 0 else 50
theorem NvZ_ok : Nv.ok NvZ := ⟨by decide, by decide, by decide, by decide, by decide, by decide, by decide, by decide⟩
theorem to_z (w : World) : ∃ A, TO w NvZ zT A ∧ ∀ b, ¬ A b := ⟨_, .mk (N := NvZ) (R := []) (ts := []) (ND := fun _ => default) (AS := fun _ _ => False) NvZ_ok (fun x hx => by cases hx) ⟨rfl, .inl ⟨rfl, rfl⟩⟩ ⟨rfl, .inl ⟨rfl, rfl⟩⟩ (fun i hi => absurd hi (by simp)) (fun i j b hi => absurd hi (by simp)) (fun b hb => by cases hb) (fun i b hi => absurd hi (by simp)), fun b hb => by
  rcases hb with h | h | ⟨i, hi, _⟩
  · cases h
  · cases h
  · simp at hi⟩
theorem mirx_in (t : Tn) : t.mirx.nodes ≤ 200000 ∧ t.mirx.few = true := by
  unfold Tn.mirx
  cases hs : t.sound with
  | false => simp only [Bool.false_eq_true, if_false]; exact ⟨by decide, by decide⟩
  | true =>
    have h1 := Tn.mir_sound hs
    simp only [if_true]
    exact ⟨(sound_in h1).2, few_of_fine _ (sound_in h1).1⟩
theorem mirror10 {w : World} {N : Nv} {t : Tn} (h : TI w w.heap.size N t) : Calls Try.prog 10 #[N.v] w fun e w' => ∃ M A, e = .returned (.tuple #[Nv.v M, .int .i64 t.code]) ∧ TO w' M t.mirx A ∧ (∀ b, A b → w.heap.size ≤ b) ∧ Below w.heap.size w w' := by
  cases hs : t.sound with
  | false =>
    refine (mirror10_no h hs).mono ?_
    rintro e w' ⟨rfl, hb⟩
    obtain ⟨A, h1, h2⟩ := to_z w'
    exact ⟨NvZ, A, by simp [Tn.code, hs], by simp [Tn.mirx, hs]; exact h1, fun b hb => absurd hb (h2 b), hb⟩
  | true =>
    refine (mirror10_ok h hs).mono ?_
    rintro e w' ⟨M, A, rfl, hM, hA, hb⟩
    exact ⟨M, A, by simp [Tn.code, hs], by simp [Tn.mirx, hs]; exact hM, hA, hb⟩
theorem rmirror11 {w : World} {N : Nv} {t : Tn} (h : TI w w.heap.size N t) : Calls Try.prog 11 #[N.v] w fun e w' => ∃ M, e = .returned (.tuple #[Nv.v M, .int .i64 t.code]) ∧ TI w' w'.heap.size M t.mirx ∧ Below w.heap.size w w' := by
  cases hs : t.sound with
  | false =>
    refine (rmirror11_no h hs).mono ?_
    rintro e w' ⟨rfl, hb⟩
    obtain ⟨A, h1, h2⟩ := to_z w'
    exact ⟨NvZ, by simp [Tn.code, hs], by simp [Tn.mirx, hs]; exact h1.ti, hb⟩
  | true =>
    refine (rmirror11_ok h hs).mono ?_
    rintro e w' ⟨M, rfl, hM, hb⟩
    exact ⟨M, by simp [Tn.code, hs], by simp [Tn.mirx, hs]; exact hM.ti (fun b hb => hb.2), hb⟩
end Go.Proofs.Ytilpkeipjlnogaa
