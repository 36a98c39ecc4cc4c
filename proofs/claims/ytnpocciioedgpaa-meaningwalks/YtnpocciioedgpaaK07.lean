/- HELPERS: Mu, Ev, Ax, Rg, Rj, Rk, To, Tp. -/
import Derived.Test.YtnpocciioedgpaaK06
import Derived.Laws.Rows
/- HELPERS: the laws' own questions: would it be too much; may it be asked? -/
namespace Go.Proofs.Ytnpocciioedgpaa
open Go.RowKit
set_option linter.unusedVariables false
set_option linter.unusedSimpArgs false
/-- would the notes be more than the laws ask of? -/
def muchB (t : Tn) (tn : Nat) : Bool := decide (tn ≤ 64) && t.sound && decide (t.sz ≤ 2000) && decide (16777216 < (t.sz : Int) * ((tn : Int) + 1) * (2 * t.gi + 2))
/-- may it be asked? -/
def mayB (t : Tn) (tn : Nat) (at_ : Int) : Bool := decide (tn ≤ 64) && decide (0 ≤ at_ ∧ at_ ≤ (tn : Int)) && t.sound && decide (t.sz ≤ 2000)
theorem mul_bd {a b : Int} {A B : Int} (h1 : 0 ≤ a) (h2 : a ≤ A) (h3 : 0 ≤ b) (h4 : b ≤ B) : 0 ≤ a * b ∧ a * b ≤ A * B := ⟨Int.mul_nonneg h1 h3, Int.mul_le_mul h2 h4 h3 (by omega)⟩
set_option maxRecDepth 100000 in
set_option maxHeartbeats 4000000 in
theorem much11 (N : Nv) (t : Tn) (ad : Option Addr) (tn tcap : Nat) (w : World) (hTI : TI w w.heap.size N t) (htm : tn ≤ 35184372088832) :
    Calls Try.prog 11 #[N.v, .slice ad tn tcap] w fun e w' => e = .returned (.bool (muchB t tn)) ∧ Below w.heap.size w w' := by
  have hb0 : Below w.heap.size w (w.alloc (.cells #[.int .i64 N.k, .slice N.r1 N.r2 N.r3, .int .i64 N.a2, .slice N.s1 N.s2 N.s3, .int .i64 N.a4, .int .i64 N.a5, .bool N.a6, .int .i64 N.a7, .string N.a8] 28)) := Joins.below_alloc1 w _
  have HB0 := hid hb0
  by_cases c1 : 64 < tn
  · have e1 : muchB t tn = false := by unfold muchB; rw [decide_eq_false (by omega)]; rfl
    rw [e1]
    have b1 : decide ((tn : Int) > 64) = true := by simp; omega
    have b1' : decide (64 < (tn : Int)) = true := by simp; omega
    obtain ⟨k, r1, r2, r3, a2, s1, s2, s3, a4, a5, a6, a7, a8⟩ := N
    clear hTI e1 hb0
    go_enter Try.func11, Try.ntmps11
    go_wp2
    go_ret
    exact ⟨rfl, HB0.out⟩
  have b1 : decide ((tn : Int) > 64) = false := by simp; omega
  have b1' : decide (64 < (tn : Int)) = false := by simp; omega
  have hT1 : ∀ w1, Below w.heap.size w w1 → TI w1 w1.heap.size N t := fun w1 h => (hTI.kept fun b hb => h.block b hb).le h.size
  have H25 := sound25 (hT1 _ hb0)
  cases hs : t.sound with
  | false =>
    have e1 : muchB t tn = false := by unfold muchB; rw [hs]; simp
    rw [e1]
    rw [hs] at H25
    simp only [Bool.false_eq_true, if_false] at H25
    obtain ⟨k, r1, r2, r3, a2, s1, s2, s3, a4, a5, a6, a7, a8⟩ := N
    dsimp only at H25
    clear hTI e1 hb0 hT1 hs
    go_enter Try.func11, Try.ntmps11
    go_wp2_with (first | (go_at_call 25; (with_reducible refine H25.mono ?_); rintro e w1 ⟨rfl, hb1⟩; have HB1 := hid hb1; clear hb1 H25))
    go_ret
    exact ⟨rfl, HB0.out.trans (Joins.below_le HB1.out (by simp))⟩
  | true =>
    obtain ⟨hf, _, hno⟩ := sound_parts hs
    have hgi := fine_gi t hf
    have hT2 : ∀ w1, Below w.heap.size w w1 → Calls Try.prog 28 #[N.v] w1 fun e w' => e = .returned (.int .i64 (min 1073741824 t.sz : Nat)) ∧ Below w1.heap.size w1 w' := fun w1 h => refsize28 hTI hf w1 h.size (fun b hb => h.block b hb)
    have hT3 : ∀ w1, Below w.heap.size w w1 → Calls Try.prog 15 #[N.v] w1 fun e w' => e = .returned (.int .i64 t.gi) ∧ Below w1.heap.size w1 w' := fun w1 h => greatest15 hTI w1 h.size (fun b hb => h.block b hb)
    have hnode : ∀ w1, Below (w.alloc (.cells #[.int .i64 N.k, .slice N.r1 N.r2 N.r3, .int .i64 N.a2, .slice N.s1 N.s2 N.s3, .int .i64 N.a4, .int .i64 N.a5, .bool N.a6, .int .i64 N.a7, .string N.a8] 28)).heap.size (w.alloc (.cells #[.int .i64 N.k, .slice N.r1 N.r2 N.r3, .int .i64 N.a2, .slice N.s1 N.s2 N.s3, .int .i64 N.a4, .int .i64 N.a5, .bool N.a6, .int .i64 N.a7, .string N.a8] 28)) w1 → w1.heap[w.heap.size]? = some (.cells #[.int .i64 N.k, .slice N.r1 N.r2 N.r3, .int .i64 N.a2, .slice N.s1 N.s2 N.s3, .int .i64 N.a4, .int .i64 N.a5, .bool N.a6, .int .i64 N.a7, .string N.a8] 28 (0, 0)) := fun w1 h => (h.block w.heap.size (by simp)).trans (heap_alloc_new w _)
    rw [hs] at H25
    simp only [if_true] at H25
    have HN := hid hnode
    have HT2 := hid hT2
    have HT3 := hid hT3
    obtain ⟨r, hr⟩ : ∃ r, r = min 1073741824 t.sz := ⟨_, rfl⟩
    rw [← hr] at HT2
    by_cases c3 : 2000 < t.sz
    · have e1 : muchB t tn = false := by unfold muchB; rw [decide_eq_false (show ¬ t.sz ≤ 2000 by omega)]; simp
      rw [e1]
      have b3 : decide ((r : Int) ≤ 2000) = false := by simp; omega
      obtain ⟨k, r1, r2, r3, a2, s1, s2, s3, a4, a5, a6, a7, a8⟩ := N
      dsimp only at H25 HN
      clear hTI e1 hb0 hT1 hT2 hT3 hnode hs hf hno hr hgi
      go_enter Try.func11, Try.ntmps11
      go_wp2_with (first | (go_at_call 25; (with_reducible refine H25.mono ?_); rintro e w1 ⟨rfl, hb1⟩; obtain ⟨o0, o1, o2, o3, o4, o5, o6, o7, o8⟩ := nine' (HN.out w1 hb1); have HC1 := HT2.out w1 (HB0.out.trans (Joins.below_le hb1 (by simp))); have HB1 := hid hb1; clear hb1 H25) | (go_at_call 28; (with_reducible refine HC1.mono ?_); rintro e w2 ⟨rfl, hb2⟩; have HB2 := hid hb2; clear hb2 HC1))
      go_ret
      exact ⟨rfl, HB0.out.trans (Joins.below_le (HB1.out.trans (Joins.below_le HB2.out HB1.out.size)) (by simp))⟩
    · have hrz : r = t.sz := by omega
      have b3 : decide ((r : Int) ≤ 2000) = true := by simp; omega
      have e1 : muchB t tn = decide (16777216 < (r : Int) * ((tn : Int) + 1) * (2 * t.gi + 2)) := by
        unfold muchB
        rw [hs, decide_eq_true (show tn ≤ 64 by omega), decide_eq_true (show t.sz ≤ 2000 by omega), hrz]
        simp
      rw [e1]
      have k1 := mul_bd (a := (r : Int)) (b := (tn : Int) + 1) (A := 2000) (B := 65) (by omega) (by omega) (by omega) (by omega)
      have k2 := mul_bd (a := (r : Int) * ((tn : Int) + 1)) (b := 2 * t.gi + 2) (A := 130000) (B := 1002) k1.1 (by omega) (by omega) (by omega)
      have w1' : IntKind.i64.wrap ((tn : Int) + 1) = (tn : Int) + 1 := by simp [IntKind.wrap, IntKind.bits, IntKind.signed]; omega
      have w2' : IntKind.i64.wrap ((r : Int) * ((tn : Int) + 1)) = (r : Int) * ((tn : Int) + 1) := by simp [IntKind.wrap, IntKind.bits, IntKind.signed]; omega
      obtain ⟨gi, hgg⟩ : ∃ gi, gi = t.gi := ⟨_, rfl⟩
      rw [← hgg] at k2 hgi HT3 ⊢
      have w3' : IntKind.i64.wrap (2 * gi) = 2 * gi := by simp [IntKind.wrap, IntKind.bits, IntKind.signed]; omega
      have w4' : IntKind.i64.wrap (2 * gi + 2) = 2 * gi + 2 := by simp [IntKind.wrap, IntKind.bits, IntKind.signed]; omega
      have w5' : IntKind.i64.wrap ((r : Int) * ((tn : Int) + 1) * (2 * gi + 2)) = (r : Int) * ((tn : Int) + 1) * (2 * gi + 2) := by simp [IntKind.wrap, IntKind.bits, IntKind.signed]; omega
      obtain ⟨k, r1, r2, r3, a2, s1, s2, s3, a4, a5, a6, a7, a8⟩ := N
      dsimp only at H25 HN
      clear hTI e1 hb0 hT1 hT2 hT3 hnode hs hf hno hr hrz hgg k1 k2 c3
      go_enter Try.func11, Try.ntmps11
      go_wp2_with (first | (go_at_call 25; (with_reducible refine H25.mono ?_); rintro e w1 ⟨rfl, hb1⟩; obtain ⟨o0, o1, o2, o3, o4, o5, o6, o7, o8⟩ := nine' (HN.out w1 hb1); have HC1 := HT2.out w1 (HB0.out.trans (Joins.below_le hb1 (by simp))); have HB1 := hid hb1; clear hb1 H25) | (go_at_call 28; (with_reducible refine HC1.mono ?_); rintro e w2 ⟨rfl, hb2⟩; obtain ⟨p0, p1, p2, p3, p4, p5, p6, p7, p8⟩ := nine' (HN.out w2 (HB1.out.trans (Joins.below_le hb2 HB1.out.size))); have HC2 := HT3.out w2 (HB0.out.trans (Joins.below_le (HB1.out.trans (Joins.below_le hb2 HB1.out.size)) (by simp))); have HB2 := hid hb2; clear hb2 HC1 o0 o1 o2 o3 o4 o5 o6 o7 o8) | (go_at_call 15; (with_reducible refine HC2.mono ?_); rintro e w3 ⟨rfl, hb3⟩; have HB3 := hid hb3; clear hb3 HC2))
      go_ret
      exact ⟨rfl, HB0.out.trans (Joins.below_le ((HB1.out.trans (Joins.below_le HB2.out HB1.out.size)).trans (Joins.below_le HB3.out (by have := HB1.out.size; have := HB2.out.size; omega))) (by simp))⟩
set_option maxRecDepth 100000 in
set_option maxHeartbeats 4000000 in
theorem may12 (N : Nv) (t : Tn) (ad : Option Addr) (tn tcap : Nat) (at_ : Int) (w : World) (hTI : TI w w.heap.size N t) (htm : tn ≤ 35184372088832) :
    Calls Try.prog 12 #[N.v, .agg #[.slice ad tn tcap, .int .i64 at_]] w fun e w' => e = .returned (.bool (mayB t tn at_)) ∧ Below w.heap.size w w' := by
  have hb0 : Below w.heap.size w ((w.alloc (.cells #[.int .i64 N.k, .slice N.r1 N.r2 N.r3, .int .i64 N.a2, .slice N.s1 N.s2 N.s3, .int .i64 N.a4, .int .i64 N.a5, .bool N.a6, .int .i64 N.a7, .string N.a8] 28)).alloc (.cells #[.slice ad tn tcap, .int .i64 at_] 31)) := below_two' w _ _
  have HB0 := hid hb0
  have hT1 : ∀ w1, Below w.heap.size w w1 → TI w1 w1.heap.size N t := fun w1 h => (hTI.kept fun b hb => h.block b hb).le h.size
  have H14 := great14 (hT1 _ hb0)
  have hnode : ∀ w1, Below ((w.alloc (.cells #[.int .i64 N.k, .slice N.r1 N.r2 N.r3, .int .i64 N.a2, .slice N.s1 N.s2 N.s3, .int .i64 N.a4, .int .i64 N.a5, .bool N.a6, .int .i64 N.a7, .string N.a8] 28)).alloc (.cells #[.slice ad tn tcap, .int .i64 at_] 31)).heap.size ((w.alloc (.cells #[.int .i64 N.k, .slice N.r1 N.r2 N.r3, .int .i64 N.a2, .slice N.s1 N.s2 N.s3, .int .i64 N.a4, .int .i64 N.a5, .bool N.a6, .int .i64 N.a7, .string N.a8] 28)).alloc (.cells #[.slice ad tn tcap, .int .i64 at_] 31)) w1 → w1.heap[w.heap.size]? = some (.cells #[.int .i64 N.k, .slice N.r1 N.r2 N.r3, .int .i64 N.a2, .slice N.s1 N.s2 N.s3, .int .i64 N.a4, .int .i64 N.a5, .bool N.a6, .int .i64 N.a7, .string N.a8] 28 (0, 0)) ∧ w1.heap[w.heap.size + 1]? = some (.cells #[.slice ad tn tcap, .int .i64 at_] 31 (0, 0)) := fun w1 h => ⟨(h.block w.heap.size (by simp; omega)).trans ((heap_alloc_old _ _ (by simp)).trans (heap_alloc_new w _)), (h.block (w.heap.size + 1) (by simp)).trans (two_new w _ _ _)⟩
  have HN := hid hnode
  by_cases c0 : 200000 < t.nodes
  · have e1 : mayB t tn at_ = false := by
      unfold mayB Tn.sound
      rw [decide_eq_false (show ¬ t.nodes ≤ 200000 by omega)]
      simp
    rw [e1]
    rw [decide_eq_true c0] at H14
    obtain ⟨k, r1, r2, r3, a2, s1, s2, s3, a4, a5, a6, a7, a8⟩ := N
    dsimp only at H14 HN
    clear hTI e1 hb0 hT1 hnode c0
    go_enter Try.func12, Try.ntmps12
    go_wp2_with (first | (go_at_call 14; (with_reducible refine H14.mono ?_); rintro e w1 ⟨rfl, hb1⟩; have HB1 := hid hb1; clear hb1 H14))
    go_ret
    exact ⟨rfl, HB0.out.trans (Joins.below_le HB1.out (by simp; omega))⟩
  rw [decide_eq_false c0] at H14
  by_cases c1 : 64 < tn ∨ at_ < 0 ∨ (tn : Int) < at_
  · have e1 : mayB t tn at_ = false := by
      unfold mayB
      rcases c1 with h | h
      · rw [decide_eq_false (show ¬ tn ≤ 64 by omega)]; simp
      · rw [decide_eq_false (show ¬ (0 ≤ at_ ∧ at_ ≤ (tn : Int)) by omega)]; simp
    rw [e1]
    obtain ⟨k, r1, r2, r3, a2, s1, s2, s3, a4, a5, a6, a7, a8⟩ := N
    dsimp only at H14 HN
    clear hTI e1 hb0 hT1 hnode c0
    by_cases d1 : 64 < tn
    · have b1 : decide ((tn : Int) > 64) = true := by simp; omega
      have b1' : decide (64 < (tn : Int)) = true := by simp; omega
      go_enter Try.func12, Try.ntmps12
      go_wp2_with (first | (go_at_call 14; (with_reducible refine H14.mono ?_); rintro e w1 ⟨rfl, hb1⟩; have y0 : w1.cell? ⟨w.heap.size + 1, 0, none⟩ = some (.slice ad tn tcap) := Joins.cell_of_block (HN.out w1 hb1).2 0; have y1 : w1.cell? ⟨w.heap.size + 1, 1, none⟩ = some (.int .i64 at_) := Joins.cell_of_block (HN.out w1 hb1).2 1; have HB1 := hid hb1; clear hb1 H14))
      go_ret
      exact ⟨rfl, HB0.out.trans (Joins.below_le HB1.out (by simp; omega))⟩
    · have b1 : decide ((tn : Int) > 64) = false := by simp; omega
      have b1' : decide (64 < (tn : Int)) = false := by simp; omega
      by_cases d2 : at_ < 0
      · have b2 : decide (at_ < 0) = true := by simp; omega
        go_enter Try.func12, Try.ntmps12
        go_wp2_with (first | (go_at_call 14; (with_reducible refine H14.mono ?_); rintro e w1 ⟨rfl, hb1⟩; have y0 : w1.cell? ⟨w.heap.size + 1, 0, none⟩ = some (.slice ad tn tcap) := Joins.cell_of_block (HN.out w1 hb1).2 0; have y1 : w1.cell? ⟨w.heap.size + 1, 1, none⟩ = some (.int .i64 at_) := Joins.cell_of_block (HN.out w1 hb1).2 1; have HB1 := hid hb1; clear hb1 H14))
        go_ret
        exact ⟨rfl, HB0.out.trans (Joins.below_le HB1.out (by simp; omega))⟩
      · have b2 : decide (at_ < 0) = false := by simp; omega
        have b3 : decide (at_ > (tn : Int)) = true := by simp; omega
        have b3' : decide ((tn : Int) < at_) = true := by simp; omega
        go_enter Try.func12, Try.ntmps12
        go_wp2_with (first | (go_at_call 14; (with_reducible refine H14.mono ?_); rintro e w1 ⟨rfl, hb1⟩; have y0 : w1.cell? ⟨w.heap.size + 1, 0, none⟩ = some (.slice ad tn tcap) := Joins.cell_of_block (HN.out w1 hb1).2 0; have y1 : w1.cell? ⟨w.heap.size + 1, 1, none⟩ = some (.int .i64 at_) := Joins.cell_of_block (HN.out w1 hb1).2 1; have HB1 := hid hb1; clear hb1 H14))
        go_ret
        exact ⟨rfl, HB0.out.trans (Joins.below_le HB1.out (by simp; omega))⟩
  have b1 : decide ((tn : Int) > 64) = false := by simp; omega
  have b1' : decide (64 < (tn : Int)) = false := by simp; omega
  have b2 : decide (at_ < 0) = false := by simp; omega
  have b3 : decide (at_ > (tn : Int)) = false := by simp; omega
  have b3' : decide ((tn : Int) < at_) = false := by simp; omega
  have hT5 : ∀ w1, Below w.heap.size w w1 → Calls Try.prog 25 #[N.v] w1 fun e w' => e = .returned (.int .i64 (if t.sound then 0 else 50)) ∧ Below w1.heap.size w1 w' := fun w1 h => sound25 (hT1 w1 h)
  have HT5 := hid hT5
  have e0 : mayB t tn at_ = (t.sound && decide (t.sz ≤ 2000)) := by
    unfold mayB
    rw [decide_eq_true (show tn ≤ 64 by omega), decide_eq_true (show 0 ≤ at_ ∧ at_ ≤ (tn : Int) by omega)]
    simp
  rw [e0]
  cases hs : t.sound with
  | false =>
    rw [hs] at HT5
    simp only [Bool.false_eq_true, if_false] at HT5
    obtain ⟨k, r1, r2, r3, a2, s1, s2, s3, a4, a5, a6, a7, a8⟩ := N
    dsimp only at H14 HN
    clear hTI e0 hb0 hT1 hT5 hnode c0 hs
    go_enter Try.func12, Try.ntmps12
    go_wp2_with (first | (go_at_call 14; (with_reducible refine H14.mono ?_); rintro e w1 ⟨rfl, hb1⟩; have y0 : w1.cell? ⟨w.heap.size + 1, 0, none⟩ = some (.slice ad tn tcap) := Joins.cell_of_block (HN.out w1 hb1).2 0; have y1 : w1.cell? ⟨w.heap.size + 1, 1, none⟩ = some (.int .i64 at_) := Joins.cell_of_block (HN.out w1 hb1).2 1; obtain ⟨o0, o1, o2, o3, o4, o5, o6, o7, o8⟩ := nine' (HN.out w1 hb1).1; have HC1 := HT5.out w1 (HB0.out.trans (Joins.below_le hb1 (by simp; omega))); have HB1 := hid hb1; clear hb1 H14) | (go_at_call 25; (with_reducible refine HC1.mono ?_); rintro e w2 ⟨rfl, hb2⟩; have HB2 := hid hb2; clear hb2 HC1))
    go_ret
    exact ⟨rfl, HB0.out.trans (Joins.below_le (HB1.out.trans (Joins.below_le HB2.out HB1.out.size)) (by simp; omega))⟩
  | true =>
    obtain ⟨hf, _, hno⟩ := sound_parts hs
    have hT2 : ∀ w1, Below w.heap.size w w1 → Calls Try.prog 28 #[N.v] w1 fun e w' => e = .returned (.int .i64 (min 1073741824 t.sz : Nat)) ∧ Below w1.heap.size w1 w' := fun w1 h => refsize28 hTI hf w1 h.size (fun b hb => h.block b hb)
    have HT2 := hid hT2
    rw [hs] at HT5
    simp only [if_true] at HT5
    obtain ⟨r, hr⟩ : ∃ r, r = min 1073741824 t.sz := ⟨_, rfl⟩
    rw [← hr] at HT2
    have e1 : decide (t.sz ≤ 2000) = decide ((r : Int) ≤ 2000) := by rw [Bool.eq_iff_iff]; simp; omega
    rw [e1]
    obtain ⟨k, r1, r2, r3, a2, s1, s2, s3, a4, a5, a6, a7, a8⟩ := N
    dsimp only at H14 HN
    clear hTI e0 e1 hb0 hT1 hT5 hT2 hnode c0 hs hf hno hr
    go_enter Try.func12, Try.ntmps12
    go_wp2_with (first | (go_at_call 14; (with_reducible refine H14.mono ?_); rintro e w1 ⟨rfl, hb1⟩; have y0 : w1.cell? ⟨w.heap.size + 1, 0, none⟩ = some (.slice ad tn tcap) := Joins.cell_of_block (HN.out w1 hb1).2 0; have y1 : w1.cell? ⟨w.heap.size + 1, 1, none⟩ = some (.int .i64 at_) := Joins.cell_of_block (HN.out w1 hb1).2 1; obtain ⟨o0, o1, o2, o3, o4, o5, o6, o7, o8⟩ := nine' (HN.out w1 hb1).1; have HC1 := HT5.out w1 (HB0.out.trans (Joins.below_le hb1 (by simp; omega))); have HB1 := hid hb1; clear hb1 H14) | (go_at_call 25; (with_reducible refine HC1.mono ?_); rintro e w2 ⟨rfl, hb2⟩; obtain ⟨p0, p1, p2, p3, p4, p5, p6, p7, p8⟩ := nine' (HN.out w2 (HB1.out.trans (Joins.below_le hb2 HB1.out.size))).1; have HC2 := HT2.out w2 (HB0.out.trans (Joins.below_le (HB1.out.trans (Joins.below_le hb2 HB1.out.size)) (by simp; omega))); have HB2 := hid hb2; clear hb2 HC1 o0 o1 o2 o3 o4 o5 o6 o7 o8 y0 y1) | (go_at_call 28; (with_reducible refine HC2.mono ?_); rintro e w3 ⟨rfl, hb3⟩; have HB3 := hid hb3; clear hb3 HC2))
    go_ret
    exact ⟨by first | rfl | simp, HB0.out.trans (Joins.below_le ((HB1.out.trans (Joins.below_le HB2.out HB1.out.size)).trans (Joins.below_le HB3.out (by have := HB1.out.size; have := HB2.out.size; omega))) (by simp; omega))⟩
end Go.Proofs.Ytnpocciioedgpaa
/- HELPERS: a way is gone by reckoning; the example's. -/
namespace Go.Proofs.Ytnpocciioedgpaa
open Go.RowKit
set_option linter.unusedVariables false
set_option linter.unusedSimpArgs false
def ev (tx : List Int) (E : Nat → Way) : Nat → Way → Nat → Sg → Option Sg
  | 0, _, _, _ => none
  | f + 1, .through, p, s => some { s with parses := s.parses ++ [((p : Int), s.notes.set 1 (p : Int))] }
  | f + 1, .once n d, p, s => if (n, (p : Int)) ∈ s.done then some s else ev tx E f d p { s with done := s.done ++ [(n, (p : Int))] }
  | f + 1, .noted c d, p, s => (ev tx E f d p { s with notes := s.notes.set c (p : Int) }).map fun s' => { s' with notes := s'.notes.set c (s.notes.getD c 0) }
  | f + 1, .runeOf L d, p, s => if tx.length ≤ p then some s else if (rightB L && hasB L (tx.getD p 0)) = true then ev tx E f d (p + 1) s else some s
  | f + 1, .ifHolds a d, p, s => if heldB tx a p = true then ev tx E f d p s else some s
  | f + 1, .inOrder l, p, s => l.foldl (fun o d => o.bind (ev tx E f d p)) (some s)
  | f + 1, .again b, p, s => ev tx E f (E b) p s
theorem fold_none {α β : Type} (g : β → α → Option α) (l : List β) : l.foldl (fun o d => o.bind (g d)) none = none := by
  induction l with
  | nil => rfl
  | cons d l ih => simpa using ih
theorem fold_steps {P : Way → Sg → Sg → Prop} {g : Way → Sg → Option Sg} (hg : ∀ d s s', g d s = some s' → P d s s') : ∀ (l : List Way) (s s' : Sg), l.foldl (fun o d => o.bind (g d)) (some s) = some s' → ∃ ss : Nat → Sg, ss 0 = s ∧ ss l.length = s' ∧ ∀ i (hi : i < l.length), P (l[i]'hi) (ss i) (ss (i + 1)) := by
  intro l
  induction l with
  | nil => intro s s' h; simp at h; subst h; exact ⟨fun _ => s, rfl, rfl, fun i hi => by simp at hi⟩
  | cons d l ih =>
    intro s s' h
    simp only [List.foldl_cons, Option.bind_some] at h
    cases hd : g d s with
    | none => rw [hd, fold_none] at h; cases h
    | some s1 =>
      rw [hd] at h
      obtain ⟨ss, h1, h2, h3⟩ := ih s1 s' h
      refine ⟨fun i => match i with | 0 => s | i + 1 => ss i, rfl, h2, fun i hi => ?_⟩
      cases i with
      | zero => show P d s (ss 0); rw [h1]; exact hg d s s1 hd
      | succ i => exact h3 i (by simpa using hi)
theorem ev_sound {tx : List Int} {E : Nat → Way} : ∀ (f : Nat) (W : Way) (p : Nat) (s s' : Sg), ev tx E f W p s = some s' → Ex tx E W p s s' := by
  intro f
  induction f with
  | zero => intro W p s s' h; simp [ev] at h
  | succ f ih =>
    intro W p s s' h
    cases W with
    | through => simp only [ev, Option.some.injEq] at h; subst h; exact .through p s
    | once n d =>
      simp only [ev] at h
      split at h
      · rename_i hm; simp at h; subst h; exact .skip hm
      · rename_i hm; exact .once hm (ih _ _ _ _ h)
    | noted c d =>
      simp only [ev, Option.map_eq_some_iff] at h
      obtain ⟨s1, h1, rfl⟩ := h
      exact .noted (ih _ _ _ _ h1)
    | runeOf L d =>
      simp only [ev] at h
      split at h
      · rename_i hm; simp at h; subst h; exact .over hm
      · rename_i hm
        split at h
        · rename_i hr; exact .rune (by omega) hr (ih _ _ _ _ h)
        · rename_i hr; simp at h; subst h; exact .other (by omega) (by simpa using hr)
    | ifHolds a d =>
      simp only [ev] at h
      split at h
      · rename_i h2; exact .holds h2 (ih _ _ _ _ h)
      · rename_i h2; simp only [Option.some.injEq] at h; subst h; exact .fails (by simpa using h2)
    | inOrder l =>
      simp only [ev] at h
      obtain ⟨ss, rfl, rfl, h3⟩ := fold_steps (P := fun d s s' => Ex tx E d p s s') (fun d s s' hd => ih d p s s' hd) l s s' h
      exact .inOrder ss h3
    | again b => exact .again (ih _ _ _ _ h)
/-- the ways of (|a)+, its loop's box being b -/
def Dw (b : Nat) : Way := .once 2 (.inOrder [.again b, .once 1 .through])
def Ww (b : Nat) : Way := .once 6 (.noted 2 (.once 5 (.inOrder [.once 3 (.noted 3 (Dw b)), .once 4 (.runeOf [(97, 97)] (.noted 3 (Dw b)))])))
theorem example_goes (b : Nat) : ∃ s', Ex [97] (fun _ => Ww b) (Ww b) 0 ⟨[], [0, -1, -1, -1], []⟩ s' ∧ s'.parses = [(0, [0, 0, 0, 0]), (1, [0, 1, 0, 1])] := by
  have h : (ev [97] (fun _ => Ww b) 40 (Ww b) 0 ⟨[], [0, -1, -1, -1], []⟩).map (·.parses) = some [(0, [0, 0, 0, 0]), (1, [0, 1, 0, 1])] := by rfl
  obtain ⟨s', h1, h2⟩ := Option.map_eq_some_iff.1 h
  exact ⟨s', ev_sound 40 _ _ _ _ h1, h2⟩
theorem Ww_few (b : Nat) : (Ww b).few false := by simp [Ww, Dw, Way.few, Ways.few]
end Go.Proofs.Ytnpocciioedgpaa
/- HELPERS: the document's example holds, by the parses of any tree. -/
namespace Go.Proofs.Ytnpocciioedgpaa
open Go.RowKit
set_option linter.unusedVariables false
set_option linter.unusedSimpArgs false
/-- a way is gone in one way -/
theorem Ex.det {tx : List Int} {E : Nat → Way} {W : Way} {p : Nat} {s s1 : Sg} (h : Ex tx E W p s s1) : ∀ {s2 : Sg}, Ex tx E W p s s2 → s1 = s2 := by
  induction h with
  | through p s => intro s2 h2; cases h2; rfl
  | skip h => intro s2 h2; cases h2 with | skip _ => rfl | once hn _ => exact absurd h hn
  | once h hd ih => intro s2 h2; cases h2 with | skip hn => exact absurd hn h | once _ hd2 => exact ih hd2
  | noted hd ih => intro s2 h2; cases h2 with | noted hd2 => rw [ih hd2]
  | over h => intro s2 h2; cases h2 with | over _ => rfl | other h3 _ => omega | rune h3 _ _ => omega
  | other h hr => intro s2 h2; cases h2 with | over h3 => omega | other _ _ => rfl | rune _ h3 _ => rw [hr] at h3; cases h3
  | rune h hr hd ih => intro s2 h2; cases h2 with | over h3 => omega | other _ h3 => rw [hr] at h3; cases h3 | rune _ _ hd2 => exact ih hd2
  | fails h => intro s2 h2; cases h2 with | fails _ => rfl | holds h3 _ => rw [h] at h3; cases h3
  | holds h hd ih => intro s2 h2; cases h2 with | fails h3 => rw [h] at h3; cases h3 | holds _ hd2 => exact ih hd2
  | @inOrder l p ss h ih =>
    intro s2 h2
    obtain ⟨tt, e0, e1, h3⟩ : ∃ tt : Nat → Sg, tt 0 = ss 0 ∧ tt l.length = s2 ∧ ∀ i (hi : i < l.length), Ex tx E (l[i]'hi) p (tt i) (tt (i + 1)) := by
      generalize hs : ss 0 = s0 at h2
      cases h2 with | inOrder tt h3 => exact ⟨tt, rfl, rfl, h3⟩
    have key : ∀ i, i ≤ l.length → ss i = tt i := by
      intro i
      induction i with
      | zero => intro _; exact e0.symm
      | succ i ihi =>
        intro hi
        have := h3 i (by omega)
        rw [← ihi (by omega)] at this
        exact ih i (by omega) this
    rw [key _ (Nat.le_refl _), e1]
  | again h ih => intro s2 h2; cases h2 with | again h3 => exact ih h3
theorem Ex.env {tx : List Int} {E E' : Nat → Way} {A : Nat → Prop} (hA : ∀ b, A b → E b = E' b ∧ ∀ x ∈ (E b).ags, A x) {W : Way} {p : Nat} {s s1 : Sg} (h : Ex tx E W p s s1) : (∀ x ∈ W.ags, A x) → Ex tx E' W p s s1 := by
  induction h with
  | through p s => intro _; exact .through p s
  | skip h => intro _; exact .skip h
  | once h hd ih => intro ha; exact .once h (ih fun x hx => ha x (by simpa [Way.ags] using hx))
  | noted hd ih => intro ha; exact .noted (ih fun x hx => ha x (by simpa [Way.ags] using hx))
  | over h => intro _; exact .over h
  | other h hr => intro _; exact .other h hr
  | rune h hr hd ih => intro ha; exact .rune h hr (ih fun x hx => ha x (by simpa [Way.ags] using hx))
  | fails h => intro _; exact .fails h
  | holds h hd ih => intro ha; exact .holds h (ih fun x hx => ha x (by simpa [Way.ags] using hx))
  | @inOrder l p ss h ih =>
    intro ha
    refine .inOrder ss fun i hi => ih i hi fun x hx => ha x ?_
    simp only [Way.ags]
    have : ∀ (l : List Way) (i : Nat) (hi : i < l.length), x ∈ (l[i]'hi).ags → x ∈ agsL l := by
      intro l
      induction l with
      | nil => intro i hi; simp at hi
      | cons d l ihl =>
        intro i hi hx
        cases i with
        | zero => simp at hx; simp [agsL, hx]
        | succ i => simp [agsL, ihl i (by simpa using hi) (by simpa using hx)]
    exact this l i hi hx
  | @again b p s s1 h ih =>
    intro ha
    obtain ⟨e, h2⟩ := hA b (ha b (by simp [Way.ags]))
    have := ih h2
    rw [e] at this
    exact .again this
abbrev E0 : ByteArray := ⟨#[]⟩
abbrev nE : Nd := ⟨none, 0, 0, 0, none, 0, 0, 0, 0, false, 0, E0⟩
abbrev nC (rb : Nat) : Nd := ⟨some ⟨rb, 0, none⟩, 1, 1, 0, none, 0, 0, 0, 0, false, 0, E0⟩
abbrev nA (sb : Nat) : Nd := ⟨none, 0, 0, 0, some ⟨sb, 0, none⟩, 2, 2, 0, 0, false, 0, E0⟩
abbrev nG (sb : Nat) : Nd := ⟨none, 0, 0, 0, some ⟨sb, 0, none⟩, 1, 1, 0, 0, false, 1, E0⟩
abbrev nR (sb : Nat) : Nd := ⟨none, 0, 0, 0, some ⟨sb, 0, none⟩, 1, 1, 1, -1, false, 0, E0⟩
/-- a node with its kind -/
abbrev Nd.nv (N : Nd) (k : Int) : Nv := ⟨k, N.r1, N.r2, N.r3, N.a2, N.s1, N.s2, N.s3, N.a4, N.a5, N.a6, N.a7, N.a8⟩
/-- the example's tree -/
def tE : Tn := .mk 1 [] 0 [] 0 0 false 0 E0
def tC : Tn := .mk 2 [(97, 97)] 0 [] 0 0 false 0 E0
def tA : Tn := .mk 5 [] 0 [tE, tC] 0 0 false 0 E0
def tG : Tn := .mk 7 [] 0 [tA] 0 0 false 1 E0
def tR : Tn := .mk 6 [] 0 [tG] 1 (-1) false 0 E0
/-- the example's lists -/
structure Tre (w : World) (rb s1 s2 s3 : Nat) : Prop where
  r : w.heap[rb]? = some (.cells #[.int .i64 97, .int .i64 97] 70 (0, 0))
  c0 : N9 w s1 0 0 (nE.nv 1)
  c1 : N9 w s1 0 1 ((nC rb).nv 2)
  c2 : N9 w s2 0 0 ((nA s1).nv 5)
  c3 : N9 w s3 0 0 ((nG s2).nv 7)
  l1 : s1 < w.heap.size
  l2 : s2 < w.heap.size
  l3 : s3 < w.heap.size
theorem ok_small (N : Nv) (h1 : I64ok N.k) (h2 : I64ok N.a2) (h3 : I64ok N.a4) (h4 : I64ok N.a5) (h5 : I64ok N.a7) (h6 : N.a8.size ≤ 10) (h7 : N.r2 ≤ N.r3 ∧ N.r3 ≤ 10) (h8 : N.s2 ≤ N.s3 ∧ N.s3 ≤ 10) : N.ok :=
  ⟨h1, h2, h3, h4, h5, by unfold maxLen; omega, ⟨h7.1, by unfold maxLen; omega⟩, ⟨h8.1, by unfold maxLen; omega⟩⟩
theorem Tre.ti {w : World} {rb s1 s2 s3 : Nat} (h : Tre w rb s1 s2 s3) : TI w w.heap.size ((nR s3).nv 6) tR := by
  have hE : TI w w.heap.size (nE.nv 1) tE := .mk (N := nE.nv 1) (R := []) (ts := []) (ND := fun _ => default) (ok_small _ (by decide) (by decide) (by decide) (by decide) (by decide) (by decide) (by decide) (by decide)) rfl (fun h => absurd rfl h) (fun x hx => by cases hx) rfl (fun h => by simp at h) (fun i hi => by simp at hi)
  have hC : TI w w.heap.size ((nC rb).nv 2) tC := .mk (N := (nC rb).nv 2) (R := [(97, 97)]) (ts := []) (ND := fun _ => default) (ok_small _ (by dsimp only; decide) (by dsimp only; decide) (by dsimp only; decide) (by dsimp only; decide) (by dsimp only; decide) (by dsimp only; decide) (by show 1 ≤ 1 ∧ 1 ≤ 10; decide) (by show 0 ≤ 0 ∧ 0 ≤ 10; decide)) rfl (fun _ => ⟨rb, 0, rfl, (Array.getElem?_eq_some_iff.1 h.r).1, fun i hi => by
      have e : i = 0 := by simp at hi; omega
      subst e
      exact ⟨Joins.cell_of_block h.r 0, Joins.cell_of_block h.r 1⟩⟩) (fun x hx => by simp at hx; subst hx; decide) rfl (fun h => by simp at h) (fun i hi => by simp at hi)
  have hA : TI w w.heap.size ((nA s1).nv 5) tA := .mk (N := (nA s1).nv 5) (R := []) (ts := [tE, tC]) (ND := fun i => if i = 0 then nE.nv 1 else (nC rb).nv 2) (ok_small _ (by dsimp only; decide) (by dsimp only; decide) (by dsimp only; decide) (by dsimp only; decide) (by dsimp only; decide) (by dsimp only; decide) (by show 0 ≤ 0 ∧ 0 ≤ 10; decide) (by show 2 ≤ 2 ∧ 2 ≤ 10; decide)) rfl (fun h => absurd rfl h) (fun x hx => by cases hx) rfl (fun _ => ⟨s1, 0, rfl, h.l1, fun i hi => by
      match i, hi with
      | 0, _ => exact h.c0
      | 1, _ => exact h.c1⟩) (fun i hi => by
      match i, hi with
      | 0, _ => exact hE
      | 1, _ => exact hC)
  have hG : TI w w.heap.size ((nG s2).nv 7) tG := .mk (N := (nG s2).nv 7) (R := []) (ts := [tA]) (ND := fun i => (nA s1).nv 5) (ok_small _ (by dsimp only; decide) (by dsimp only; decide) (by dsimp only; decide) (by dsimp only; decide) (by dsimp only; decide) (by dsimp only; decide) (by show 0 ≤ 0 ∧ 0 ≤ 10; decide) (by show 1 ≤ 1 ∧ 1 ≤ 10; decide)) rfl (fun h => absurd rfl h) (fun x hx => by cases hx) rfl (fun _ => ⟨s2, 0, rfl, h.l2, fun i hi => by
      match i, hi with
      | 0, _ => exact h.c2⟩) (fun i hi => by
      match i, hi with
      | 0, _ => exact hA)
  exact .mk (N := (nR s3).nv 6) (R := []) (ts := [tG]) (ND := fun i => (nG s2).nv 7) (ok_small _ (by dsimp only; decide) (by dsimp only; decide) (by dsimp only; decide) (by dsimp only; decide) (by dsimp only; decide) (by dsimp only; decide) (by show 0 ≤ 0 ∧ 0 ≤ 10; decide) (by show 1 ≤ 1 ∧ 1 ≤ 10; decide)) rfl (fun h => absurd rfl h) (fun x hx => by cases hx) rfl (fun _ => ⟨s3, 0, rfl, h.l3, fun i hi => by
      match i, hi with
      | 0, _ => exact h.c3⟩) (fun i hi => by
      match i, hi with
      | 0, _ => exact hG)
abbrev theParses : List (Int × List Int) := [(0, [0, 0, 0, 0]), (1, [0, 1, 0, 1])]
/-- to begin a count -/
theorem Beg.rep {E : Nat → Way} {R : List (Int × Int)} {a : Int} {s : List Tn} {mn mx : Int} {lz : Bool} {ix : Int} {nm : ByteArray} {n n' : Int} {B W : Way} (h : Beg E (.mk 6 R a s mn mx lz ix nm) n B n' W) :
    ∃ t, s = [t] ∧ ((∃ b, mn = 0 ∧ mx = -1 ∧ Beg E t (n + 1) (Dcd lz n b B) n' (E b) ∧ W = Dcd lz n b B) ∨ (∃ (b c : Nat) (n2 : Int), mn = (c : Int) + 1 ∧ mx = -1 ∧ Beg E t (n + 1) (Dcd lz n b B) n2 (E b) ∧ BegT E t c n2 (E b) n' W) ∨
      (∃ (c m : Nat) (n1 : Int) (W1 : Way), mn = (c : Int) ∧ mx = (c : Int) + (m : Int) ∧ BegO E t lz B m n n1 W1 ∧ BegT E t c n1 W1 n' W)) := by
  generalize hT : Tn.mk 6 R a s mn mx lz ix nm = T at h
  cases h with
  | any0 h => simp only [Tn.mk.injEq] at hT; obtain ⟨_, rfl, rfl, rfl, rfl, rfl, rfl, rfl, rfl⟩ := hT; exact ⟨_, rfl, .inl ⟨_, rfl, rfl, h, rfl⟩⟩
  | any h hT2 => simp only [Tn.mk.injEq] at hT; obtain ⟨_, rfl, rfl, rfl, rfl, rfl, rfl, rfl, rfl⟩ := hT; exact ⟨_, rfl, .inr (.inl ⟨_, _, _, rfl, rfl, h, hT2⟩)⟩
  | bnd hO hT2 => simp only [Tn.mk.injEq] at hT; obtain ⟨_, rfl, rfl, rfl, rfl, rfl, rfl, rfl, rfl⟩ := hT; exact ⟨_, rfl, .inr (.inr ⟨_, _, _, _, rfl, rfl, hO, hT2⟩)⟩
  | _ => simp only [Tn.mk.injEq] at hT; exact absurd hT.1 (by decide)
theorem Beg.group {E : Nat → Way} {R : List (Int × Int)} {a : Int} {s : List Tn} {mn mx : Int} {lz : Bool} {ix : Int} {nm : ByteArray} {n n' : Int} {B W : Way} (h : Beg E (.mk 7 R a s mn mx lz ix nm) n B n' W) :
    ∃ (t : Tn) (i : Nat) (n1 : Int) (W1 : Way), s = [t] ∧ ix = (i : Int) ∧ n' = n1 + 1 ∧ W = .once (n1 + 1) (.noted (2 * i) W1) ∧ Beg E t n (.noted (2 * i + 1) B) n1 W1 := by
  generalize hT : Tn.mk 7 R a s mn mx lz ix nm = T at h
  cases h with
  | grp h => simp only [Tn.mk.injEq] at hT; obtain ⟨_, rfl, rfl, rfl, rfl, rfl, rfl, rfl, rfl⟩ := hT; exact ⟨_, _, _, _, rfl, rfl, rfl, rfl, h⟩
  | _ => simp only [Tn.mk.injEq] at hT; exact absurd hT.1 (by decide)
theorem Beg.alts {E : Nat → Way} {R : List (Int × Int)} {a : Int} {s : List Tn} {mn mx : Int} {lz : Bool} {ix : Int} {nm : ByteArray} {n n' : Int} {B W : Way} (h : Beg E (.mk 5 R a s mn mx lz ix nm) n B n' W) :
    ∃ (n1 : Int) (Ws : List Way), n' = n1 + 1 ∧ W = .once (n1 + 1) (.inOrder Ws) ∧ BegA E s n B n1 Ws := by
  generalize hT : Tn.mk 5 R a s mn mx lz ix nm = T at h
  cases h with
  | alt h => simp only [Tn.mk.injEq] at hT; obtain ⟨_, rfl, rfl, rfl, rfl, rfl, rfl, rfl, rfl⟩ := hT; exact ⟨_, _, rfl, rfl, h⟩
  | _ => simp only [Tn.mk.injEq] at hT; exact absurd hT.1 (by decide)
theorem Beg.empties {E : Nat → Way} {R : List (Int × Int)} {a : Int} {s : List Tn} {mn mx : Int} {lz : Bool} {ix : Int} {nm : ByteArray} {n n' : Int} {B W : Way} (h : Beg E (.mk 1 R a s mn mx lz ix nm) n B n' W) : n' = n + 1 ∧ W = .once (n + 1) B := by
  generalize hT : Tn.mk 1 R a s mn mx lz ix nm = T at h
  cases h with
  | empty => exact ⟨rfl, rfl⟩
  | _ => simp only [Tn.mk.injEq] at hT; exact absurd hT.1 (by decide)
theorem Beg.classes {E : Nat → Way} {R : List (Int × Int)} {a : Int} {s : List Tn} {mn mx : Int} {lz : Bool} {ix : Int} {nm : ByteArray} {n n' : Int} {B W : Way} (h : Beg E (.mk 2 R a s mn mx lz ix nm) n B n' W) : n' = n + 1 ∧ W = .once (n + 1) (.runeOf R B) := by
  generalize hT : Tn.mk 2 R a s mn mx lz ix nm = T at h
  cases h with
  | cls => simp only [Tn.mk.injEq] at hT; obtain ⟨_, rfl, rfl, rfl, rfl, rfl, rfl, rfl, rfl⟩ := hT; exact ⟨rfl, rfl⟩
  | _ => simp only [Tn.mk.injEq] at hT; exact absurd hT.1 (by decide)
theorem BegA.last {E : Nat → Way} {ts : List Tn} {t : Tn} {n n2 : Int} {B : Way} {Ws : List Way} (h : BegA E (ts ++ [t]) n B n2 Ws) : ∃ n1 Ws1 W, Ws = Ws1 ++ [W] ∧ BegA E ts n B n1 Ws1 ∧ Beg E t n1 B n2 W := by
  generalize hT : ts ++ [t] = T at h
  cases h with
  | nil => simp at hT
  | snoc h h2 =>
    obtain ⟨rfl, e⟩ := List.append_inj' hT rfl
    simp at e
    subst e
    exact ⟨_, _, _, rfl, h, h2⟩
theorem BegA.none {E : Nat → Way} {n n2 : Int} {B : Way} {Ws : List Way} (h : BegA E [] n B n2 Ws) : n2 = n ∧ Ws = [] := by
  generalize hT : ([] : List Tn) = T at h
  cases h with
  | nil => exact ⟨rfl, rfl⟩
  | snoc h h2 => simp at hT
theorem ps_example {l : List (Int × List Int)} (h : PS tR 4 [97] 0 l) : l = theParses := by
  obtain ⟨E, W, n1, s', hb, hE, hg, hx, rfl⟩ := h.ex
  obtain ⟨t, e1, h | ⟨b, c, n2, e2, e3, h, hT⟩ | ⟨c, m, n3, W1, e2, e3, _⟩⟩ := Beg.rep hb
  · obtain ⟨b, e2, _⟩ := h
    simp at e2
  · simp at e1
    subst e1
    have hc : c = 0 := by omega
    subst hc
    cases hT
    obtain ⟨t, i, n4, W4, e1, e4, rfl, e5, h⟩ := Beg.group h
    simp at e1
    subst e1
    have hi : i = 1 := by omega
    subst hi
    obtain ⟨n5, Ws, rfl, rfl, hA5⟩ := Beg.alts h
    obtain ⟨n6, Ws1, W6, rfl, hA6, h6⟩ := BegA.last (ts := [tE]) (t := tC) hA5
    obtain ⟨n7, Ws2, W7, rfl, hA7, h7⟩ := BegA.last (ts := []) (t := tE) hA6
    obtain ⟨rfl, rfl⟩ := BegA.none hA7
    obtain ⟨rfl, rfl⟩ := Beg.empties h7
    obtain ⟨rfl, rfl⟩ := Beg.classes h6
    have hW : E b = Ww b := e5
    obtain ⟨s2, hx2, hp2⟩ := example_goes b
    have hx3 : Ex [97] (fun _ => Ww b) (E b) 0 ⟨[], [0, -1, -1, -1], []⟩ s' := Ex.env (A := fun x => x = b) (fun x hxb => by subst hxb; exact ⟨hW, by rw [hW]; intro y hy; simpa [Ww, Dw, Way.ags, agsL] using hy⟩) hx (by rw [hW]; intro y hy; simpa [Ww, Dw, Way.ags, agsL] using hy)
    rw [hW] at hx3
    rw [hx3.det hx2, hp2]
  · omega
theorem parsesR {w : World} {rb s1 s2 s3 tb tcap : Nat} (h : Tre w rb s1 s2 s3) (ht : w.heap[tb]? = some (.cells #[.int .i64 97] 3 (0, 0))) (htc : 1 ≤ tcap) :
    Calls Try.prog 13 #[(nR s3).v 6, .slice (some ⟨tb, 0, none⟩) 1 tcap, .int .i64 0] w fun e w' => ∃ pv, e = .returned (.tuple #[pv, .int .i64 0]) ∧ Parsed w.heap.size w' pv theParses ∧ Below w.heap.size w w' := by
  refine (parses13g ((nR s3).nv 6) tR [97] (some ⟨tb, 0, none⟩) 1 tcap 0 w h.ti ⟨rfl, by omega, .inr ⟨tb, 0, rfl, (Array.getElem?_eq_some_iff.1 ht).1, fun k hk => ?_⟩⟩ htc).mono ?_
  · have e : k = 0 := by omega
    subst e
    exact bx0 (t := 3) ht
  · rintro e w' ⟨pv, l, he, hP, h0, _, hb⟩
    have e0 : errP tR 1 0 = 0 := by simp [errP, tR, tG, tA, tE, tC, Tn.sound, Tn.fine, fineL, nodeB, bareB, Tn.depth, depthL, Tn.nodes, nodesL, Tn.sz, szL, repN, rightB, rightFrom, okG, dom, gapB, empty_list]
    rw [e0] at he
    have hl := ps_example (by have := (h0 e0).1; exact this)
    subst hl
    exact ⟨pv, he, hP, hb⟩
set_option maxRecDepth 100000 in
set_option maxHeartbeats 4000000 in
theorem one26 (w : World) : Calls Try.prog 26 #[.int .i64 97] w fun e w' => e = .returned ((nC (w.heap.size + 1)).v 2) ∧ Below w.heap.size w w' ∧ w'.heap[w.heap.size + 1]? = some (.cells #[.int .i64 97, .int .i64 97] 70 (0, 0)) ∧ w'.heap.size = w.heap.size + 1 + 1 := by
  go_enter Try.func26, Try.ntmps26
  go_wp2
  have s1 : (w.alloc ((nC (w.heap.size + 1)).o 2)).heap.size = w.heap.size + 1 := by simp
  have K3 : ((w.alloc ((nC (w.heap.size + 1)).o 2)).alloc (.cells #[.int .i64 97, .int .i64 97] 70)).heap[w.heap.size]? = some (.cells (#[.int .i64 2, .slice (some ⟨w.heap.size + 1, 0, none⟩) 1 1, .int .i64 0, .slice none 0 0, .int .i64 0, .int .i64 0, .bool false, .int .i64 0, .string E0]) 28 (0, 0)) := (heap_alloc_old _ _ (by omega)).trans (heap_alloc_new w _)
  refine bodyPost_ret (results_cell_row rfl _ _ w.heap.size 28 _ (0, 0) _ rfl K3 Try.underlying28 rfl (by kernel_rfl)) rfl ?_
  refine ⟨rfl, below_two' w _ _, ?_, by simp⟩
  have K4 : ((w.alloc ((nC (w.heap.size + 1)).o 2)).alloc (.cells #[.int .i64 97, .int .i64 97] 70)).heap[(w.alloc ((nC (w.heap.size + 1)).o 2)).heap.size]? = some (.cells #[.int .i64 97, .int .i64 97] 70 (0, 0)) := heap_alloc_new _ _
  rw [s1] at K4
  exact K4
theorem six_new (w : World) (o1 o2 o3 o4 o5 o6 : Obj) : ((((((w.alloc o1).alloc o2).alloc o3).alloc o4).alloc o5).alloc o6).heap[w.heap.size]? = some o1 ∧ ((((((w.alloc o1).alloc o2).alloc o3).alloc o4).alloc o5).alloc o6).heap[w.heap.size + 1 + 1]? = some o3 ∧ ((((((w.alloc o1).alloc o2).alloc o3).alloc o4).alloc o5).alloc o6).heap[w.heap.size + 1 + 1 + 1 + 1]? = some o5 ∧
    ((((((w.alloc o1).alloc o2).alloc o3).alloc o4).alloc o5).alloc o6).heap[w.heap.size + 1 + 1 + 1 + 1 + 1]? = some o6 ∧ Below w.heap.size w ((((((w.alloc o1).alloc o2).alloc o3).alloc o4).alloc o5).alloc o6) ∧ ((((((w.alloc o1).alloc o2).alloc o3).alloc o4).alloc o5).alloc o6).heap.size = w.heap.size + 6 := by
  have s1 : (w.alloc o1).heap.size = w.heap.size + 1 := by simp
  have s2 : ((w.alloc o1).alloc o2).heap.size = w.heap.size + 1 + 1 := by simp
  have s3 : (((w.alloc o1).alloc o2).alloc o3).heap.size = w.heap.size + 1 + 1 + 1 := by simp
  have s4 : ((((w.alloc o1).alloc o2).alloc o3).alloc o4).heap.size = w.heap.size + 1 + 1 + 1 + 1 := by simp
  have s5 : (((((w.alloc o1).alloc o2).alloc o3).alloc o4).alloc o5).heap.size = w.heap.size + 1 + 1 + 1 + 1 + 1 := by simp
  refine ⟨?_, ?_, ?_, ?_, ?_, by simp⟩
  · exact (heap_alloc_old _ _ (by omega)).trans ((heap_alloc_old _ _ (by omega)).trans ((heap_alloc_old _ _ (by omega)).trans ((heap_alloc_old _ _ (by omega)).trans ((heap_alloc_old _ _ (by omega)).trans (heap_alloc_new w o1)))))
  · refine (heap_alloc_old _ _ (by omega)).trans ((heap_alloc_old _ _ (by omega)).trans ((heap_alloc_old _ _ (by omega)).trans ?_))
    rw [← s2]; exact heap_alloc_new _ _
  · refine (heap_alloc_old _ _ (by omega)).trans ?_
    rw [← s4]; exact heap_alloc_new _ _
  · rw [← s5]; exact heap_alloc_new _ _
  · exact (below_two' w o1 o2).trans (Joins.below_le ((below_two' _ o3 o4).trans (Joins.below_le (below_two' _ o5 o6) (by simp; try omega))) (by simp; try omega))
set_option maxRecDepth 100000 in
set_option maxHeartbeats 4000000 in
theorem awake8 (w : World) : Calls Try.prog 8 #[] w fun e w' => e = .returned (.bool true) ∧ Below w.heap.size w w' := by
  have HO := one26 w
  go_enter Try.func8, Try.ntmps8
  go_upto_region 2 with (first | (go_at_call 26; (with_reducible refine HO.mono ?_); rintro e w1 ⟨rfl, hb1, hr1, hs1⟩; have HB1 := hid hb1; have HR1 := hid hr1; have HS1 := hid hs1; clear hb1 hr1 hs1 HO))
  obtain ⟨z, hz⟩ : ∃ z, z = w1.heap.size := ⟨_, rfl⟩
  obtain ⟨h1, h2, h3, h4, h5, h6⟩ := six_new w1 (.cells #[.int .i64 1, .slice none 0 0, .int .i64 0, .slice none 0 0, .int .i64 0, .int .i64 0, .bool false, .int .i64 0, .string E0, .int .i64 2, .slice (some ⟨w.heap.size + 1, 0, none⟩) 1 1, .int .i64 0, .slice none 0 0, .int .i64 0, .int .i64 0, .bool false, .int .i64 0, .string E0] 28) ((nA w1.heap.size).o 5) ((nA w1.heap.size).o 5) ((nG (w1.heap.size + 1 + 1)).o 7) ((nG (w1.heap.size + 1 + 1)).o 7) (.cells #[.int .i64 97] 3)
  have hT : Tre _ (w.heap.size + 1) w1.heap.size (w1.heap.size + 1 + 1) (w1.heap.size + 1 + 1 + 1 + 1) := ⟨(h5.block _ (by have := HS1.out; omega)).trans HR1.out,
    ⟨Joins.cell_of_block h1 0, Joins.cell_of_block h1 1, Joins.cell_of_block h1 2, Joins.cell_of_block h1 3, Joins.cell_of_block h1 4, Joins.cell_of_block h1 5, Joins.cell_of_block h1 6, Joins.cell_of_block h1 7, Joins.cell_of_block h1 8⟩,
    ⟨Joins.cell_of_block h1 9, Joins.cell_of_block h1 10, Joins.cell_of_block h1 11, Joins.cell_of_block h1 12, Joins.cell_of_block h1 13, Joins.cell_of_block h1 14, Joins.cell_of_block h1 15, Joins.cell_of_block h1 16, Joins.cell_of_block h1 17⟩,
    ⟨Joins.cell_of_block h2 0, Joins.cell_of_block h2 1, Joins.cell_of_block h2 2, Joins.cell_of_block h2 3, Joins.cell_of_block h2 4, Joins.cell_of_block h2 5, Joins.cell_of_block h2 6, Joins.cell_of_block h2 7, Joins.cell_of_block h2 8⟩,
    ⟨Joins.cell_of_block h3 0, Joins.cell_of_block h3 1, Joins.cell_of_block h3 2, Joins.cell_of_block h3 3, Joins.cell_of_block h3 4, Joins.cell_of_block h3 5, Joins.cell_of_block h3 6, Joins.cell_of_block h3 7, Joins.cell_of_block h3 8⟩,
    by omega, by omega, by omega⟩
  have HC := parsesR hT h4 (Nat.le_refl 1)
  have HXB := hid h5
  clear h1 h2 h3 h4 h5 h6 hT
  go_upto_region 4 with (first | (go_at_call 13; (with_reducible refine HC.mono ?_); rintro e w2 ⟨pv, rfl, hP, hb2⟩; obtain ⟨cs, FF, hrow, hPR⟩ := hP; obtain ⟨pb, pcap, rfl⟩ := Joins.ownsRow_form hrow (by decide); have HP := hid hrow; have HQ := hid hPR; have HB2 := hid hb2; clear hb2 HC hrow hPR))
  have hQ := HQ.out
  cases hQ with
  | @cons _ _ cv0 _ _ F1 hc0 hQ1 =>
    cases hQ1 with
    | @cons _ _ cv1 _ _ F2 hc1 hQ2 =>
      cases hQ2
      obtain ⟨d0, k0, rfl⟩ := Joins.ownsRow_form hc0 (by decide)
      obtain ⟨d1, k1, rfl⟩ := Joins.ownsRow_form hc1 (by decide)
      have p0 : w2.cell? ⟨pb, 0, none⟩ = some (.int .i64 0) := HP.out.cellAt 0 (by decide)
      have p1 : w2.cell? ⟨pb, 1, none⟩ = some (.slice (some ⟨d0, 0, none⟩) 4 k0) := HP.out.cellAt 1 (by decide)
      have p2 : w2.cell? ⟨pb, 2, none⟩ = some (.int .i64 1) := HP.out.cellAt 2 (by decide)
      have p3 : w2.cell? ⟨pb, 3, none⟩ = some (.slice (some ⟨d1, 0, none⟩) 4 k1) := HP.out.cellAt 3 (by decide)
      have q3 : w2.cell? ⟨d0, 3, none⟩ = some (.int .i64 0) := hc0.cellAt 3 (by decide)
      have r2 : w2.cell? ⟨d1, 2, none⟩ = some (.int .i64 0) := hc1.cellAt 2 (by decide)
      have r3 : w2.cell? ⟨d1, 3, none⟩ = some (.int .i64 1) := hc1.cellAt 3 (by decide)
      clear hc0 hc1 HP HQ
      go_wp2
      go_ret
      exact ⟨rfl, HB1.out.trans (Joins.below_le (HXB.out.trans (Joins.below_le HB2.out (by simp; try omega))) HB1.out.size)⟩
end Go.Proofs.Ytnpocciioedgpaa
/- HELPERS: ways that do the same, the one with some things more. -/
namespace Go.Proofs.Ytnpocciioedgpaa
open Go.RowKit
set_option linter.unusedVariables false
set_option linter.unusedSimpArgs false
/-- what goes with what: things, loops; things that are more on the left, the first thing behind each, its body; whether notes are kept; what is alike in notes and parses -/
structure Mat where
  C : Int → Int → Prop
  L : Nat → Nat → Prop
  X : Int → Int → Prop
  Bd : Int → Way
  drop : Bool
  NR : List Int → List Int → Prop
  PR : List (Int × List Int) → List (Int × List Int) → Prop
/-- the first thing that is not more -/
inductive Hdp (G : Mat) : Way → Int → Prop
  | once {n n' : Int} {d : Way} (h : G.C n n') : Hdp G (.once n d) n
  | more {m n0 : Int} {d : Way} (hX : G.X m n0) (h : Hdp G d n0) : Hdp G (.once m d) n0
  | noted {c : Nat} {n0 : Int} {d : Way} (h : Hdp G d n0) : Hdp G (.noted c d) n0
/-- two ways do the same -/
inductive Sim (G : Mat) : Way → Way → Prop
  | through : Sim G .through .through
  | once {n n' : Int} {d d' : Way} (hC : G.C n n') (h : Sim G d d') : Sim G (.once n d) (.once n' d')
  | more {m n0 : Int} {d W' : Way} (hX : G.X m n0) (hb : G.Bd m = d) (hh : Hdp G d n0) (h : Sim G d W') : Sim G (.once m d) W'
  | noted {c : Nat} {d d' : Way} (hk : G.drop = false) (h : Sim G d d') : Sim G (.noted c d) (.noted c d')
  | dropped {c : Nat} {d W' : Way} (hk : G.drop = true) (h : Sim G d W') : Sim G (.noted c d) W'
  | runeOf {R : Rng} {d d' : Way} (h : Sim G d d') : Sim G (.runeOf R d) (.runeOf R d')
  | ifHolds {a : Int} {d d' : Way} (h : Sim G d d') : Sim G (.ifHolds a d) (.ifHolds a d')
  | inOrder {l l' : List Way} (hl : l.length = l'.length) (h : ∀ i (hi : i < l.length) (hi' : i < l'.length), Sim G (l[i]'hi) (l'[i]'hi')) : Sim G (.inOrder l) (.inOrder l')
  | again {b b' : Nat} (h : G.L b b') : Sim G (.again b) (.again b')
/-- what must hold of what goes with what -/
structure Mat.Ok (G : Mat) (E E' : Nat → Way) : Prop where
  one : ∀ n n' m m', G.C n n' → G.C m m' → (n = m ↔ n' = m')
  noC : ∀ m n0 n', G.X m n0 → ¬ G.C m n'
  oneX : ∀ m n0 n1, G.X m n0 → G.X m n1 → n0 = n1
  loop : ∀ b b', G.L b b' → Sim G (E b) (E' b')
  set : ∀ c x ν ν', G.drop = false → G.NR ν ν' → G.NR (ν.set c x) (ν'.set c x)
  setL : ∀ c x ν ν', G.drop = true → G.NR ν ν' → G.NR (ν.set c x) ν'
  par : ∀ (p : Nat) ν ν' l l', G.NR ν ν' → G.PR l l' → G.PR (l ++ [((p : Int), ν.set 1 (p : Int))]) (l' ++ [((p : Int), ν'.set 1 (p : Int))])
/-- two states are alike, but for what is pending -/
structure Alk (G : Mat) (P : Int → Int → Prop) (s s' : Sg) : Prop where
  dn : ∀ n n' q, G.C n n' → ((n, q) ∈ s.done ↔ (n', q) ∈ s'.done)
  ex : ∀ m n0 q, G.X m n0 → (m, q) ∈ s.done → (n0, q) ∈ s.done ∨ P m q
  nt : G.NR s.notes s'.notes
  pr : G.PR s.parses s'.parses
abbrev NoP : Int → Int → Prop := fun _ _ => False
section
variable {G : Mat} {tx : List Int} {E E' : Nat → Way}
theorem Alk.none {P : Int → Int → Prop} {s s' : Sg} (h : Alk G P s s') (hP : ∀ m q, ¬ P m q) : Alk G NoP s s' :=
  ⟨h.dn, fun m n0 q a b => by rcases h.ex m n0 q a b with c | c; exact .inl c; exact absurd c (hP m q), h.nt, h.pr⟩
theorem Hdp.fn (hG : G.Ok E E') {W : Way} {a b : Int} (h : Hdp G W a) : Hdp G W b → a = b := by
  induction h with
  | @once n n' d h =>
    intro h2
    cases h2 with
    | once _ => rfl
    | more hX _ => exact absurd h (hG.noC _ _ _ hX)
  | more hX h ih =>
    intro h2
    cases h2 with
    | once h3 => exact absurd h3 (hG.noC _ _ _ hX)
    | more _ h3 => exact ih h3
  | noted h ih =>
    intro h2
    cases h2 with
    | noted h3 => exact ih h3
theorem noted_self (s : Sg) (c : Nat) (x : Int) : { s with notes := (s.notes.set c x).set c (s.notes.getD c 0) } = s := by
  have : (s.notes.set c x).set c (s.notes.getD c 0) = s.notes := by
    rw [List.set_set]
    by_cases hc : c < s.notes.length
    · rw [show s.notes.getD c 0 = s.notes[c] by simp [List.getD_eq_getElem?_getD, hc], List.set_getElem_self]
    · exact List.set_eq_of_length_le (by omega)
  rw [this]
/-- where the first thing was done, nothing is done on the other side -/
theorem sim_skip (hG : G.Ok E E') {W W' : Way} (h : Sim G W W') : ∀ (n0 n0' : Int) (p : Nat) (s' : Sg), Hdp G W n0 → G.C n0 n0' → (n0', (p : Int)) ∈ s'.done → Ex tx E' W' p s' s' := by
  induction h with
  | through => intro n0 n0' p s' hh; cases hh
  | @once n n' d d' hC h ih =>
    intro n0 n0' p s' hh hc hd
    cases hh with
    | once _ => rw [← (hG.one _ _ _ _ hC hc).1 rfl] at hd; exact .skip hd
    | more hX _ => exact absurd hC (hG.noC _ _ _ hX)
  | more hX hb hh h ih =>
    intro n0 n0' p s' h2 hc hd
    cases h2 with
    | once h3 => exact absurd h3 (hG.noC _ _ _ hX)
    | more hX2 h3 => exact ih _ _ p s' h3 hc hd
  | @noted c d d' hk h ih =>
    intro n0 n0' p s' hh hc hd
    cases hh with
    | noted hh =>
      have this : Ex tx E' (.noted c d') p s' { s' with notes := (s'.notes.set c (p : Int)).set c (s'.notes.getD c 0) } := Ex.noted (c := c) (ih n0 n0' p { s' with notes := s'.notes.set c (p : Int) } hh hc hd)
      rw [noted_self] at this
      exact this
  | dropped hk h ih =>
    intro n0 n0' p s' hh hc hd
    cases hh with
    | noted hh => exact ih n0 n0' p s' hh hc hd
  | runeOf h ih => intro n0 n0' p s' hh; cases hh
  | ifHolds h ih => intro n0 n0' p s' hh; cases hh
  | inOrder hl h ih => intro n0 n0' p s' hh; cases hh
  | again h => intro n0 n0' p s' hh; cases hh
theorem Hdp.c {W : Way} {n0 : Int} (h : Hdp G W n0) : ∃ n0', G.C n0 n0' := by
  induction h with
  | once h => exact ⟨_, h⟩
  | more _ _ ih => exact ih
  | noted _ ih => exact ih
/-- what is pending at a way -/
def Pend (G : Mat) (P : Int → Int → Prop) (W : Way) (p : Nat) : Prop := ∀ m q, P m q → q = (p : Int) ∧ (∃ n0, G.X m n0 ∧ Hdp G W n0) ∧ SizeOf.sizeOf W ≤ SizeOf.sizeOf (G.Bd m)
theorem Pend.no (W : Way) (p : Nat) : Pend G NoP W p := fun m q h => h.elim
theorem Alk.settle (hG : G.Ok E E') {P : Int → Int → Prop} {W : Way} {p : Nat} {n0 : Int} {s s' : Sg} (h : Alk G P s s') (hP : Pend G P W p) (hh : Hdp G W n0) (hd : (n0, (p : Int)) ∈ s.done) : Alk G NoP s s' :=
  ⟨h.dn, fun m n1 q a b => by
    rcases h.ex m n1 q a b with c | c
    · exact .inl c
    · obtain ⟨rfl, ⟨n2, h1, h2⟩, _⟩ := hP m q c
      rw [hG.oneX m n1 n2 a h1, h2.fn hG hh]
      exact .inl hd, h.nt, h.pr⟩
theorem Pend.none {P : Int → Int → Prop} {W : Way} {p : Nat} (hP : Pend G P W p) (hW : ∀ n0, ¬ Hdp G W n0) : ∀ m q, ¬ P m q := fun m q h => by
  obtain ⟨_, ⟨n0, _, h2⟩, _⟩ := hP m q h
  exact hW n0 h2
/-- TWO WAYS that do the same do the same -/
theorem sim_ex (hG : G.Ok E E') {W : Way} {p : Nat} {s s1 : Sg} (h : Ex tx E W p s s1) : ∀ (W' : Way) (s' : Sg) (P : Int → Int → Prop), Sim G W W' → Alk G P s s' → Pend G P W p → ∃ s1', Ex tx E' W' p s' s1' ∧ Alk G NoP s1 s1' := by
  induction h with
  | through p s =>
    intro W' s' P hS hA hP
    have hA := hA.none (hP.none fun n0 h => by cases h)
    cases hS
    exact ⟨_, .through p s', hA.dn, hA.ex, hA.nt, hG.par p _ _ _ _ hA.nt hA.pr⟩
  | @skip n d p s h =>
    intro W' s' P hS hA hP
    cases hS with
    | once hC hS => exact ⟨s', .skip ((hA.dn _ _ _ hC).1 h), hA.settle hG hP (.once hC) h⟩
    | @more _ n0 _ _ hX hb hh hS =>
      have hd : (n0, (p : Int)) ∈ s.done := by
        rcases hA.ex _ _ _ hX h with hd | hp
        · exact hd
        · have := (hP _ _ hp).2.2
          rw [hb] at this
          simp at this
          omega
      obtain ⟨n0', hC⟩ := hh.c
      exact ⟨s', sim_skip hG hS n0 n0' p s' hh hC ((hA.dn _ _ _ hC).1 hd), hA.settle hG hP (.more hX hh) hd⟩
  | @once n d p s s1 h hd ih =>
    intro W' s' P hS hA hP
    cases hS with
    | @once _ n' _ d' hC hS =>
      have hn : (n', (p : Int)) ∉ s'.done := fun hm => h ((hA.dn _ _ _ hC).2 hm)
      have hA1 : Alk G P { s with done := s.done ++ [(n, (p : Int))] } { s' with done := s'.done ++ [(n', (p : Int))] } := by
        refine ⟨fun a a' q ha => ?_, fun m n0 q hX hm => ?_, hA.nt, hA.pr⟩
        · simp only [List.mem_append, List.mem_singleton, Prod.mk.injEq]
          rw [hA.dn a a' q ha, hG.one a a' n n' ha hC]
        · simp only [List.mem_append, List.mem_singleton, Prod.mk.injEq] at hm ⊢
          rcases hm with hm | ⟨rfl, rfl⟩
          · rcases hA.ex m n0 q hX hm with hm | hm
            · exact .inl (.inl hm)
            · exact .inr hm
          · exact absurd hC (hG.noC _ _ _ hX)
      have hA2 := hA1.settle hG hP (.once hC) (by simp)
      obtain ⟨s1', hx, hA3⟩ := ih d' _ NoP hS hA2 (Pend.no _ _)
      exact ⟨s1', .once hn hx, hA3⟩
    | @more _ n0 _ _ hX hb hh hS =>
      have hA1 : Alk G (fun m q => P m q ∨ (m = n ∧ q = (p : Int))) { s with done := s.done ++ [(n, (p : Int))] } s' := by
        refine ⟨fun a a' q ha => ?_, fun m n1 q hX1 hm => ?_, hA.nt, hA.pr⟩
        · simp only [List.mem_append, List.mem_singleton, Prod.mk.injEq]
          rw [← hA.dn a a' q ha]
          constructor
          · rintro (hm | ⟨rfl, _⟩)
            · exact hm
            · exact absurd ha (hG.noC _ _ _ hX)
          · exact .inl
        · simp only [List.mem_append, List.mem_singleton, Prod.mk.injEq] at hm ⊢
          rcases hm with hm | hm
          · rcases hA.ex m n1 q hX1 hm with hm | hm
            · exact .inl (.inl hm)
            · exact .inr (.inl hm)
          · exact .inr (.inr hm)
      obtain ⟨s1', hx, hA3⟩ := ih W' s' _ hS hA1 (fun m q hm => by
        rcases hm with hm | ⟨rfl, rfl⟩
        · obtain ⟨a, ⟨n2, b1, b2⟩, c⟩ := hP m q hm
          refine ⟨a, ⟨n2, b1, ?_⟩, ?_⟩
          · rw [← (Hdp.more hX hh).fn hG b2]
            exact hh
          · simp at c
            omega
        · exact ⟨rfl, ⟨n0, hX, hh⟩, by rw [hb]; exact Nat.le_refl _⟩)
      exact ⟨s1', hx, hA3⟩
  | @noted c d p s s1 hd ih =>
    intro W' s' P hS hA hP
    have hPd : Pend G P d p := fun m q hm => by
      obtain ⟨a, ⟨n2, b1, b2⟩, e⟩ := hP m q hm
      cases b2 with
      | noted b2 => exact ⟨a, ⟨n2, b1, b2⟩, by simp at e; omega⟩
    have hno : s1.notes.set c (s.notes.getD c 0) = s.notes := (Ex.noted hd).notes
    cases hS with
    | @noted _ _ d' hk hS =>
      obtain ⟨s1', hx, hA3⟩ := ih d' { s' with notes := s'.notes.set c (p : Int) } P hS ⟨hA.dn, hA.ex, hG.set c _ _ _ hk hA.nt, hA.pr⟩ hPd
      have hx2 := Ex.noted (c := c) (s := s') hx
      refine ⟨_, hx2, hA3.dn, hA3.ex, ?_, hA3.pr⟩
      have e2 := hx2.notes
      simp only at e2 ⊢
      rw [hno, e2]
      exact hA.nt
    | dropped hk hS =>
      obtain ⟨s1', hx, hA3⟩ := ih W' s' P hS ⟨hA.dn, hA.ex, hG.setL c _ _ _ hk hA.nt, hA.pr⟩ hPd
      refine ⟨s1', hx, hA3.dn, hA3.ex, ?_, hA3.pr⟩
      show G.NR (s1.notes.set c (s.notes.getD c 0)) s1'.notes
      rw [hno, hx.notes]
      exact hA.nt
  | over h =>
    intro W' s' P hS hA hP
    have hA := hA.none (hP.none fun n0 h => by cases h)
    cases hS with | runeOf hS => exact ⟨s', .over h, hA⟩
  | other h hr =>
    intro W' s' P hS hA hP
    have hA := hA.none (hP.none fun n0 h => by cases h)
    cases hS with | runeOf hS => exact ⟨s', .other h hr, hA⟩
  | rune h hr hd ih =>
    intro W' s' P hS hA hP
    have hA := hA.none (hP.none fun n0 h => by cases h)
    cases hS with
    | runeOf hS =>
      obtain ⟨s1', hx, hA3⟩ := ih _ s' NoP hS hA (Pend.no _ _)
      exact ⟨s1', .rune h hr hx, hA3⟩
  | fails h =>
    intro W' s' P hS hA hP
    have hA := hA.none (hP.none fun n0 h => by cases h)
    cases hS with | ifHolds hS => exact ⟨s', .fails h, hA⟩
  | holds h hd ih =>
    intro W' s' P hS hA hP
    have hA := hA.none (hP.none fun n0 h => by cases h)
    cases hS with
    | ifHolds hS =>
      obtain ⟨s1', hx, hA3⟩ := ih _ s' NoP hS hA (Pend.no _ _)
      exact ⟨s1', .holds h hx, hA3⟩
  | @inOrder l p ss h ih =>
    intro W' s' P hS hA hP
    have hA := hA.none (hP.none fun n0 h => by cases h)
    cases hS with
    | @inOrder _ l' hl hS =>
      have key : ∀ m, m ≤ l.length → ∃ tt : Nat → Sg, tt 0 = s' ∧ (∀ i (hi : i < l'.length), i < m → Ex tx E' (l'[i]'hi) p (tt i) (tt (i + 1))) ∧ Alk G NoP (ss m) (tt m) := by
        intro m
        induction m with
        | zero => intro _; exact ⟨fun _ => s', rfl, fun i _ hi => by omega, hA⟩
        | succ m im =>
          intro hm
          obtain ⟨tt, t0, t1, t2⟩ := im (by omega)
          obtain ⟨x, hx, hA3⟩ := ih m (by omega) _ (tt m) NoP (hS m (by omega) (by omega)) t2 (Pend.no _ _)
          refine ⟨fun i => if i ≤ m then tt i else x, by simp [t0], fun i hi him => ?_, by show Alk G NoP _ (if m + 1 ≤ m then _ else _); rw [if_neg (by omega)]; exact hA3⟩
          by_cases e : i = m
          · subst e
            show Ex tx E' _ p (if i ≤ i then _ else _) (if i + 1 ≤ i then _ else _)
            rw [if_pos (Nat.le_refl _), if_neg (by omega)]
            exact hx
          · simp only [show i ≤ m by omega, show i + 1 ≤ m by omega, if_true]
            exact t1 i hi (by omega)
      obtain ⟨tt, t0, t1, t2⟩ := key _ (Nat.le_refl _)
      refine ⟨tt l'.length, ?_, by rw [← hl]; exact t2⟩
      rw [← t0]
      exact .inOrder tt fun i hi => t1 i hi (by omega)
  | again h ih =>
    intro W' s' P hS hA hP
    have hA := hA.none (hP.none fun n0 h => by cases h)
    cases hS with
    | again hL =>
      obtain ⟨s1', hx, hA3⟩ := ih _ s' NoP (hG.loop _ _ hL) hA (Pend.no _ _)
      exact ⟨s1', .again hx, hA3⟩
end
end Go.Proofs.Ytnpocciioedgpaa
/- HELPERS: ways that do the same, as they are made side by side. -/
namespace Go.Proofs.Ytnpocciioedgpaa
open Go.RowKit
set_option linter.unusedVariables false
set_option linter.unusedSimpArgs false
/-- what holds of the things so far -/
structure MInv (n n' : Int) (G : Mat) : Prop where
  le : ∀ a a', G.C a a' → a ≤ n ∧ a' ≤ n'
  xle : ∀ m n0, G.X m n0 → m ≤ n
  one : ∀ a a' m m', G.C a a' → G.C m m' → (a = m ↔ a' = m')
  noC : ∀ m n0 a', G.X m n0 → ¬ G.C m a'
  oneX : ∀ m n0 n1, G.X m n0 → G.X m n1 → n0 = n1
/-- more things, more loops -/
structure Grow (E E' : Nat → Way) (n n' : Int) (G : Mat) (n1 n1' : Int) (G' : Mat) : Prop where
  l1 : n ≤ n1
  l2 : n' ≤ n1'
  dr : G'.drop = G.drop
  nr : G'.NR = G.NR
  pr : G'.PR = G.PR
  c : ∀ a a', G.C a a' → G'.C a a'
  x : ∀ m n0, G.X m n0 → G'.X m n0
  bd : ∀ m, m ≤ n → G'.Bd m = G.Bd m
  l : ∀ b b', G.L b b' → G'.L b b'
  new : ∀ b b', G'.L b b' → G.L b b' ∨ Sim G' (E b) (E' b')
section
variable {E E' : Nat → Way} {n n' n1 n1' n2 n2' : Int} {G G1 G2 : Mat}
theorem Grow.refl (n n' : Int) (G : Mat) : Grow E E' n n' G n n' G := ⟨Int.le_refl _, Int.le_refl _, rfl, rfl, rfl, fun _ _ h => h, fun _ _ h => h, fun _ _ => rfl, fun _ _ h => h, fun _ _ h => .inl h⟩
theorem Hdp.up (hc : ∀ a a', G.C a a' → G1.C a a') (hx : ∀ m n0, G.X m n0 → G1.X m n0) {W : Way} {h0 : Int} (h : Hdp G W h0) : Hdp G1 W h0 := by
  induction h with
  | once h => exact .once (hc _ _ h)
  | more hX _ ih => exact .more (hx _ _ hX) ih
  | noted _ ih => exact .noted ih
theorem Sim.up (hI : MInv n n' G) (hd : G1.drop = G.drop) (hc : ∀ a a', G.C a a' → G1.C a a') (hx : ∀ m n0, G.X m n0 → G1.X m n0) (hb : ∀ m, m ≤ n → G1.Bd m = G.Bd m) (hl : ∀ b b', G.L b b' → G1.L b b') {W W' : Way} (h : Sim G W W') : Sim G1 W W' := by
  induction h with
  | through => exact .through
  | once hC _ ih => exact .once (hc _ _ hC) ih
  | more hX hb2 hh _ ih => exact .more (hx _ _ hX) ((hb _ (hI.xle _ _ hX)).trans hb2) (hh.up hc hx) ih
  | noted hk _ ih => exact .noted (hd.trans hk) ih
  | dropped hk _ ih => exact .dropped (hd.trans hk) ih
  | runeOf _ ih => exact .runeOf ih
  | ifHolds _ ih => exact .ifHolds ih
  | inOrder hl _ ih => exact .inOrder hl ih
  | again h => exact .again (hl _ _ h)
theorem Grow.sim (h : Grow E E' n n' G n1 n1' G1) (hI : MInv n n' G) {W W' : Way} (hS : Sim G W W') : Sim G1 W W' := hS.up hI h.dr h.c h.x h.bd h.l
theorem Grow.trans (h : Grow E E' n n' G n1 n1' G1) (h' : Grow E E' n1 n1' G1 n2 n2' G2) (hI : MInv n1 n1' G1) : Grow E E' n n' G n2 n2' G2 :=
  ⟨Int.le_trans h.l1 h'.l1, Int.le_trans h.l2 h'.l2, h'.dr.trans h.dr, h'.nr.trans h.nr, h'.pr.trans h.pr, fun a a' x => h'.c _ _ (h.c _ _ x), fun a a' x => h'.x _ _ (h.x _ _ x), fun m hm => (h'.bd m (Int.le_trans hm h.l1)).trans (h.bd m hm), fun b b' x => h'.l _ _ (h.l _ _ x), fun b b' x => by
    rcases h'.new b b' x with x | x
    · rcases h.new b b' x with x | x
      · exact .inl x
      · exact .inr (h'.sim hI x)
    · exact .inr x⟩
/-- one more pair of things -/
def Mat.pair (G : Mat) (n n' : Int) : Mat := { G with C := fun a a' => G.C a a' ∨ (a = n + 1 ∧ a' = n' + 1) }
/-- one more thing on the left -/
def Mat.extra (G : Mat) (n h0 : Int) (d : Way) : Mat := { G with X := fun m n0 => G.X m n0 ∨ (m = n + 1 ∧ n0 = h0), Bd := upd G.Bd (n + 1) d }
/-- one more pair of loops -/
def Mat.loops (G : Mat) (b b' : Nat) : Mat := { G with L := fun x x' => G.L x x' ∨ (x = b ∧ x' = b') }
theorem MInv.pair (h : MInv n n' G) : MInv (n + 1) (n' + 1) (G.pair n n') := by
  refine ⟨fun a a' hc => ?_, fun m n0 hx => by have := h.xle m n0 hx; omega, fun a a' m m' h1 h2 => ?_, fun m n0 a' hx hc => ?_, h.oneX⟩
  · rcases hc with hc | hc
    · have := h.le a a' hc; omega
    · omega
  · rcases h1 with h1 | h1 <;> rcases h2 with h2 | h2
    · exact h.one a a' m m' h1 h2
    · have := h.le a a' h1; omega
    · have := h.le m m' h2; omega
    · omega
  · have := h.xle m n0 hx
    rcases hc with hc | hc
    · exact h.noC m n0 a' hx hc
    · omega
theorem MInv.extra (h : MInv n n' G) (h0 : Int) (d : Way) : MInv (n + 1) n' (G.extra n h0 d) := by
  refine ⟨fun a a' hc => by have := h.le a a' hc; omega, fun m n0 hx => ?_, h.one, fun m n0 a' hx hc => ?_, fun m n0 n1 h1 h2 => ?_⟩
  · rcases hx with hx | hx
    · have := h.xle m n0 hx; omega
    · omega
  · have := h.le m a' hc
    rcases hx with hx | hx
    · exact h.noC m n0 a' hx hc
    · omega
  · rcases h1 with h1 | h1 <;> rcases h2 with h2 | h2
    · exact h.oneX m n0 n1 h1 h2
    · have := h.xle m n0 h1; omega
    · have := h.xle m n1 h2; omega
    · omega
theorem MInv.loops (h : MInv n n' G) (b b' : Nat) : MInv n n' (G.loops b b') := ⟨h.le, h.xle, h.one, h.noC, h.oneX⟩
theorem Grow.pair (n n' : Int) (G : Mat) : Grow E E' n n' G (n + 1) (n' + 1) (G.pair n n') := ⟨by omega, by omega, rfl, rfl, rfl, fun _ _ h => .inl h, fun _ _ h => h, fun _ _ => rfl, fun _ _ h => h, fun _ _ h => .inl h⟩
theorem Grow.extra (n n' : Int) (G : Mat) (h0 : Int) (d : Way) : Grow E E' n n' G (n + 1) n' (G.extra n h0 d) :=
  ⟨by omega, by omega, rfl, rfl, rfl, fun _ _ h => h, fun _ _ h => .inl h, fun m hm => by show upd G.Bd (n + 1) d m = _; simp only [upd]; rw [if_neg (by omega)], fun _ _ h => h, fun _ _ h => .inl h⟩
/-- to begin these side by side keeps them alike -/
def SM (E E' : Nat → Way) (dp : Bool) (n : Int) (B : Way) (n1 : Int) (W : Way) (n' : Int) (B' : Way) (n1' : Int) (W' : Way) : Prop :=
  ∀ G, G.drop = dp → MInv n n' G → Sim G B B' → (∃ h, Hdp G B h) → ∃ G', MInv n1 n1' G' ∧ Grow E E' n n' G n1 n1' G' ∧ Sim G' W W' ∧ ∃ h, Hdp G' W h
theorem SM.self (dp : Bool) (n n' : Int) (B B' : Way) : SM E E' dp n B n B n' B' n' B' := fun G hdp hI hS hH => ⟨G, hI, .refl _ _ _, hS, hH⟩
theorem SM.seq {dp : Bool} {B W V B' W' V' : Way} (h : SM E E' dp n B n1 W n' B' n1' W') (h' : SM E E' dp n1 W n2 V n1' W' n2' V') : SM E E' dp n B n2 V n' B' n2' V' := fun G hdp hI hS hH => by
  obtain ⟨G1, i1, g1, s1, d1⟩ := h G hdp hI hS hH
  obtain ⟨G2, i2, g2, s2, d2⟩ := h' G1 (g1.dr.trans hdp) i1 s1 d1
  exact ⟨G2, i2, g1.trans g2 i1, s2, d2⟩
/-- both do it as one thing more -/
theorem SM.pair {dp : Bool} {B W B' W' : Way} (h : ∀ G, G.drop = dp → MInv n n' G → Sim G B B' → (∃ h, Hdp G B h) → ∃ G', MInv n1 n1' G' ∧ Grow E E' n n' G n1 n1' G' ∧ Sim G' W W') : SM E E' dp n B (n1 + 1) (.once (n1 + 1) W) n' B' (n1' + 1) (.once (n1' + 1) W') := fun G hdp hI hS hH => by
  obtain ⟨G1, i1, g1, s1⟩ := h G hdp hI hS hH
  have g2 := Grow.pair (E := E) (E' := E') n1 n1' G1
  exact ⟨_, i1.pair, g1.trans g2 i1, .once (.inr ⟨rfl, rfl⟩) (g2.sim i1 s1), _, .once (.inr ⟨rfl, rfl⟩)⟩
/-- the left does it as one thing more -/
theorem SM.extra {dp : Bool} {B W B' W' : Way} (h : SM E E' dp n B n1 W n' B' n1' W') : SM E E' dp n B (n1 + 1) (.once (n1 + 1) W) n' B' n1' W' := fun G hdp hI hS hH => by
  obtain ⟨G1, i1, g1, s1, h0, d1⟩ := h G hdp hI hS hH
  have g2 := Grow.extra (E := E) (E' := E') n1 n1' G1 h0 W
  have d2 : Hdp (G1.extra n1 h0 W) W h0 := d1.up g2.c g2.x
  exact ⟨_, i1.extra h0 W, g1.trans g2 i1, .more (.inr ⟨rfl, rfl⟩) (by show upd G1.Bd (n1 + 1) W (n1 + 1) = W; simp [upd]) d2 (g2.sim i1 s1), h0, .more (.inr ⟨rfl, rfl⟩) d2⟩
/-- loops side by side -/
theorem SM.round {dp : Bool} {b b' : Nat} {B B' : Way} {lz : Bool} (h : SM E E' dp (n + 1) (Dcd lz n b B) n2 (E b) (n' + 1) (Dcd lz n' b' B') n2' (E' b')) (G : Mat) (hdp : G.drop = dp) (hI : MInv n n' G) (hS : Sim G B B') :
    ∃ G', MInv n2 n2' G' ∧ Grow E E' n n' G n2 n2' G' ∧ Sim G' (E b) (E' b') ∧ Sim G' (Dcd lz n b B) (Dcd lz n' b' B') ∧ (∃ h, Hdp G' (E b) h) ∧ ∃ h, Hdp G' (Dcd lz n b B) h := by
  obtain ⟨G0, hG0⟩ : ∃ G0, G0 = (G.loops b b').pair n n' := ⟨_, rfl⟩
  have hI0 : MInv (n + 1) (n' + 1) G0 := by rw [hG0]; exact (hI.loops b b').pair
  have hC : G0.C (n + 1) (n' + 1) := by rw [hG0]; exact .inr ⟨rfl, rfl⟩
  have hL : G0.L b b' := by rw [hG0]; exact .inr ⟨rfl, rfl⟩
  have hB : Sim G0 B B' := by rw [hG0]; exact hS.up (G1 := (G.loops b b').pair n n') hI rfl (fun _ _ h => Or.inl h) (fun _ _ h => h) (fun _ _ => rfl) (fun _ _ h => Or.inl h)
  have hD : Sim G0 (Dcd lz n b B) (Dcd lz n' b' B') := by
    refine .once hC (.inOrder (by cases lz <;> rfl) fun i hi hi' => ?_)
    cases lz
    · match i, hi, hi' with
      | 0, _, _ => exact .again hL
      | 1, _, _ => exact hB
      | i + 2, hi, _ => exact absurd (show i + 2 < 2 from hi) (by omega)
    · match i, hi, hi' with
      | 0, _, _ => exact hB
      | 1, _, _ => exact .again hL
      | i + 2, hi, _ => exact absurd (show i + 2 < 2 from hi) (by omega)
  obtain ⟨G1, i1, g1, s1, d1⟩ := h G0 (by rw [hG0]; exact hdp) hI0 hD ⟨_, .once hC⟩
  refine ⟨G1, i1, ⟨by have := g1.l1; omega, by have := g1.l2; omega, by rw [g1.dr, hG0]; rfl, by rw [g1.nr, hG0]; rfl, by rw [g1.pr, hG0]; rfl, fun a a' x => g1.c _ _ (by rw [hG0]; exact .inl x), fun m n0 x => g1.x _ _ (by rw [hG0]; exact x), fun m hm => (g1.bd m (by omega)).trans (by rw [hG0]; rfl), fun x x' hx => g1.l _ _ (by rw [hG0]; exact .inl hx), fun x x' hx => ?_⟩, s1, g1.sim hI0 hD, d1, _, .once (g1.c _ _ hC)⟩
  rcases g1.new x x' hx with hx | hx
  · rw [hG0] at hx
    rcases hx with hx | ⟨rfl, rfl⟩
    · exact .inl hx
    · exact .inr s1
  · exact .inr hx
end
end Go.Proofs.Ytnpocciioedgpaa
/- HELPERS: without its groups a tree has the same ends, in the same order. -/
namespace Go.Proofs.Ytnpocciioedgpaa
open Go.RowKit
set_option linter.unusedVariables false
set_option linter.unusedSimpArgs false
theorem Beg.asserts {E : Nat → Way} {R : List (Int × Int)} {a : Int} {s : List Tn} {mn mx : Int} {lz : Bool} {ix : Int} {nm : ByteArray} {n n' : Int} {B W : Way} (h : Beg E (.mk 3 R a s mn mx lz ix nm) n B n' W) : n' = n + 1 ∧ W = .once (n + 1) (.ifHolds a B) := by
  generalize hT : Tn.mk 3 R a s mn mx lz ix nm = T at h
  cases h with
  | ast => simp only [Tn.mk.injEq] at hT; obtain ⟨_, rfl, rfl, rfl, rfl, rfl, rfl, rfl, rfl⟩ := hT; exact ⟨rfl, rfl⟩
  | _ => simp only [Tn.mk.injEq] at hT; exact absurd hT.1 (by decide)
theorem Beg.cats {E : Nat → Way} {R : List (Int × Int)} {a : Int} {s : List Tn} {mn mx : Int} {lz : Bool} {ix : Int} {nm : ByteArray} {n n' : Int} {B W : Way} (h : Beg E (.mk 4 R a s mn mx lz ix nm) n B n' W) : BegC E s n B n' W := by
  generalize hT : Tn.mk 4 R a s mn mx lz ix nm = T at h
  cases h with
  | cat h => simp only [Tn.mk.injEq] at hT; obtain ⟨_, rfl, rfl, rfl, rfl, rfl, rfl, rfl, rfl⟩ := hT; exact h
  | _ => simp only [Tn.mk.injEq] at hT; exact absurd hT.1 (by decide)
theorem BegC.none {E : Nat → Way} {n n2 : Int} {B W : Way} (h : BegC E [] n B n2 W) : n2 = n ∧ W = B := by cases h; exact ⟨rfl, rfl⟩
theorem BegC.first {E : Nat → Way} {t : Tn} {ts : List Tn} {n n2 : Int} {B W : Way} (h : BegC E (t :: ts) n B n2 W) : ∃ n1 W1, BegC E ts n B n1 W1 ∧ Beg E t n1 W1 n2 W := by
  cases h with
  | cons h h2 => exact ⟨_, _, h, h2⟩
theorem BegT.none {E : Nat → Way} {t : Tn} {n n2 : Int} {B W : Way} (h : BegT E t 0 n B n2 W) : n2 = n ∧ W = B := by cases h; exact ⟨rfl, rfl⟩
theorem BegT.next {E : Nat → Way} {t : Tn} {c : Nat} {n n2 : Int} {B W : Way} (h : BegT E t (c + 1) n B n2 W) : ∃ n1 W1, BegT E t c n B n1 W1 ∧ Beg E t n1 W1 n2 W := by
  cases h with
  | succ h h2 => exact ⟨_, _, h, h2⟩
theorem BegO.none {E : Nat → Way} {t : Tn} {lz : Bool} {n n2 : Int} {B W : Way} (h : BegO E t lz B 0 n n2 W) : n2 = n ∧ W = B := by cases h; exact ⟨rfl, rfl⟩
theorem BegO.next {E : Nat → Way} {t : Tn} {lz : Bool} {c : Nat} {n n3 : Int} {B W : Way} (h : BegO E t lz B (c + 1) n n3 W) : ∃ n1 n2 W1 W2, n3 = n2 + 1 ∧ W = .once (n2 + 1) (.inOrder (if lz = true then [B, W2] else [W2, B])) ∧ BegO E t lz B c n n1 W1 ∧ Beg E t n1 W1 n2 W2 := by
  cases h with
  | succ h h2 => exact ⟨_, _, _, _, rfl, rfl, h, h2⟩
theorem sim_two {G : Mat} {A B A' B' : Way} (h1 : Sim G A A') (h2 : Sim G B B') (lz : Bool) : Sim G (.inOrder (if lz = true then [B, A] else [A, B])) (.inOrder (if lz = true then [B', A'] else [A', B'])) := by
  refine .inOrder (by cases lz <;> rfl) fun i hi hi' => ?_
  cases lz
  · match i, hi, hi' with
    | 0, _, _ => exact h1
    | 1, _, _ => exact h2
    | i + 2, hi, _ => exact absurd (show i + 2 < 2 from hi) (by omega)
  · match i, hi, hi' with
    | 0, _, _ => exact h2
    | 1, _, _ => exact h1
    | i + 2, hi, _ => exact absurd (show i + 2 < 2 from hi) (by omega)
theorem bareL_snoc (ts : List Tn) (t : Tn) : bareL (ts ++ [t]) = bareL ts ++ [t.bare] := by simp [bareL_map]
theorem fineL_snoc (ts : List Tn) (t : Tn) : fineL (ts ++ [t]) = (fineL ts && t.fine) := by simp [fineL_all]
/-- SIDE BY SIDE: a tree and the tree without its groups -/
theorem beg_bare {E E' : Nat → Way} {t : Tn} {n n1 : Int} {B W : Way} (h : Beg E t n B n1 W) : t.fine = true → ∀ n' B' n1' W', Beg E' t.bare n' B' n1' W' → SM E E' true n B n1 W n' B' n1' W' := by
  refine Beg.rec (motive_1 := fun t n B n1 W _ => t.fine = true → ∀ n' B' n1' W', Beg E' t.bare n' B' n1' W' → SM E E' true n B n1 W n' B' n1' W') (motive_2 := fun ts n B n1 W _ => fineL ts = true → ∀ n' B' n1' W', BegC E' (bareL ts) n' B' n1' W' → SM E E' true n B n1 W n' B' n1' W')
    (motive_3 := fun ts n B n1 Ws _ => fineL ts = true → ∀ n' B' n1' Ws', BegA E' (bareL ts) n' B' n1' Ws' → ∀ G, G.drop = true → MInv n n' G → Sim G B B' → (∃ h, Hdp G B h) → ∃ G', MInv n1 n1' G' ∧ Grow E E' n n' G n1 n1' G' ∧ Sim G' (.inOrder Ws) (.inOrder Ws'))
    (motive_4 := fun t c n B n1 W _ => t.fine = true → ∀ n' B' n1' W', BegT E' t.bare c n' B' n1' W' → SM E E' true n B n1 W n' B' n1' W') (motive_5 := fun t lz B c n n1 W _ => t.fine = true → ∀ n' B' n1' W', BegO E' t.bare lz B' c n' n1' W' → SM E E' true n B n1 W n' B' n1' W')
    ?_ ?_ ?_ ?_ ?_ ?_ ?_ ?_ ?_ ?_ ?_ ?_ ?_ ?_ ?_ ?_ ?_ h
  · intro R a s mn mx lz ix nm n B _ n' B' n1' W' hr
    simp [Tn.bare] at hr
    obtain ⟨rfl, rfl⟩ := hr.empties
    exact SM.pair fun G _ hI hS _ => ⟨G, hI, .refl _ _ _, hS⟩
  · intro R a s mn mx lz ix nm n B _ n' B' n1' W' hr
    simp [Tn.bare] at hr
    obtain ⟨rfl, rfl⟩ := hr.classes
    exact SM.pair fun G _ hI hS _ => ⟨G, hI, .refl _ _ _, .runeOf hS⟩
  · intro R a s mn mx lz ix nm n B _ n' B' n1' W' hr
    simp [Tn.bare] at hr
    obtain ⟨rfl, rfl⟩ := hr.asserts
    exact SM.pair fun G _ hI hS _ => ⟨G, hI, .refl _ _ _, .ifHolds hS⟩
  · intro R a s mn mx lz ix nm n n1 B W _ ih hf n' B' n1' W' hr
    simp only [Tn.fine, Bool.and_eq_true] at hf
    simp [Tn.bare] at hr
    exact ih hf.2 _ _ _ _ hr.cats
  · intro R a s mn mx lz ix nm n n1 B Ws _ ih hf n' B' n1' W' hr
    simp only [Tn.fine, Bool.and_eq_true] at hf
    simp [Tn.bare] at hr
    obtain ⟨n2', Ws', rfl, rfl, r1⟩ := hr.alts
    exact SM.pair fun G hd hI hS hH => ih hf.2 _ _ _ _ r1 G hd hI hS hH
  · intro R a t mn mx lz i nm n n1 B W _ ih hf n' B' n1' W' hr
    simp only [Tn.fine, fineL, Bool.and_eq_true] at hf
    simp [Tn.bare, bareL] at hr
    refine SM.extra fun G hd hI hS ⟨h0, hH⟩ => ?_
    obtain ⟨G1, i1, g1, s1, h1, d1⟩ := ih hf.2.1 _ _ _ _ hr G hd hI (.dropped hd hS) ⟨h0, .noted hH⟩
    exact ⟨G1, i1, g1, .dropped (g1.dr.trans hd) s1, h1, .noted d1⟩
  · intro R a t lz ix nm n n2 b B _ ih hf n' B' n1' W' hr
    simp only [Tn.fine, fineL, Bool.and_eq_true] at hf
    simp [Tn.bare, bareL] at hr
    obtain ⟨t', e, r0⟩ := hr.rep
    simp only [List.cons.injEq, and_true] at e
    subst e
    rcases r0 with ⟨b', _, _, r1, rfl⟩ | ⟨b', c, _, e, _⟩ | ⟨c, m, _, _, _, e, _⟩
    · intro G hd hI hS hH
      obtain ⟨G1, i1, g1, _, s1, _, d1⟩ := (ih hf.2.1 _ _ _ _ r1).round G hd hI hS
      exact ⟨G1, i1, g1, s1, d1⟩
    · omega
    · omega
  · intro R a t c lz ix nm n n2 n3 b B W3 _ _ ih ihT hf n' B' n1' W' hr
    simp only [Tn.fine, fineL, Bool.and_eq_true] at hf
    simp [Tn.bare, bareL] at hr
    obtain ⟨t', e, r0⟩ := hr.rep
    simp only [List.cons.injEq, and_true] at e
    subst e
    rcases r0 with ⟨b', e, _⟩ | ⟨b', c', n2', e, _, r1, hT⟩ | ⟨c', m, _, _, _, e, _⟩
    · omega
    · obtain rfl : c' = c := by omega
      refine SM.seq (fun G hd hI hS hH => ?_) (ihT hf.2.1 _ _ _ _ hT)
      obtain ⟨G1, i1, g1, s1, _, d1, _⟩ := (ih hf.2.1 _ _ _ _ r1).round G hd hI hS
      exact ⟨G1, i1, g1, s1, d1⟩
    · omega
  · intro R a t c m lz ix nm n n1 n2 B W1 W2 _ _ ihO ihT hf n' B' n1' W' hr
    simp only [Tn.fine, fineL, Bool.and_eq_true] at hf
    simp [Tn.bare, bareL] at hr
    obtain ⟨t', e, r0⟩ := hr.rep
    simp only [List.cons.injEq, and_true] at e
    subst e
    rcases r0 with ⟨b', _, e, _⟩ | ⟨b', c', n2', _, e, _⟩ | ⟨c', m', _, _, e1, e2, hO, hT⟩
    · omega
    · omega
    · obtain rfl : c' = c := by omega
      obtain rfl : m' = m := by omega
      exact (ihO hf.2.1 _ _ _ _ hO).seq (ihT hf.2.1 _ _ _ _ hT)
  · intro n B _ n' B' n1' W' hr
    obtain ⟨rfl, rfl⟩ := hr.none
    exact .self _ _ _ _ _
  · intro t ts n n1 n2 B W1 W2 _ _ h h2 hf n' B' n1' W' hr
    simp only [fineL, Bool.and_eq_true] at hf
    simp only [bareL] at hr
    obtain ⟨_, _, r1, r2⟩ := hr.first
    exact (h hf.2 _ _ _ _ r1).seq (h2 hf.1 _ _ _ _ r2)
  · intro n B _ n' B' n1' Ws' hr G hd hI hS hH
    obtain ⟨rfl, rfl⟩ := hr.none
    exact ⟨G, hI, .refl _ _ _, .inOrder rfl fun i hi => by simp at hi⟩
  · intro t ts n n1 n2 B W2 Ws _ _ hl hl2 hf n' B' n1' Ws' hr G hd hI hS hH
    rw [fineL_snoc, Bool.and_eq_true] at hf
    rw [bareL_snoc] at hr
    obtain ⟨_, Ws1, W2', rfl, r1, r2⟩ := hr.last
    obtain ⟨G1, i1, g1, s1⟩ := hl hf.1 _ _ _ _ r1 G hd hI hS hH
    obtain ⟨h0, hH⟩ := hH
    obtain ⟨G2, i2, g2, s2, _⟩ := hl2 hf.2 _ _ _ _ r2 G1 (g1.dr.trans hd) i1 (g1.sim hI hS) ⟨h0, hH.up g1.c g1.x⟩
    have s3 := g2.sim i1 s1
    cases s3 with
    | inOrder el s3 =>
      refine ⟨G2, i2, g1.trans g2 i1, .inOrder (by simp [el]) fun i hi hi' => ?_⟩
      by_cases hi2 : i < Ws.length
      · rw [List.getElem_append_left hi2, List.getElem_append_left (by omega)]
        exact s3 i hi2 (by omega)
      · simp only [List.length_append, List.length_cons, List.length_nil] at hi hi'
        obtain rfl : i = Ws.length := by omega
        rw [List.getElem_concat_length rfl, List.getElem_concat_length el]
        exact s2
  · intro t n W _ n' B' n1' W' hr
    obtain ⟨rfl, rfl⟩ := hr.none
    exact .self _ _ _ _ _
  · intro t c n n1 n2 W W1 W2 _ _ h h2 hf n' B' n1' W' hr
    obtain ⟨_, _, r1, r2⟩ := hr.next
    exact (h hf _ _ _ _ r1).seq (h2 hf _ _ _ _ r2)
  · intro t lz B n _ n' B' n1' W' hr
    obtain ⟨rfl, rfl⟩ := hr.none
    exact .self _ _ _ _ _
  · intro t lz B c n n1 n2 W1 W2 _ _ h h2 hf n' B' n1' W' hr
    obtain ⟨_, n2', _, _, rfl, rfl, r1, r2⟩ := hr.next
    refine SM.pair fun G hd hI hS hH => ?_
    obtain ⟨G1, i1, g1, s1, _⟩ := ((h hf _ _ _ _ r1).seq (h2 hf _ _ _ _ r2)) G hd hI hS hH
    exact ⟨G1, i1, g1, sim_two s1 (g1.sim hI hS) lz⟩
/-- THE ENDS WITHOUT GROUPS: the same, in the same order -/
theorem PS.bare {t : Tn} {K K' : Nat} {tx : List Int} {p : Nat} {l m : List (Int × List Int)} (hf : t.fine = true) (h : PS t K tx p l) (h' : PS t.bare K' tx p m) : l.map Prod.fst = m.map Prod.fst := by
  obtain ⟨E, W, n1, s1, hB, hE, hg, hx, rfl⟩ := h.ex
  obtain ⟨E', W', n1', s1', hB', hE', hg', hx', rfl⟩ := h'.ex
  obtain ⟨G0, hG0⟩ : ∃ G0 : Mat, G0 = ⟨fun a a' => a = 1 ∧ a' = 1, fun _ _ => False, fun _ _ => False, fun _ => .through, true, fun _ _ => True, fun l l' => l.map Prod.fst = l'.map Prod.fst⟩ := ⟨_, rfl⟩
  obtain ⟨G, hI, hgr, hS, h0, hH⟩ := beg_bare hB hf _ _ _ _ hB' G0 (by rw [hG0]) (by rw [hG0]; exact ⟨fun a a' h => by simp at h; omega, fun _ _ h => h.elim, fun a a' m m' h1 h2 => by simp at h1 h2; omega, fun _ _ _ h => h.elim, fun _ _ _ h => h.elim⟩) (by rw [hG0]; exact .once ⟨rfl, rfl⟩ .through) ⟨1, by rw [hG0]; exact .once (n' := 1) ⟨rfl, rfl⟩⟩
  have hnr : G.NR = fun _ _ => True := by rw [hgr.nr, hG0]
  have hpr : G.PR = fun l l' => l.map Prod.fst = l'.map Prod.fst := by rw [hgr.pr, hG0]
  have hok : G.Ok E E' := by
    refine ⟨hI.one, hI.noC, hI.oneX, fun b b' hb => ?_, fun c x ν ν' hd _ => by rw [hnr]; trivial, fun c x ν ν' hd _ => by rw [hnr]; trivial, fun q ν ν' a b _ h => ?_⟩
    · rcases hgr.new b b' hb with hb | hb
      · rw [hG0] at hb; exact hb.elim
      · exact hb
    · rw [hpr] at h ⊢
      simp only at h ⊢
      simp [h]
  obtain ⟨s2, hx2, hA⟩ := sim_ex hok hx W' ⟨[], (List.replicate K' (-1)).set 0 (p : Int), []⟩ NoP hS ⟨fun a a' q _ => by simp, fun m n0 q _ hm => by simp at hm, by rw [hnr]; trivial, by rw [hpr]⟩ (Pend.no _ _)
  have e := hx'.det hx2
  subst e
  have := hA.pr
  rw [hpr] at this
  exact this
end Go.Proofs.Ytnpocciioedgpaa
/- HELPERS: the law MeaningTurned walked. -/
namespace Go.Proofs.Ytnpocciioedgpaa
open Go.RowKit
set_option linter.unusedVariables false
set_option linter.unusedSimpArgs false
abbrev Nv.ob (N : Nv) : Obj := .cells #[.int .i64 N.k, .slice N.r1 N.r2 N.r3, .int .i64 N.a2, .slice N.s1 N.s2 N.s3, .int .i64 N.a4, .int .i64 N.a5, .bool N.a6, .int .i64 N.a7, .string N.a8] 28
abbrev Xob (ad : Option Addr) (tn tcap : Nat) (at_ : Int) : Obj := .cells #[.slice ad tn tcap, .int .i64 at_] 31
/-- the two boxes of a law, and what lies below, at every world behind -/
theorem boxes {w : World} {N : Nv} {t : Tn} {ad : Option Addr} {tn tcap : Nat} {at_ : Int} {tx : List Int} (hTI : TI w w.heap.size N t) (htx : Look.TextAt w.heap.size w ad tn tx) :
    ∀ W, Below (w.heap.size + 1 + 1) ((w.alloc N.ob).alloc (Xob ad tn tcap at_)) W →
      (W.cell? ⟨w.heap.size, 0, none⟩ = some (.int .i64 N.k) ∧ W.cell? ⟨w.heap.size, 1, none⟩ = some (.slice N.r1 N.r2 N.r3) ∧ W.cell? ⟨w.heap.size, 2, none⟩ = some (.int .i64 N.a2) ∧ W.cell? ⟨w.heap.size, 3, none⟩ = some (.slice N.s1 N.s2 N.s3) ∧ W.cell? ⟨w.heap.size, 4, none⟩ = some (.int .i64 N.a4) ∧ W.cell? ⟨w.heap.size, 5, none⟩ = some (.int .i64 N.a5) ∧ W.cell? ⟨w.heap.size, 6, none⟩ = some (.bool N.a6) ∧ W.cell? ⟨w.heap.size, 7, none⟩ = some (.int .i64 N.a7) ∧ W.cell? ⟨w.heap.size, 8, none⟩ = some (.string N.a8)) ∧
      (W.cell? ⟨w.heap.size + 1, 0, none⟩ = some (.slice ad tn tcap) ∧ W.cell? ⟨w.heap.size + 1, 1, none⟩ = some (.int .i64 at_)) ∧ TI W W.heap.size N t ∧ Look.TextAt W.heap.size W ad tn tx ∧ Below w.heap.size w W := fun W hB => by
  have h0 : Below w.heap.size w W := (below_two' w _ _).trans (Joins.below_le hB (by omega))
  have hx : W.heap[w.heap.size + 1]? = some (.cells #[.slice ad tn tcap, .int .i64 at_] 31 (0, 0)) := (hB.block (w.heap.size + 1) (by omega)).trans (two_new w _ _ _)
  exact ⟨nine' ((hB.block w.heap.size (by omega)).trans ((heap_alloc_old _ _ (by simp)).trans (heap_alloc_new w _))), ⟨Joins.cell_of_block hx 0, Joins.cell_of_block hx 1⟩, (hTI.kept fun b hb => h0.block b hb).le h0.size, (htx.below h0).mono h0.size, h0⟩
theorem mayB_parts {t : Tn} {tn : Nat} {at_ : Int} (h : mayB t tn at_ = true) : t.sound = true ∧ t.sz ≤ 2000 ∧ tn ≤ 64 ∧ 0 ≤ at_ ∧ at_ ≤ (tn : Int) := by
  simp only [mayB, Bool.and_eq_true, decide_eq_true_eq] at h
  exact ⟨h.1.2, h.2, h.1.1.1, h.1.1.2.1, h.1.1.2.2⟩
theorem errP_zero {t u : Tn} {tn : Nat} {at_ : Int} (h : mayB t tn at_ = true) (hs : u.sound = true) (hz : u.sz ≤ t.sz) : errP u tn at_ = 0 := by
  obtain ⟨h1, h2, h3, h4, h5⟩ := mayB_parts h
  unfold errP
  rw [if_neg (by omega), if_neg (by simp [hs]), if_neg (by omega), if_neg (by omega)]
set_option maxRecDepth 100000 in
set_option maxHeartbeats 4000000 in
theorem turned6_out (N : Nv) (t : Tn) (tx raw : List Int) (ad rad : Option Addr) (tn tcap rn rcap : Nat) (at_ : Int) (w : World) (hTI : TI w w.heap.size N t) (htx : Look.TextAt w.heap.size w ad tn tx) (htc : tn ≤ tcap) (hraw : Look.TextAt w.heap.size w rad rn raw) (hout : mayB t tn at_ = false) :
    Calls Try.prog 6 #[N.v, .agg #[.slice ad tn tcap, .int .i64 at_], .slice rad rn rcap] w fun e w' => e = .returned (.bool true) ∧ Below w.heap.size w w' := by
  obtain ⟨W0, hW0⟩ : ∃ W0, W0 = (w.alloc N.ob).alloc (Xob ad tn tcap at_) := ⟨_, rfl⟩
  have hq := boxes (tcap := tcap) (at_ := at_) hTI htx
  rw [← hW0] at hq
  have hqr : ∀ W, Below (w.heap.size + 1 + 1) W0 W → Look.TextAt W.heap.size W rad rn raw := fun W hB => by have h0 := (hq W hB).2.2.2.2; exact (hraw.below h0).mono h0.size
  have hs0 : W0.heap.size = w.heap.size + 1 + 1 := by rw [hW0]; simp
  have HB0 : Hid (Below (w.heap.size + 1 + 1) W0 W0) := Below.refl _ _
  have htm : tn ≤ 35184372088832 := htx.2.1
  have c10 : ∀ W, Below (w.heap.size + 1 + 1) W0 W → Calls Try.prog 10 #[N.v] W fun e w' => e = .returned (.bool (decide (4194304 < t.nodes))) ∧ Below W.heap.size W w' := fun W hB => deep10 (hq W hB).2.2.1
  have c11 : ∀ W, Below (w.heap.size + 1 + 1) W0 W → Calls Try.prog 11 #[N.v, .slice ad tn tcap] W fun e w' => e = .returned (.bool (muchB t tn)) ∧ Below W.heap.size W w' := fun W hB => much11 N t ad tn tcap W (hq W hB).2.2.1 htm
  have c12 : ∀ W, Below (w.heap.size + 1 + 1) W0 W → Calls Try.prog 12 #[N.v, .agg #[.slice ad tn tcap, .int .i64 at_]] W fun e w' => e = .returned (.bool (mayB t tn at_)) ∧ Below W.heap.size W w' := fun W hB => may12 N t ad tn tcap at_ W (hq W hB).2.2.1 htm
  rw [hout] at c12
  obtain ⟨dp, hdp⟩ : ∃ dp, dp = decide (4194304 < t.nodes) := ⟨_, rfl⟩
  obtain ⟨mu, hmu⟩ : ∃ mu, mu = muchB t tn := ⟨_, rfl⟩
  rw [← hdp] at c10
  rw [← hmu] at c11
  clear hdp hmu hout
  obtain ⟨k, r1, r2, r3, a2, s1, s2, s3, a4, a5, a6, a7, a8⟩ := N
  dsimp only at hq c10 c11 c12
  have hx : ∀ W, Below (w.heap.size + 1 + 1) W0 W → Below w.heap.size w W := fun W hB => (hq W hB).2.2.2.2
  have HX := hid hx
  have HQ := hid hq
  have HQR := hid hqr
  have HC10 := hid c10
  have HC11 := hid c11
  have HC12 := hid c12
  clear hTI htx hraw hq hqr c10 c11 c12 hx
  go_enter Try.func6, Try.ntmps6
  go_upto_region 1 with fail
  rw [← hW0]
  clear hW0
  obtain ⟨⟨o0, o1, o2, o3, o4, o5, o6, o7, o8⟩, ⟨y0, y1⟩, _⟩ := HQ.out W0 HB0.out
  have HC := HC10.out W0 HB0.out
  cases dp with
  | true =>
    go_wp2_with (first | (go_at_call 10; (with_reducible refine HC.mono ?_); rintro e w1 ⟨rfl, hb1⟩; have HB1 : Hid (Below (w.heap.size + 1 + 1) W0 w1) := HB0.out.trans (Joins.below_le hb1 (by omega)); clear hb1 HC))
    go_ret
    exact ⟨rfl, HX.out _ HB1.out⟩
  | false =>
    go_upto_region 4 with (first | (go_at_call 10; (with_reducible refine HC.mono ?_); rintro e w1 ⟨rfl, hb1⟩; have HB1 : Hid (Below (w.heap.size + 1 + 1) W0 w1) := HB0.out.trans (Joins.below_le hb1 (by omega)); clear hb1 HC o0 o1 o2 o3 o4 o5 o6 o7 o8 y0 y1))
    obtain ⟨⟨o0, o1, o2, o3, o4, o5, o6, o7, o8⟩, ⟨y0, y1⟩, _⟩ := HQ.out w1 HB1.out
    have hs1 : W0.heap.size ≤ w1.heap.size := HB1.out.size
    have HC := HC11.out w1 HB1.out
    cases mu with
    | true =>
      go_wp2_with (first | (go_at_call 11; (with_reducible refine HC.mono ?_); rintro e w2 ⟨rfl, hb2⟩; have HB2 : Hid (Below (w.heap.size + 1 + 1) W0 w2) := HB1.out.trans (Joins.below_le hb2 (by omega)); clear hb2 HC))
      go_ret
      exact ⟨rfl, HX.out _ HB2.out⟩
    | false =>
      go_upto_region 7 with (first | (go_at_call 11; (with_reducible refine HC.mono ?_); rintro e w2 ⟨rfl, hb2⟩; have HB2 : Hid (Below (w.heap.size + 1 + 1) W0 w2) := HB1.out.trans (Joins.below_le hb2 (by omega)); clear hb2 HC o0 o1 o2 o3 o4 o5 o6 o7 o8 y0 y1))
      have hs2' : W0.heap.size ≤ w2.heap.size := HB2.out.size
      have HC := awake8 w2
      go_upto_region 8 with (first | (go_at_call 8; (with_reducible refine HC.mono ?_); rintro e w3 ⟨rfl, hb3⟩; have HB3 : Hid (Below (w.heap.size + 1 + 1) W0 w3) := HB2.out.trans (Joins.below_le hb3 (by omega)); clear hb3 HC))
      obtain ⟨⟨o0, o1, o2, o3, o4, o5, o6, o7, o8⟩, ⟨y0, y1⟩, _⟩ := HQ.out w3 HB3.out
      have hs3' : W0.heap.size ≤ w3.heap.size := HB3.out.size
      have HC := HC12.out w3 HB3.out
      go_wp2_with (first | (go_at_call 12; (with_reducible refine HC.mono ?_); rintro e w4 ⟨rfl, hb4⟩; have HB4 : Hid (Below (w.heap.size + 1 + 1) W0 w4) := HB3.out.trans (Joins.below_le hb4 (by omega)); clear hb4 HC))
      go_ret
      exact ⟨rfl, HX.out _ HB4.out⟩
end Go.Proofs.Ytnpocciioedgpaa
/- HELPERS: the law MeaningTurned walked, where the tree may be asked. -/
namespace Go.Proofs.Ytnpocciioedgpaa
open Go.RowKit
set_option linter.unusedVariables false
set_option linter.unusedSimpArgs false
theorem Parsed.kept {N : Nat} {w w' : World} {pv : Value} {l : List (Int × List Int)} (h : Parsed N w pv l) (hb : Below w.heap.size w w') : Parsed N w' pv l := by
  obtain ⟨cs, F, h1, h2⟩ := h
  exact ⟨cs, F, row_kept h1 (fun b hb' => hb.block b (h1.lt b hb').2), h2.kept (fun k hk => hb.block k (h2.low k hk).2)⟩
theorem Parsed.form {N : Nat} {w : World} {pv : Value} {l : List (Int × List Int)} (h : Parsed N w pv l) : ∃ a c, pv = .slice a l.length c := by
  rcases h.ends with ⟨rfl, rfl⟩ | ⟨b, cap, rfl, _⟩
  · exact ⟨none, 0, rfl⟩
  · exact ⟨_, _, rfl⟩
/-- meaning.Parses where it tells parses -/
theorem parses13ok {N : Nv} {t : Tn} {tx : List Int} {ad : Option Addr} {tn tcap : Nat} {at_ : Int} {W : World} (hTI : TI W W.heap.size N t) (htx : Look.TextAt W.heap.size W ad tn tx) (htc : tn ≤ tcap) (he : errP t tn at_ = 0) :
    Calls Try.prog 13 #[N.v, .slice ad tn tcap, .int .i64 at_] W fun e w' => ∃ (a : Option Addr) (c : Nat) (l : List (Int × List Int)), e = .returned (.tuple #[.slice a l.length c, .int .i64 0]) ∧ Parsed W.heap.size w' (.slice a l.length c) l ∧ PS t t.notes tx at_.toNat l ∧ l.length ≤ 65 ∧ Below W.heap.size W w' := by
  refine (parses13g N t tx ad tn tcap at_ W hTI htx htc).mono ?_
  rintro e w' ⟨pv, l, rfl, hP, h0, _, hb⟩
  obtain ⟨a, c, rfl⟩ := hP.form
  exact ⟨a, c, l, by rw [he], hP, (h0 he).1, (h0 he).2, hb⟩
set_option maxRecDepth 100000 in
set_option maxHeartbeats 8000000 in
theorem turned6_in (N : Nv) (t : Tn) (tx raw : List Int) (ad rad : Option Addr) (tn tcap rn rcap : Nat) (at_ : Int) (w : World) (hTI : TI w w.heap.size N t) (htx : Look.TextAt w.heap.size w ad tn tx) (htc : tn ≤ tcap) (hraw : Look.TextAt w.heap.size w rad rn raw) (hin : mayB t tn at_ = true) :
    Calls Try.prog 6 #[N.v, .agg #[.slice ad tn tcap, .int .i64 at_], .slice rad rn rcap] w fun e w' => e = .returned (.bool true) ∧ Below w.heap.size w w' := by
  obtain ⟨hsd, hsz, htn, ha0, ha1⟩ := mayB_parts hin
  obtain ⟨hfine, _, hnod⟩ := sound_parts hsd
  obtain ⟨W0, hW0⟩ : ∃ W0, W0 = (w.alloc N.ob).alloc (Xob ad tn tcap at_) := ⟨_, rfl⟩
  have hq := boxes (tcap := tcap) (at_ := at_) hTI htx
  rw [← hW0] at hq
  have hqr : ∀ W, Below (w.heap.size + 1 + 1) W0 W → Look.TextAt W.heap.size W rad rn raw := fun W hB => by have h0 := (hq W hB).2.2.2.2; exact (hraw.below h0).mono h0.size
  have hs0 : W0.heap.size = w.heap.size + 1 + 1 := by rw [hW0]; simp
  have HB0 : Hid (Below (w.heap.size + 1 + 1) W0 W0) := Below.refl _ _
  have htm : tn ≤ 35184372088832 := htx.2.1
  have c10 : ∀ W, Below (w.heap.size + 1 + 1) W0 W → Calls Try.prog 10 #[N.v] W fun e w' => e = .returned (.bool false) ∧ Below W.heap.size W w' := fun W hB => by have h := deep10 (hq W hB).2.2.1; rw [decide_eq_false (by omega)] at h; exact h
  have c11 : ∀ W, Below (w.heap.size + 1 + 1) W0 W → Calls Try.prog 11 #[N.v, .slice ad tn tcap] W fun e w' => e = .returned (.bool (muchB t tn)) ∧ Below W.heap.size W w' := fun W hB => much11 N t ad tn tcap W (hq W hB).2.2.1 htm
  have c12 : ∀ W, Below (w.heap.size + 1 + 1) W0 W → Calls Try.prog 12 #[N.v, .agg #[.slice ad tn tcap, .int .i64 at_]] W fun e w' => e = .returned (.bool true) ∧ Below W.heap.size W w' := fun W hB => by have h := may12 N t ad tn tcap at_ W (hq W hB).2.2.1 htm; rw [hin] at h; exact h
  have c13 : ∀ (M : Nv) (u : Tn) W, Below (w.heap.size + 1 + 1) W0 W → TI W W.heap.size M u → u.sound = true → u.sz ≤ t.sz → Calls Try.prog 13 #[M.v, .slice ad tn tcap, .int .i64 at_] W fun e w' => ∃ (a : Option Addr) (c : Nat) (l : List (Int × List Int)), e = .returned (.tuple #[.slice a l.length c, .int .i64 0]) ∧ Parsed W.heap.size w' (.slice a l.length c) l ∧ PS u u.notes tx at_.toNat l ∧ l.length ≤ 65 ∧ Below W.heap.size W w' := fun M u W hB hM hsu hzu => parses13ok hM (hq W hB).2.2.2.1 htc (errP_zero hin hsu hzu)
  have c23 : ∀ W, Below (w.heap.size + 1 + 1) W0 W → Calls Try.prog 23 #[N.v, .slice rad rn rcap, .int .i64 0] W fun e w' => ∃ (M : Nv) (u : Tn) (m : Int), e = .returned (.tuple #[M.v, .int .i64 m]) ∧ TI w' w'.heap.size M u ∧ (u.sound = true ∧ u.sz ≤ t.sz ∧ Mt tx t = Mt tx u) ∧ Below W.heap.size W w' := fun W hB => by
    have h0 := (hq W hB).2.2.2.2
    refine (turned23 hTI raw rad rn rcap hraw hfine 0 (Int.le_refl _) (by omega) W h0.size (fun b hb => h0.block b hb)).mono ?_
    rintro e w' ⟨M, u, m, rfl, hM, hT, hm, hb⟩
    have hL := hT.less hfine
    exact ⟨M, u, m, rfl, hM.ti (fun b hb' => by have := hb.size; have := h0.size; rcases hb' with h | h <;> omega), ⟨hL.sound hsd, hL.sz, hT.same⟩, hb⟩
  have c24 : ∀ W, Below (w.heap.size + 1 + 1) W0 W → Calls Try.prog 24 #[N.v] W fun e w' => ∃ (M : Nv), e = .returned M.v ∧ TI w' w'.heap.size M t.bare ∧ Below W.heap.size W w' := fun W hB => by
    have h0 := (hq W hB).2.2.2.2
    refine (bare24 hTI hfine hnod W h0.size (fun b hb => h0.block b hb)).mono ?_
    rintro e w' ⟨M, rfl, hM, hb⟩
    exact ⟨M, rfl, hM.ti (fun b hb' => by have := hb.size; have := h0.size; rcases hb' with h | h <;> omega), hb⟩
  have hbl := Tn.bare_less t hfine
  have hbs := hbl.sound hsd
  have hbz := hbl.sz
  have c13t : ∀ W, Below (w.heap.size + 1 + 1) W0 W → Calls Try.prog 13 #[N.v, .slice ad tn tcap, .int .i64 at_] W fun e w' => ∃ (a : Option Addr) (c : Nat) (l : List (Int × List Int)), e = .returned (.tuple #[.slice a l.length c, .int .i64 0]) ∧ Parsed W.heap.size w' (.slice a l.length c) l ∧ PS t t.notes tx at_.toNat l ∧ l.length ≤ 65 ∧ Below W.heap.size W w' := fun W hB => c13 N t W hB (hq W hB).2.2.1 hsd (Nat.le_refl _)
  obtain ⟨mu, hmu⟩ : ∃ mu, mu = muchB t tn := ⟨_, rfl⟩
  rw [← hmu] at c11
  have htl : tx.length = tn := htx.1.symm
  clear hmu hin
  obtain ⟨k, r1, r2, r3, a2, s1, s2, s3, a4, a5, a6, a7, a8⟩ := N
  dsimp only at hq c10 c11 c12 c23 c24 c13t
  have hx : ∀ W, Below (w.heap.size + 1 + 1) W0 W → Below w.heap.size w W := fun W hB => (hq W hB).2.2.2.2
  have hsx : ∀ W, Below (w.heap.size + 1 + 1) W0 W → W.cell? ⟨w.heap.size, 0, none⟩ = some (.int .i64 k) ∧ W.cell? ⟨w.heap.size, 1, none⟩ = some (.slice r1 r2 r3) ∧ W.cell? ⟨w.heap.size, 2, none⟩ = some (.int .i64 a2) ∧ W.cell? ⟨w.heap.size, 3, none⟩ = some (.slice s1 s2 s3) ∧ W.cell? ⟨w.heap.size, 4, none⟩ = some (.int .i64 a4) ∧ W.cell? ⟨w.heap.size, 5, none⟩ = some (.int .i64 a5) ∧ W.cell? ⟨w.heap.size, 6, none⟩ = some (.bool a6) ∧ W.cell? ⟨w.heap.size, 7, none⟩ = some (.int .i64 a7) ∧ W.cell? ⟨w.heap.size, 8, none⟩ = some (.string a8) ∧ W.cell? ⟨w.heap.size + 1, 0, none⟩ = some (.slice ad tn tcap) ∧ W.cell? ⟨w.heap.size + 1, 1, none⟩ = some (.int .i64 at_) := fun W hB => by obtain ⟨⟨o0, o1, o2, o3, o4, o5, o6, o7, o8⟩, ⟨y0, y1⟩, _⟩ := hq W hB; exact ⟨o0, o1, o2, o3, o4, o5, o6, o7, o8, y0, y1⟩
  have HX := hid hx
  have HSX := hid hsx
  have HQ := hid hq
  have HQR := hid hqr
  have HC10 := hid c10
  have HC11 := hid c11
  have HC12 := hid c12
  have HC13 := hid c13
  have HC13t := hid c13t
  have HC23 := hid c23
  have HC24 := hid c24
  have HBS := hid hbs
  have HBZ := hid hbz
  have HF := hid hfine
  have HTL := hid htl
  clear hTI htx hraw hq hqr c10 c11 c12 c13 c13t c23 c24 hx hsx hbs hbz hbl hfine htl hsd hsz hnod
  go_enter Try.func6, Try.ntmps6
  go_upto_region 1 with fail
  rw [← hW0]
  clear hW0
  obtain ⟨⟨o0, o1, o2, o3, o4, o5, o6, o7, o8⟩, ⟨y0, y1⟩, _⟩ := HQ.out W0 HB0.out
  have HC := HC10.out W0 HB0.out
  go_upto_region 4 with (first | (go_at_call 10; (with_reducible refine HC.mono ?_); rintro e w1 ⟨rfl, hb1⟩; have HB1 : Hid (Below (w.heap.size + 1 + 1) W0 w1) := HB0.out.trans (Joins.below_le hb1 (by omega)); clear hb1 HC o0 o1 o2 o3 o4 o5 o6 o7 o8 y0 y1))
  have hs1' : W0.heap.size ≤ w1.heap.size := HB1.out.size
  obtain ⟨⟨o0, o1, o2, o3, o4, o5, o6, o7, o8⟩, ⟨y0, y1⟩, _⟩ := HQ.out w1 HB1.out
  have HC := HC11.out w1 HB1.out
  cases mu with
  | true =>
    go_wp2_with (first | (go_at_call 11; (with_reducible refine HC.mono ?_); rintro e w2 ⟨rfl, hb2⟩; have HB2 : Hid (Below (w.heap.size + 1 + 1) W0 w2) := HB1.out.trans (Joins.below_le hb2 (by omega)); clear hb2 HC))
    go_ret
    exact ⟨rfl, HX.out _ HB2.out⟩
  | false =>
  go_upto_region 7 with (first | (go_at_call 11; (with_reducible refine HC.mono ?_); rintro e w2 ⟨rfl, hb2⟩; have HB2 : Hid (Below (w.heap.size + 1 + 1) W0 w2) := HB1.out.trans (Joins.below_le hb2 (by omega)); clear hb2 HC o0 o1 o2 o3 o4 o5 o6 o7 o8 y0 y1))
  have hs2' : W0.heap.size ≤ w2.heap.size := HB2.out.size
  obtain ⟨⟨o0, o1, o2, o3, o4, o5, o6, o7, o8⟩, ⟨y0, y1⟩, _⟩ := HQ.out w2 HB2.out
  have HC := awake8 w2
  go_upto_region 8 with (first | (go_at_call 8; (with_reducible refine HC.mono ?_); rintro e w3 ⟨rfl, hb3⟩; have HB3 : Hid (Below (w.heap.size + 1 + 1) W0 w3) := HB2.out.trans (Joins.below_le hb3 (by omega)); clear hb3 HC o0 o1 o2 o3 o4 o5 o6 o7 o8 y0 y1))
  have hs3' : W0.heap.size ≤ w3.heap.size := HB3.out.size
  obtain ⟨⟨o0, o1, o2, o3, o4, o5, o6, o7, o8⟩, ⟨y0, y1⟩, _⟩ := HQ.out w3 HB3.out
  have HC := HC12.out w3 HB3.out
  go_upto_region 11 with (first | (go_at_call 12; (with_reducible refine HC.mono ?_); rintro e w4 ⟨rfl, hb4⟩; have HB4 : Hid (Below (w.heap.size + 1 + 1) W0 w4) := HB3.out.trans (Joins.below_le hb4 (by omega)); clear hb4 HC o0 o1 o2 o3 o4 o5 o6 o7 o8 y0 y1))
  have hs4' : W0.heap.size ≤ w4.heap.size := HB4.out.size
  obtain ⟨⟨o0, o1, o2, o3, o4, o5, o6, o7, o8⟩, ⟨y0, y1⟩, _⟩ := HQ.out w4 HB4.out
  have HC := HC13t.out w4 HB4.out
  go_upto_region 12 with (first | (go_at_call 13; (with_reducible refine HC.mono ?_); rintro e w5 ⟨la, lc, l, rfl, hPl, hSl, hLl, hb5⟩; have HB5 : Hid (Below (w.heap.size + 1 + 1) W0 w5) := HB4.out.trans (Joins.below_le hb5 (by omega)); have HPl := hid hPl; have HSl := hid hSl; clear hPl hSl; clear hb5 HC o0 o1 o2 o3 o4 o5 o6 o7 o8 y0 y1))
  have hs5' : W0.heap.size ≤ w5.heap.size := HB5.out.size
  obtain ⟨⟨o0, o1, o2, o3, o4, o5, o6, o7, o8⟩, ⟨y0, y1⟩, _⟩ := HQ.out w5 HB5.out
  have HC := HC23.out w5 HB5.out
  go_upto_region 13 with (first | (go_at_call 23; (with_reducible refine HC.mono ?_); rintro e w6 ⟨M, u, mm, rfl, hTM, ⟨hus, huz, hum⟩, hb6⟩; have HB6 : Hid (Below (w.heap.size + 1 + 1) W0 w6) := HB5.out.trans (Joins.below_le hb6 (by omega)); have HPl6 : Hid (Parsed w4.heap.size w6 (.slice la l.length lc) l) := HPl.out.kept hb6; have HTM := hid hTM; have HUS := hid hus; have HUZ := hid huz; have HUM := hid hum; clear hb6 hTM hus huz hum HC HPl o0 o1 o2 o3 o4 o5 o6 o7 o8 y0 y1))
  obtain ⟨X, hX⟩ : ∃ X, X = w6.alloc (.cells #[.int .i64 M.k, .slice M.r1 M.r2 M.r3, .int .i64 M.a2, .slice M.s1 M.s2 M.s3, .int .i64 M.a4, .int .i64 M.a5, .bool M.a6, .int .i64 M.a7, .string M.a8] 28) := ⟨_, rfl⟩
  rw [← hX]
  have hXb : Below w6.heap.size w6 X := by rw [hX]; exact Joins.below_alloc1 w6 _
  have hXn : X.heap[w6.heap.size]? = some (.cells #[.int .i64 M.k, .slice M.r1 M.r2 M.r3, .int .i64 M.a2, .slice M.s1 M.s2 M.s3, .int .i64 M.a4, .int .i64 M.a5, .bool M.a6, .int .i64 M.a7, .string M.a8] 28 (0, 0)) := by rw [hX]; exact heap_alloc_new w6 _
  obtain ⟨x0, x1, x2, x3, x4, x5, x6, x7, x8⟩ := nine' hXn
  have HBX : Hid (Below (w.heap.size + 1 + 1) W0 X) := HB6.out.trans (Joins.below_le hXb (by have := HB6.out.size; omega))
  have HPlX : Hid (Parsed w4.heap.size X (.slice la l.length lc) l) := HPl6.out.kept hXb
  have hTX : TI X X.heap.size M u := (HTM.out.kept fun b hb => hXb.block b hb).le hXb.size
  have HC := HC13.out M u X HBX.out hTX HUS.out HUZ.out
  obtain ⟨⟨o0, o1, o2, o3, o4, o5, o6, o7, o8⟩, ⟨y0, y1⟩, _⟩ := HQ.out X HBX.out
  have hsX : W0.heap.size ≤ X.heap.size := HBX.out.size
  clear hX hXb hXn HTM HPl6 hTX
  go_upto_region 14 with (first | (go_at_call 13; (with_reducible refine HC.mono ?_); rintro e w7 ⟨ma, mc, m, rfl, hPm, hSm, hLm, hb7⟩; have HB7 : Hid (Below (w.heap.size + 1 + 1) W0 w7) := HBX.out.trans (Joins.below_le hb7 (by omega)); have HPl7 : Hid (Parsed w4.heap.size w7 (.slice la l.length lc) l) := HPlX.out.kept hb7; have HPm := hid hPm; have HSm := hid hSm; clear hb7 hPm hSm HC HPlX o0 o1 o2 o3 o4 o5 o6 o7 o8 y0 y1 x0 x1 x2 x3 x4 x5 x6 x7 x8))
  have hs7' : W0.heap.size ≤ w7.heap.size := HB7.out.size
  have HB7d : Hid (Below (w.heap.size + 1 + 1) W0 w7.drew) := HB7.out.drew
  have hdr : Below w7.heap.size w7 w7.drew := (Below.refl _ _).drew
  have HPl7d : Hid (Parsed w4.heap.size w7.drew (.slice la l.length lc) l) := HPl7.out.kept hdr
  have HPm7d : Hid (Parsed X.heap.size w7.drew (.slice ma m.length mc) m) := HPm.out.kept hdr
  have HC := HC24.out w7.drew HB7d.out
  have hs7d : W0.heap.size ≤ w7.drew.heap.size := HB7d.out.size
  clear HPl7 HPm hdr
  go_cut [17, 18] from 64 to 72 (fun x y wx => ∃ (na : Option Addr) (nc : Nat) (n : List (Int × List Int)), x = .slice na n.length nc ∧ y = .int .i64 0 ∧ Hid (Parsed w4.heap.size wx (.slice la l.length lc) l) ∧ Hid (Parsed X.heap.size wx (.slice ma m.length mc) m) ∧ Hid (∃ Nn, Parsed Nn wx (.slice na n.length nc) n) ∧ Hid (PS t.bare t.bare.notes tx at_.toNat n) ∧ n.length ≤ 65 ∧ Hid (Below (w.heap.size + 1 + 1) W0 wx))
  case first =>
    go_region_held2 (fun W => W.cell? ⟨w.heap.size, 0, none⟩ = some (.int .i64 k) ∧ W.cell? ⟨w.heap.size, 1, none⟩ = some (.slice r1 r2 r3) ∧ W.cell? ⟨w.heap.size, 2, none⟩ = some (.int .i64 a2) ∧ W.cell? ⟨w.heap.size, 3, none⟩ = some (.slice s1 s2 s3) ∧ W.cell? ⟨w.heap.size, 4, none⟩ = some (.int .i64 a4) ∧ W.cell? ⟨w.heap.size, 5, none⟩ = some (.int .i64 a5) ∧ W.cell? ⟨w.heap.size, 6, none⟩ = some (.bool a6) ∧ W.cell? ⟨w.heap.size, 7, none⟩ = some (.int .i64 a7) ∧ W.cell? ⟨w.heap.size, 8, none⟩ = some (.string a8) ∧ W.cell? ⟨w.heap.size + 1, 0, none⟩ = some (.slice ad tn tcap) ∧ W.cell? ⟨w.heap.size + 1, 1, none⟩ = some (.int .i64 at_))
      (first | exact HSX.out _ HB7.out | exact HSX.out _ HB7d.out | exact HSX.out _ HB8.out | exact HSX.out _ HB9.out)
      (first | (go_at_call 24; (with_reducible refine HC.mono ?_); rintro e w8 ⟨M8, rfl, hT8, hb8⟩; have HB8 : Hid (Below (w.heap.size + 1 + 1) W0 w8) := HB7d.out.trans (Joins.below_le hb8 (by omega)); have hs8 : W0.heap.size ≤ w8.heap.size := HB8.out.size; have HC2 := HC13.out M8 t.bare w8 HB8.out hT8 HBS.out HBZ.out; have HPl8 : Hid (Parsed w4.heap.size w8 (.slice la l.length lc) l) := HPl7d.out.kept hb8; have HPm8 : Hid (Parsed X.heap.size w8 (.slice ma m.length mc) m) := HPm7d.out.kept hb8; clear hb8 hT8 HC) | (go_at_call 13; (with_reducible refine HC2.mono ?_); rintro e w9 ⟨na, nc, n, rfl, hPn, hSn, hLn, hb9⟩; have HB9 : Hid (Below (w.heap.size + 1 + 1) W0 w9) := HB8.out.trans (Joins.below_le hb9 (by omega)); have HPl9 : Hid (Parsed w4.heap.size w9 (.slice la l.length lc) l) := HPl8.out.kept hb9; have HPm9 : Hid (Parsed X.heap.size w9 (.slice ma m.length mc) m) := HPm8.out.kept hb9; have HPn := hid hPn; have HSn := hid hSn; clear hb9 hPn hSn HC2))
    all_goals
      go_wp2
      go_meet
      exact ⟨na, nc, n, rfl, rfl, HPl9, HPm9, by exact ⟨_, HPn.out⟩, HSn, hLn, HB9⟩
  case rest =>
  obtain ⟨na, nc, n, rfl, rfl, HPl9, HPm9, HPn9, HSn, hLn, HB9⟩ := hcut
  have hsame := HSl.out.same HSm.out HUM.out
  have hbare := HSl.out.bare HF.out HSn.out
  have hlm : m.length = l.length := hsame.2.symm
  have hln : n.length = l.length := by have := congrArg List.length hbare; simpa using this.symm
  obtain ⟨ln, hln0⟩ : ∃ ln, ln = l.length := ⟨_, rfl⟩
  have HLL : Hid (l.length = ln) := hln0.symm
  have HLM : Hid (m.length = ln) := hlm.trans hln0.symm
  have HLN : Hid (n.length = ln) := hln.trans hln0.symm
  rw [hlm, hln, ← hln0]
  have HSM := hid hsame.1
  have HBA := hid hbare
  rw [← hln0] at HPl9 hLl
  rw [hlm, ← hln0] at HPm9
  rw [hln, ← hln0] at HPn9
  clear hsame hbare hlm hln hln0 HPl7d HPm7d HSl HSm HSn HB7d hLm hLn HC
  have e0 : ((0 : Int) != 0) = false := by decide
  have e1 : ((ln : Int) != (ln : Int)) = false := by simp
  go_wp2_with fail
  go_loopw [19] (fun x wq => ∃ i : Nat, x = .int .i64 (i : Int) ∧ i ≤ ln ∧ Hid (Parsed w4.heap.size wq (.slice la ln lc) l) ∧ Hid (Parsed X.heap.size wq (.slice ma ln mc) m) ∧ Hid (∃ Nn, Parsed Nn wq (.slice na ln nc) n) ∧ Hid (Below (w.heap.size + 1 + 1) W0 wq)) (fun x _ => ln - (intOf x).toNat)
  case atStart => exact ⟨0, rfl, by omega, HPl9, HPm9, HPn9, HB9⟩
  case round =>
    clear HPl9 HPm9 HPn9 HB9
    obtain ⟨i, rfl, hi, HPl, HPm, HPn, HB⟩ := hrel
    by_cases hlt : i < ln
    · have b1 : decide ((i : Int) < (ln : Int)) = true := by simp; omega
      have b2 : (i : Int) < (ln : Int) := by omega
      have ad1 : IntKind.i64.wrap ((i : Int) + 1) = (i : Int) + 1 := by simp [IntKind.wrap, IntKind.bits, IntKind.signed]; omega
      have hil : i < l.length := by rw [HLL.out]; exact hlt
      have hin' : i < n.length := by rw [HLN.out]; exact hlt
      have heq : n[i].1 = l[i].1 := by
        have h1 := congrArg (fun z => z[i]?) HBA.out
        simp [hil, hin'] at h1
        exact h1.symm
      obtain ⟨bl, cl, hla, hcl⟩ : ∃ bl cl, Value.slice la ln lc = .slice (some ⟨bl, 0, none⟩) ln cl ∧ wr.cell? ⟨bl, i * 2, none⟩ = some (.int .i64 l[i].1) := by
        rcases HPl.out.ends with ⟨_, h0⟩ | ⟨b, cap, e, _, _, hc⟩
        · rw [h0] at hil; simp at hil
        · rw [HLL.out] at e; exact ⟨b, cap, e, hc i hil⟩
      obtain ⟨bn, cn, hna, hcn⟩ : ∃ bl cl, Value.slice na ln nc = .slice (some ⟨bl, 0, none⟩) ln cl ∧ wr.cell? ⟨bl, i * 2, none⟩ = some (.int .i64 n[i].1) := by
        obtain ⟨Nn, hPn⟩ := HPn.out
        rcases hPn.ends with ⟨_, h0⟩ | ⟨b, cap, e, _, _, hc⟩
        · rw [h0] at hin'; simp at hin'
        · rw [HLN.out] at e; exact ⟨b, cap, e, hc i hin'⟩
      rw [heq] at hcn
      simp only [Value.slice.injEq] at hla hna
      obtain ⟨rfl, _, rfl⟩ := hla
      obtain ⟨rfl, _, rfl⟩ := hna
      obtain ⟨e, he⟩ : ∃ e, e = l[i].1 := ⟨_, rfl⟩
      rw [← he] at hcl hcn
      have e2 : (e != e) = false := by simp
      clear he heq hil hin'
      go_wp2_with fail
      go_quiet (fail)
      go_wp2
      have hdr : ∀ q, Below wr.heap.size wr (wr.drewN q) := fun q => below_drewN (Below.refl _ _) q
      exact ⟨⟨i + 1, by push_cast; rfl, by omega, by exact HPl.out.kept (hdr _), by exact HPm.out.kept (hdr _), by obtain ⟨Nn, h⟩ := HPn.out; exact ⟨Nn, h.kept (hdr _)⟩, by exact below_drewN HB.out _⟩, by simp [intOf]; omega⟩
    · have b1 : decide ((i : Int) < (ln : Int)) = false := by simp; omega
      obtain rfl : i = ln := by omega
      have hdr : Below wr.heap.size wr wr.drew := (Below.refl _ _).drew
      have HBd : Hid (Below (w.heap.size + 1 + 1) W0 wr.drew) := HB.out.drew
      have hPld := HPl.out.kept hdr
      have HPmd := hid (HPm.out.kept hdr)
      have HC := ends22 _ _ l tn htn (by rw [HLL.out]; omega) wr.drew hPld
      have hsd : W0.heap.size ≤ wr.drew.heap.size := HBd.out.size
      have hys : ∀ W, Below (w.heap.size + 1 + 1) W0 W → W.cell? ⟨w.heap.size + 1, 0, none⟩ = some (.slice ad tn tcap) := fun W hB => (HSX.out W hB).2.2.2.2.2.2.2.2.2.1
      have HYS := hid hys
      have eqq : decide (∀ j, j < tn + 1 → decide ((j : Int) ∈ l.map Prod.fst) = decide ((j : Int) ∈ m.map Prod.fst)) = true := by
        simp only [decide_eq_true_eq]
        intro j hj
        rw [Bool.eq_iff_iff, decide_eq_true_eq, decide_eq_true_eq]
        exact HSM.out _
      have EQQ := hid eqq
      have hlm' : m.length ≤ 65 := by rw [HLM.out]; omega
      have b6 : IntKind.i64.wrap (tn : Int) = (tn : Int) := by simp [IntKind.wrap, IntKind.bits, IntKind.signed]; omega
      clear hdr hPld hys HPl HPm HPn eqq
      go_wp2_with fail
      go_region_held2 (fun W => W.cell? ⟨w.heap.size + 1, 0, none⟩ = some (.slice ad tn tcap))
        (first | exact HYS.out _ HB.out | exact HYS.out _ HBd.out | exact HYS.out _ HB10.out | exact HYS.out _ HB11.out | exact HYS.out _ HB12.out)
        (first | (go_at_call 22; (with_reducible refine HC.mono ?_); rintro e w10 ⟨rfl, hR10, hb10⟩; have HB10 : Hid (Below (w.heap.size + 1 + 1) W0 w10) := HBd.out.trans (Joins.below_le hb10 (by omega)); have hs10 : W0.heap.size ≤ w10.heap.size := HB10.out.size; have HR10 := hid hR10; have HC2 := ends22 _ _ m tn htn hlm' w10 (HPmd.out.kept hb10); clear hb10 hR10 HC) | (go_at_call 22; (with_reducible refine HC2.mono ?_); rintro e w11 ⟨rfl, hR11, hb11⟩; have HB11 : Hid (Below (w.heap.size + 1 + 1) W0 w11) := HB10.out.trans (Joins.below_le hb11 (by omega)); have hs11 : W0.heap.size ≤ w11.heap.size := HB11.out.size; have HC3 := alike21 wr.heap.size w10.heap.size (tn + 1) (tn + 1) (tn + 1) _ _ (by omega) w11 (HR10.out.kept (hb11.block _ HR10.out.lt)) hR11; rw [EQQ.out] at HC3; clear hb11 hR11 HC2) | (go_at_call 21; (with_reducible refine HC3.mono ?_); rintro e w12 ⟨rfl, hb12⟩; have HB12 : Hid (Below (w.heap.size + 1 + 1) W0 w12) := HB11.out.trans (Joins.below_le hb12 (by omega)); clear hb12 HC3))
      all_goals
        go_wp2
        go_ret
        exact ⟨rfl, HX.out _ HB12.out⟩
end Go.Proofs.Ytnpocciioedgpaa
