/- HELPERS: which nodes may be: the document's answer. -/
import Derived.Test.YtdidopgenhpakaaTx
import Derived.Test.YtdidopgenhpakaaTg
namespace Go.Proofs.Ytdidopgenhpakaa
open Go.RowKit
set_option linter.unusedVariables false
set_option linter.unusedSimpArgs false
/-- may a node be, those below it apart? -/
def nodeB (k : Int) (R : List (Int × Int)) (a : Int) (n : Nat) (mn mx : Int) (lz : Bool) (ix : Int) (nm : ByteArray) : Bool :=
  if k = 1 then bareB R.length a n mn mx lz ix nm false false false false false
  else if k = 2 then rightB R && bareB R.length a n mn mx lz ix nm true false false false false
  else if k = 3 then assertB a && bareB R.length a n mn mx lz ix nm false true false false false
  else if k = 4 ∨ k = 5 then decide (2 ≤ n) && bareB R.length a n mn mx lz ix nm false false true false false
  else if k = 6 then decide (n = 1) && decide (0 ≤ mn) && decide (mn ≤ 1000) && (decide (mx = -1) || decide (mn ≤ mx) && decide (mx ≤ 1000)) && bareB R.length a n mn mx lz ix nm false false true true false
  else if k = 7 then decide (n = 1) && decide (1 ≤ ix) && decide (ix ≤ 500) && (nm.toList.isEmpty || nameB nm) && bareB R.length a n mn mx lz ix nm false false true false true
  else false
theorem R2.row {w : World} {B : Nat} {N : Nv} {R : List (Int × Int)} (h : R2 w B N.r1 R) (hr : N.r2 = R.length) : RowAt B w (.slice N.r1 N.r2 N.r3) R := by
  refine ⟨N.r1, N.r3, by rw [hr], ?_⟩
  rcases R with _ | ⟨x, R⟩
  · exact .inl rfl
  · obtain ⟨b, o, h1, h2, h3⟩ := h (by simp)
    refine .inr ⟨b, o, h1, h2, fun k hk => ?_, fun k hk => ?_⟩
    · rw [(h3 k hk).1]; simp only [List.getD_eq_getElem?_getD, List.getElem?_eq_getElem hk, Option.getD_some]
    · rw [(h3 k hk).2]; simp only [List.getD_eq_getElem?_getD, List.getElem?_eq_getElem hk, Option.getD_some]
theorem nodeB_ne {k : Int} {R : List (Int × Int)} {a : Int} {n : Nat} {mn mx : Int} {lz : Bool} {ix : Int} {nm : ByteArray} (h : k ≠ 1 ∧ k ≠ 2 ∧ k ≠ 3 ∧ k ≠ 4 ∧ k ≠ 5 ∧ k ≠ 6 ∧ k ≠ 7) : nodeB k R a n mn mx lz ix nm = false := by
  simp [nodeB, h]
set_option maxRecDepth 100000 in
set_option maxHeartbeats 8000000 in
theorem node60E (N : Nv) (R : List (Int × Int)) (w : World) (ok : N.ok) (hr : N.r2 = R.length) (hR : R2 w w.heap.size N.r1 R) (hk : N.k = 1) :
    Calls Try.prog 52 #[N.v] w fun e w' => e = .returned (.bool (nodeB N.k R N.a2 N.s2 N.a4 N.a5 N.a6 N.a7 N.a8)) ∧ Below w.heap.size w w' := by
  have HB := hid' (Joins.below_alloc1 w (.cells (Array.mk N.cs) 25))
  have HC := bareE N
  have e1 : nodeB N.k R N.a2 N.s2 N.a4 N.a5 N.a6 N.a7 N.a8 = bareB N.r2 N.a2 N.s2 N.a4 N.a5 N.a6 N.a7 N.a8 false false false false false := by simp [nodeB, hk, hr]
  rw [e1]
  generalize bareB N.r2 N.a2 N.s2 N.a4 N.a5 N.a6 N.a7 N.a8 false false false false false = q at HC ⊢
  obtain ⟨k, r1, r2, r3, a2, s1, s2, s3, a4, a5, a6, a7, a8⟩ := N
  simp only at hk
  subst hk
  clear ok hr hR e1
  go_enter Try.func52, Try.ntmps52
  go_wp2_with (first | (go_at_call 76; (with_reducible refine (HC _).mono ?_); rintro e w2 ⟨rfl, hb2⟩; have HB2 := hid' hb2; clear hb2 HC))
  go_ret
  exact ⟨rfl, HB.out.trans (Joins.below_le HB2.out (by simp))⟩
set_option maxRecDepth 100000 in
set_option maxHeartbeats 8000000 in
theorem node60C (N : Nv) (R : List (Int × Int)) (w : World) (ok : N.ok) (hr : N.r2 = R.length) (hR : R2 w w.heap.size N.r1 R) (hk : N.k = 2) :
    Calls Try.prog 52 #[N.v] w fun e w' => e = .returned (.bool (nodeB N.k R N.a2 N.s2 N.a4 N.a5 N.a6 N.a7 N.a8)) ∧ Below w.heap.size w w' := by
  have HB := hid' (Joins.below_alloc1 w (.cells (Array.mk N.cs) 25))
  have HC := bareC N
  have HRR := rright33 R N.r1 N.r2 N.r3 (w.alloc (.cells (Array.mk N.cs) 25)) hr.symm (by have := ok.r; have : maxLen = 9223372036854775807 := rfl; omega) ((R2.row (hR.kept (fun b hb => heap_alloc_old w _ hb)) hr).below (Below.refl _ _) (Nat.le_refl _) (by simp))
  have e1 : nodeB N.k R N.a2 N.s2 N.a4 N.a5 N.a6 N.a7 N.a8 = (rightB R && bareB N.r2 N.a2 N.s2 N.a4 N.a5 N.a6 N.a7 N.a8 true false false false false) := by simp [nodeB, hk, hr]
  rw [e1]
  generalize bareB N.r2 N.a2 N.s2 N.a4 N.a5 N.a6 N.a7 N.a8 true false false false false = q at HC ⊢
  generalize rightB R = q2 at HRR ⊢
  obtain ⟨k, r1, r2, r3, a2, s1, s2, s3, a4, a5, a6, a7, a8⟩ := N
  simp only at hk
  subst hk
  clear ok hr hR e1
  cases q2
  · go_enter Try.func52, Try.ntmps52
    go_wp2_with (first | (go_at_call 77; (with_reducible refine HRR.mono ?_); rintro e w2 ⟨rfl, hb2⟩; obtain ⟨x0, x1, x2, x3, x4, x5, x6, x7, x8⟩ := nine' ((hb2.block w.heap.size (by simp)).trans (heap_alloc_new w _)); have HB2 := hid' hb2; clear hb2 HRR) | (go_at_call 76; (with_reducible refine (HC _).mono ?_); rintro e w3 ⟨rfl, hb3⟩; have HB3 := hid' hb3; clear hb3 HC))
    go_ret
    exact ⟨rfl, HB.out.trans (Joins.below_le HB2.out (by simp))⟩
  · go_enter Try.func52, Try.ntmps52
    go_wp2_with (first | (go_at_call 77; (with_reducible refine HRR.mono ?_); rintro e w2 ⟨rfl, hb2⟩; obtain ⟨x0, x1, x2, x3, x4, x5, x6, x7, x8⟩ := nine' ((hb2.block w.heap.size (by simp)).trans (heap_alloc_new w _)); have HB2 := hid' hb2; clear hb2 HRR) | (go_at_call 76; (with_reducible refine (HC _).mono ?_); rintro e w3 ⟨rfl, hb3⟩; have HB3 := hid' hb3; clear hb3 HC))
    go_ret
    exact ⟨by simp, (HB.out.trans (Joins.below_le HB2.out (by simp))).trans (Joins.below_le HB3.out (by have := HB2.out.size; simp at this; omega))⟩
set_option maxRecDepth 100000 in
set_option maxHeartbeats 8000000 in
theorem node60A (N : Nv) (R : List (Int × Int)) (w : World) (ok : N.ok) (hr : N.r2 = R.length) (hR : R2 w w.heap.size N.r1 R) (hk : N.k = 3) :
    Calls Try.prog 52 #[N.v] w fun e w' => e = .returned (.bool (nodeB N.k R N.a2 N.s2 N.a4 N.a5 N.a6 N.a7 N.a8)) ∧ Below w.heap.size w w' := by
  have HB := hid' (Joins.below_alloc1 w (.cells (Array.mk N.cs) 25))
  have HC := bareA N
  have HAA := assertion74 N.a2
  have e1 : nodeB N.k R N.a2 N.s2 N.a4 N.a5 N.a6 N.a7 N.a8 = (assertB N.a2 && bareB N.r2 N.a2 N.s2 N.a4 N.a5 N.a6 N.a7 N.a8 false true false false false) := by simp [nodeB, hk, hr]
  rw [e1]
  generalize bareB N.r2 N.a2 N.s2 N.a4 N.a5 N.a6 N.a7 N.a8 false true false false false = q at HC ⊢
  generalize assertB N.a2 = q2 at HAA ⊢
  obtain ⟨k, r1, r2, r3, a2, s1, s2, s3, a4, a5, a6, a7, a8⟩ := N
  simp only at hk
  subst hk
  clear ok hr hR e1
  cases q2
  · go_enter Try.func52, Try.ntmps52
    go_wp2_with (first | (go_at_call 78; (with_reducible refine (HAA _).mono ?_); rintro e w2 ⟨rfl, hww⟩; subst hww) | (go_at_call 76; (with_reducible refine (HC _).mono ?_); rintro e w3 ⟨rfl, hb3⟩; have HB3 := hid' hb3; clear hb3 HC))
    go_ret
    exact ⟨rfl, HB.out⟩
  · go_enter Try.func52, Try.ntmps52
    go_wp2_with (first | (go_at_call 78; (with_reducible refine (HAA _).mono ?_); rintro e w2 ⟨rfl, hww⟩; subst hww) | (go_at_call 76; (with_reducible refine (HC _).mono ?_); rintro e w3 ⟨rfl, hb3⟩; have HB3 := hid' hb3; clear hb3 HC))
    go_ret
    exact ⟨by simp, HB.out.trans (Joins.below_le HB3.out (by simp))⟩
set_option maxRecDepth 100000 in
set_option maxHeartbeats 8000000 in
theorem node60S4 (N : Nv) (R : List (Int × Int)) (w : World) (ok : N.ok) (hr : N.r2 = R.length) (hR : R2 w w.heap.size N.r1 R) (hk : N.k = 4) :
    Calls Try.prog 52 #[N.v] w fun e w' => e = .returned (.bool (nodeB N.k R N.a2 N.s2 N.a4 N.a5 N.a6 N.a7 N.a8)) ∧ Below w.heap.size w w' := by
  have HB := hid' (Joins.below_alloc1 w (.cells (Array.mk N.cs) 25))
  have HC := bareS N
  have e1 : nodeB N.k R N.a2 N.s2 N.a4 N.a5 N.a6 N.a7 N.a8 = (decide (2 ≤ N.s2) && bareB N.r2 N.a2 N.s2 N.a4 N.a5 N.a6 N.a7 N.a8 false false true false false) := by simp [nodeB, hk, hr]
  rw [e1]
  generalize bareB N.r2 N.a2 N.s2 N.a4 N.a5 N.a6 N.a7 N.a8 false false true false false = q at HC ⊢
  have hm2 : N.s2 ≤ 9223372036854775807 := by have := ok.s; have : maxLen = 9223372036854775807 := rfl; omega
  obtain ⟨k, r1, r2, r3, a2, s1, s2, s3, a4, a5, a6, a7, a8⟩ := N
  simp only at hk hm2
  subst hk
  clear ok hr hR e1
  by_cases h2 : 2 ≤ s2
  · have b1 : decide ((s2 : Int) ≥ 2) = true := by simp; omega
    have b2 : decide ((2 : Int) ≤ (s2 : Int)) = true := by simp; omega
    have e2 : decide (2 ≤ s2) = true := by simp; omega
    rw [e2]
    go_enter Try.func52, Try.ntmps52
    go_wp2_with (first | (go_at_call 76; (with_reducible refine (HC _).mono ?_); rintro e w3 ⟨rfl, hb3⟩; have HB3 := hid' hb3; clear hb3 HC))
    go_ret
    exact ⟨by simp, HB.out.trans (Joins.below_le HB3.out (by simp))⟩
  · have b1 : decide ((s2 : Int) ≥ 2) = false := by simp; omega
    have b2 : decide ((2 : Int) ≤ (s2 : Int)) = false := by simp; omega
    have e2 : decide (2 ≤ s2) = false := by simp; omega
    rw [e2]
    go_enter Try.func52, Try.ntmps52
    go_wp2_with (first | (go_at_call 76; (with_reducible refine (HC _).mono ?_); rintro e w3 ⟨rfl, hb3⟩; have HB3 := hid' hb3; clear hb3 HC))
    go_ret
    exact ⟨by simp, HB.out⟩
set_option maxRecDepth 100000 in
set_option maxHeartbeats 8000000 in
theorem node60S5 (N : Nv) (R : List (Int × Int)) (w : World) (ok : N.ok) (hr : N.r2 = R.length) (hR : R2 w w.heap.size N.r1 R) (hk : N.k = 5) :
    Calls Try.prog 52 #[N.v] w fun e w' => e = .returned (.bool (nodeB N.k R N.a2 N.s2 N.a4 N.a5 N.a6 N.a7 N.a8)) ∧ Below w.heap.size w w' := by
  have HB := hid' (Joins.below_alloc1 w (.cells (Array.mk N.cs) 25))
  have HC := bareS N
  have e1 : nodeB N.k R N.a2 N.s2 N.a4 N.a5 N.a6 N.a7 N.a8 = (decide (2 ≤ N.s2) && bareB N.r2 N.a2 N.s2 N.a4 N.a5 N.a6 N.a7 N.a8 false false true false false) := by simp [nodeB, hk, hr]
  rw [e1]
  generalize bareB N.r2 N.a2 N.s2 N.a4 N.a5 N.a6 N.a7 N.a8 false false true false false = q at HC ⊢
  have hm2 : N.s2 ≤ 9223372036854775807 := by have := ok.s; have : maxLen = 9223372036854775807 := rfl; omega
  obtain ⟨k, r1, r2, r3, a2, s1, s2, s3, a4, a5, a6, a7, a8⟩ := N
  simp only at hk hm2
  subst hk
  clear ok hr hR e1
  by_cases h2 : 2 ≤ s2
  · have b1 : decide ((s2 : Int) ≥ 2) = true := by simp; omega
    have b2 : decide ((2 : Int) ≤ (s2 : Int)) = true := by simp; omega
    have e2 : decide (2 ≤ s2) = true := by simp; omega
    rw [e2]
    go_enter Try.func52, Try.ntmps52
    go_wp2_with (first | (go_at_call 76; (with_reducible refine (HC _).mono ?_); rintro e w3 ⟨rfl, hb3⟩; have HB3 := hid' hb3; clear hb3 HC))
    go_ret
    exact ⟨by simp, HB.out.trans (Joins.below_le HB3.out (by simp))⟩
  · have b1 : decide ((s2 : Int) ≥ 2) = false := by simp; omega
    have b2 : decide ((2 : Int) ≤ (s2 : Int)) = false := by simp; omega
    have e2 : decide (2 ≤ s2) = false := by simp; omega
    rw [e2]
    go_enter Try.func52, Try.ntmps52
    go_wp2_with (first | (go_at_call 76; (with_reducible refine (HC _).mono ?_); rintro e w3 ⟨rfl, hb3⟩; have HB3 := hid' hb3; clear hb3 HC))
    go_ret
    exact ⟨by simp, HB.out⟩
set_option maxRecDepth 100000 in
set_option maxHeartbeats 8000000 in
theorem node60R (N : Nv) (R : List (Int × Int)) (w : World) (ok : N.ok) (hr : N.r2 = R.length) (hR : R2 w w.heap.size N.r1 R) (hk : N.k = 6) :
    Calls Try.prog 52 #[N.v] w fun e w' => e = .returned (.bool (nodeB N.k R N.a2 N.s2 N.a4 N.a5 N.a6 N.a7 N.a8)) ∧ Below w.heap.size w w' := by
  have HB := hid' (Joins.below_alloc1 w (.cells (Array.mk N.cs) 25))
  have HC := bareR N
  have e1 : nodeB N.k R N.a2 N.s2 N.a4 N.a5 N.a6 N.a7 N.a8 = (decide (N.s2 = 1) && decide (0 ≤ N.a4) && decide (N.a4 ≤ 1000) && (decide (N.a5 = -1) || decide (N.a4 ≤ N.a5) && decide (N.a5 ≤ 1000)) && bareB N.r2 N.a2 N.s2 N.a4 N.a5 N.a6 N.a7 N.a8 false false true true false) := by simp [nodeB, hk, hr]
  rw [e1]
  generalize bareB N.r2 N.a2 N.s2 N.a4 N.a5 N.a6 N.a7 N.a8 false false true true false = q at HC ⊢
  have hm2 : N.s2 ≤ 9223372036854775807 := by have := ok.s; have : maxLen = 9223372036854775807 := rfl; omega
  obtain ⟨k, r1, r2, r3, a2, s1, s2, s3, a4, a5, a6, a7, a8⟩ := N
  simp only at hk hm2
  subst hk
  clear ok hr hR e1
  by_cases h5 : a5 = -1
  · subst h5
    go_enter Try.func52, Try.ntmps52
    go_wp2_with (first | (go_at_call 76; (with_reducible refine (HC _).mono ?_); rintro e w3 ⟨rfl, hb3⟩; have HB3 := hid' hb3; clear hb3 HC))
    all_goals go_ret
    all_goals (refine ⟨ret_bool ?_, by first | exact HB.out | exact HB.out.trans (Joins.below_le HB3.out (by simp))⟩)
    all_goals clear HB
    all_goals (try clear HB3)
    all_goals (try clear HC)
    all_goals (try clear HN)
    all_goals simp_all
    all_goals (intros; omega)
  · have h5' : (a5 == -1) = false := by simpa using h5
    go_enter Try.func52, Try.ntmps52
    go_wp2_with (first | (go_at_call 76; (with_reducible refine (HC _).mono ?_); rintro e w3 ⟨rfl, hb3⟩; have HB3 := hid' hb3; clear hb3 HC))
    all_goals go_ret
    all_goals (refine ⟨ret_bool ?_, by first | exact HB.out | exact HB.out.trans (Joins.below_le HB3.out (by simp))⟩)
    all_goals clear HB
    all_goals (try clear HB3)
    all_goals (try clear HC)
    all_goals (try clear HN)
    all_goals simp_all
    all_goals (intros; omega)
set_option maxRecDepth 100000 in
set_option maxHeartbeats 8000000 in
theorem node60G (N : Nv) (R : List (Int × Int)) (w : World) (ok : N.ok) (hr : N.r2 = R.length) (hR : R2 w w.heap.size N.r1 R) (hk : N.k = 7) :
    Calls Try.prog 52 #[N.v] w fun e w' => e = .returned (.bool (nodeB N.k R N.a2 N.s2 N.a4 N.a5 N.a6 N.a7 N.a8)) ∧ Below w.heap.size w w' := by
  have HB := hid' (Joins.below_alloc1 w (.cells (Array.mk N.cs) 25))
  have HC := bareG N
  have HN := fun w => name75 N.a8 w (by have := ok.a8; have : maxLen = 9223372036854775807 := rfl; omega)
  have e1 : nodeB N.k R N.a2 N.s2 N.a4 N.a5 N.a6 N.a7 N.a8 = (decide (N.s2 = 1) && decide (1 ≤ N.a7) && decide (N.a7 ≤ 500) && (N.a8.toList.isEmpty || nameB N.a8) && bareB N.r2 N.a2 N.s2 N.a4 N.a5 N.a6 N.a7 N.a8 false false true false true) := by simp [nodeB, hk, hr]
  rw [e1]
  generalize bareB N.r2 N.a2 N.s2 N.a4 N.a5 N.a6 N.a7 N.a8 false false true false true = q at HC ⊢
  generalize nameB N.a8 = q2 at HN ⊢
  have hm2 : N.s2 ≤ 9223372036854775807 := by have := ok.s; have : maxLen = 9223372036854775807 := rfl; omega
  obtain ⟨k, r1, r2, r3, a2, s1, s2, s3, a4, a5, a6, a7, a8⟩ := N
  simp only at hk hm2
  subst hk
  clear ok hr hR e1
  go_enter Try.func52, Try.ntmps52
  go_wp2_with (first | (go_at_call 79; (with_reducible refine (HN _).mono ?_); rintro e w2 ⟨rfl, hww⟩; subst hww) | (go_at_call 76; (with_reducible refine (HC _).mono ?_); rintro e w3 ⟨rfl, hb3⟩; have HB3 := hid' hb3; clear hb3 HC))
  all_goals go_ret
  all_goals (refine ⟨ret_bool ?_, by first | exact HB.out | exact HB.out.trans (Joins.below_le HB3.out (by simp))⟩)
  all_goals clear HB
  all_goals (try clear HB3)
  all_goals (try clear HC)
  all_goals (try clear HN)
  all_goals simp_all
  all_goals (intros; omega)
set_option maxRecDepth 100000 in
set_option maxHeartbeats 8000000 in
theorem node60O (N : Nv) (R : List (Int × Int)) (w : World) (ok : N.ok) (hr : N.r2 = R.length) (hR : R2 w w.heap.size N.r1 R) (hk : N.k ≠ 1 ∧ N.k ≠ 2 ∧ N.k ≠ 3 ∧ N.k ≠ 4 ∧ N.k ≠ 5 ∧ N.k ≠ 6 ∧ N.k ≠ 7) :
    Calls Try.prog 52 #[N.v] w fun e w' => e = .returned (.bool (nodeB N.k R N.a2 N.s2 N.a4 N.a5 N.a6 N.a7 N.a8)) ∧ Below w.heap.size w w' := by
  have HB := hid' (Joins.below_alloc1 w (.cells (Array.mk N.cs) 25))
  rw [nodeB_ne hk]
  obtain ⟨k1, k2, k3, k4, k5, k6, k7⟩ := hk
  have j1 : (N.k == 1) = false := by simpa using k1
  have j2 : (N.k == 2) = false := by simpa using k2
  have j3 : (N.k == 3) = false := by simpa using k3
  have j4 : (N.k == 4) = false := by simpa using k4
  have j5 : (N.k == 5) = false := by simpa using k5
  have j6 : (N.k == 6) = false := by simpa using k6
  have j7 : (N.k == 7) = false := by simpa using k7
  obtain ⟨k, r1, r2, r3, a2, s1, s2, s3, a4, a5, a6, a7, a8⟩ := N
  simp only at j1 j2 j3 j4 j5 j6 j7
  clear ok hr hR k1 k2 k3 k4 k5 k6 k7
  go_enter Try.func52, Try.ntmps52
  go_wp2
  go_ret
  exact ⟨rfl, HB.out⟩
theorem node60 (N : Nv) (R : List (Int × Int)) (w : World) (ok : N.ok) (hr : N.r2 = R.length) (hR : R2 w w.heap.size N.r1 R) :
    Calls Try.prog 52 #[N.v] w fun e w' => e = .returned (.bool (nodeB N.k R N.a2 N.s2 N.a4 N.a5 N.a6 N.a7 N.a8)) ∧ Below w.heap.size w w' := by
  by_cases k1 : N.k = 1
  · exact node60E N R w ok hr hR k1
  by_cases k2 : N.k = 2
  · exact node60C N R w ok hr hR k2
  by_cases k3 : N.k = 3
  · exact node60A N R w ok hr hR k3
  by_cases k4 : N.k = 4
  · exact node60S4 N R w ok hr hR k4
  by_cases k5 : N.k = 5
  · exact node60S5 N R w ok hr hR k5
  by_cases k6 : N.k = 6
  · exact node60R N R w ok hr hR k6
  by_cases k7 : N.k = 7
  · exact node60G N R w ok hr hR k7
  · exact node60O N R w ok hr hR ⟨k1, k2, k3, k4, k5, k6, k7⟩
end Go.Proofs.Ytdidopgenhpakaa
