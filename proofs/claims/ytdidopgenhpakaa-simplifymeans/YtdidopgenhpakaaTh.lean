/- HELPERS: which nodes may be: the program's answer. -/
import Derived.Test.YtdidopgenhpakaaTe
namespace Go.Proofs.Ytdidopgenhpakaa
open Go.RowKit
set_option linter.unusedVariables false
set_option linter.unusedSimpArgs false
theorem two_len (r s : Nat) (h : ¬ (r = 0 ∧ s = 0)) (hr : r ≤ 9223372036854775807) (hs : s ≤ 9223372036854775807) : (wrap64 ((r : Int) + (s : Int)) == 0) = false := by
  have : wrap64 ((r : Int) + (s : Int)) ≠ 0 := by unfold wrap64; omega
  simpa using this
set_option maxRecDepth 100000 in
set_option maxHeartbeats 8000000 in
theorem zero80 (N : Nv) (w : World) (hk : N.k = 0) (hr : N.r2 ≤ 9223372036854775807) (hs : N.s2 ≤ 9223372036854775807) :
    Calls Try.prog 94 #[N.v] w fun e w' => e = .returned (.bool (bareB N.r2 N.a2 N.s2 N.a4 N.a5 N.a6 N.a7 N.a8 false false false false false)) ∧ Below w.heap.size w w' := by
  obtain ⟨k, r1, r2, r3, a2, s1, s2, s3, a4, a5, a6, a7, a8⟩ := N
  simp only at hk hr hs
  subst hk
  by_cases h0 : r2 = 0 ∧ s2 = 0
  · obtain ⟨rfl, rfl⟩ := h0
    go_enter Try.func94, Try.ntmps94
    go_wp2
    all_goals go_ret
    all_goals (refine ⟨ret_bool ?_, Joins.below_alloc1 w _⟩)
    all_goals simp_all [bareB]
  · have e1 := two_len r2 s2 h0 hr hs
    have e2 : bareB r2 a2 s2 a4 a5 a6 a7 a8 false false false false false = false := by
      simp [bareB]
      intro h
      omega
    rw [e2]
    go_enter Try.func94, Try.ntmps94
    go_wp2
    go_ret
    exact ⟨rfl, Joins.below_alloc1 w _⟩
set_option maxHeartbeats 1000000 in
theorem right_long' (ad : Option Addr) (n cap : Nat) (w : World) (hS : 5000 < n) (hS2 : n ≤ 9223372036854775807) :
    Calls Try.prog 90 #[.slice ad n cap] w fun e w' => e = .returned (.bool false) ∧ Below w.heap.size w w' := by
  go_enter Try.func90, Try.ntmps90
  go_wp2
  go_ret
  exact ⟨rfl, Below.refl _ _⟩
theorem right76 (L : List (Int × Int)) (ad : Option Addr) (n cap : Nat) (w : World) (hn : n = L.length) (hS2 : n ≤ 9223372036854775807) (hl : RowAt w.heap.size w (.slice ad n cap) L) :
    Calls Try.prog 90 #[.slice ad n cap] w fun e w' => e = .returned (.bool (rightB L)) ∧ Below w.heap.size w w' := by
  by_cases h : n ≤ 5000
  · have e : rightB L = rightFrom 0 L := by unfold rightB; rw [← hn]; simp [h]
    rw [e]
    exact right_short L ad n cap w hn h hl
  · have e : rightB L = false := by unfold rightB; rw [← hn]; simp [h]
    rw [e]
    exact right_long' ad n cap w (by omega) hS2
theorem isAssert77 (n : Int) (w : World) : Calls Try.prog 91 #[.int .i64 n] w fun e w' => e = .returned (.bool (assertB n)) ∧ w' = w := by
  go_enter Try.func91, Try.ntmps91
  go_wp2
  all_goals go_ret
  all_goals exact ⟨ret_bool (by simp_all [assertB]), rfl⟩
def countB (mn mx : Int) : Bool := decide (0 ≤ mn) && decide (mn ≤ 1000) && (decide (mx = -1) || decide (mn ≤ mx) && decide (mx ≤ 1000))
set_option maxRecDepth 100000 in
theorem isCount78g (mn mx : Int) (w : World) : Calls Try.prog 92 #[.int .i64 mn, .int .i64 mx] w fun e w' => e = .returned (.bool (countB mn mx)) ∧ w' = w := by
  go_enter Try.func92, Try.ntmps92
  go_wp2
  all_goals go_ret
  all_goals refine ⟨ret_bool ?_, rfl⟩
  all_goals (rw [Bool.eq_iff_iff]; simp [countB])
  all_goals omega
theorem empty_list : (⟨#[]⟩ : ByteArray).toList = [] := by rw [ByteArray.toList_eq]
theorem two_new (w : World) (o : Obj) (c : Array Value) (t : TypeId) : ((w.alloc o).alloc (.cells c t)).heap[w.heap.size + 1]? = some (.cells c t (0, 0)) := by
  have e : (w.alloc o).heap.size = w.heap.size + 1 := by simp
  rw [← e]
  exact heap_alloc_new _ _
theorem below_two' (w : World) (o o' : Obj) : Below w.heap.size w ((w.alloc o).alloc o') := (Joins.below_alloc1 w o).trans (Joins.below_le (Joins.below_alloc1 _ o') (by simp))
set_option maxRecDepth 100000 in
set_option maxHeartbeats 8000000 in
theorem sound61E (N : Nv) (R : List (Int × Int)) (w : World) (ok : N.ok) (hr : N.r2 = R.length) (hR : R2 w w.heap.size N.r1 R) (hk : N.k = 1) :
    Calls Try.prog 60 #[N.v] w fun e w' => e = .returned (.bool (nodeB N.k R N.a2 N.s2 N.a4 N.a5 N.a6 N.a7 N.a8)) ∧ Below w.heap.size w w' := by
  have hr2 : N.r2 ≤ 9223372036854775807 := by have := ok.r; have : maxLen = 9223372036854775807 := rfl; omega
  have hs2 : N.s2 ≤ 9223372036854775807 := by have := ok.s; have : maxLen = 9223372036854775807 := rfl; omega
  have HC : ∀ w, Calls Try.prog 94 #[Nv.v { N with k := 0 }] w fun e w' => e = .returned (.bool (bareB N.r2 N.a2 N.s2 N.a4 N.a5 N.a6 N.a7 N.a8 false false false false false)) ∧ Below w.heap.size w w' := fun w => by
    have h := zero80 { N with k := 0 } w rfl hr2 hs2
    have e : bareB ({ N with k := 0 } : Nv).r2 ({ N with k := 0 } : Nv).a2 ({ N with k := 0 } : Nv).s2 ({ N with k := 0 } : Nv).a4 ({ N with k := 0 } : Nv).a5 ({ N with k := 0 } : Nv).a6 ({ N with k := 0 } : Nv).a7 ({ N with k := 0 } : Nv).a8 false false false false false = bareB N.r2 N.a2 N.s2 N.a4 N.a5 N.a6 N.a7 N.a8 false false false false false := by simp [bareB]
    rw [e] at h
    exact h
  have e1 : nodeB N.k R N.a2 N.s2 N.a4 N.a5 N.a6 N.a7 N.a8 = bareB N.r2 N.a2 N.s2 N.a4 N.a5 N.a6 N.a7 N.a8 false false false false false := by simp [nodeB, hk, hr]
  rw [e1]
  generalize bareB N.r2 N.a2 N.s2 N.a4 N.a5 N.a6 N.a7 N.a8 false false false false false = q at HC ⊢
  obtain ⟨k, r1, r2, r3, a2, s1, s2, s3, a4, a5, a6, a7, a8⟩ := N
  simp only at hk
  subst hk
  clear ok hr hR e1 hr2 hs2
  go_enter Try.func60, Try.ntmps60
  go_wp2_with (first | (go_at_call 94; (with_reducible refine (HC _).mono ?_); rintro e w3 ⟨rfl, hb3⟩; have HB3 := hid' hb3; clear hb3 HC))
  go_ret
  exact ⟨rfl, (below_two' w _ _).trans (Joins.below_le HB3.out (by simp; try omega))⟩
set_option maxRecDepth 100000 in
set_option maxHeartbeats 8000000 in
theorem sound61C (N : Nv) (R : List (Int × Int)) (w : World) (ok : N.ok) (hr : N.r2 = R.length) (hR : R2 w w.heap.size N.r1 R) (hk : N.k = 2) :
    Calls Try.prog 60 #[N.v] w fun e w' => e = .returned (.bool (nodeB N.k R N.a2 N.s2 N.a4 N.a5 N.a6 N.a7 N.a8)) ∧ Below w.heap.size w w' := by
  have hr2 : N.r2 ≤ 9223372036854775807 := by have := ok.r; have : maxLen = 9223372036854775807 := rfl; omega
  have hs2 : N.s2 ≤ 9223372036854775807 := by have := ok.s; have : maxLen = 9223372036854775807 := rfl; omega
  have HC : ∀ w, Calls Try.prog 94 #[Nv.v { N with k := 0, r1 := none, r2 := 0, r3 := 0 }] w fun e w' => e = .returned (.bool (bareB N.r2 N.a2 N.s2 N.a4 N.a5 N.a6 N.a7 N.a8 true false false false false)) ∧ Below w.heap.size w w' := fun w => by
    have h := zero80 { N with k := 0, r1 := none, r2 := 0, r3 := 0 } w rfl (by simp) hs2
    have e : bareB ({ N with k := 0, r1 := none, r2 := 0, r3 := 0 } : Nv).r2 ({ N with k := 0, r1 := none, r2 := 0, r3 := 0 } : Nv).a2 ({ N with k := 0, r1 := none, r2 := 0, r3 := 0 } : Nv).s2 ({ N with k := 0, r1 := none, r2 := 0, r3 := 0 } : Nv).a4 ({ N with k := 0, r1 := none, r2 := 0, r3 := 0 } : Nv).a5 ({ N with k := 0, r1 := none, r2 := 0, r3 := 0 } : Nv).a6 ({ N with k := 0, r1 := none, r2 := 0, r3 := 0 } : Nv).a7 ({ N with k := 0, r1 := none, r2 := 0, r3 := 0 } : Nv).a8 false false false false false = bareB N.r2 N.a2 N.s2 N.a4 N.a5 N.a6 N.a7 N.a8 true false false false false := by simp [bareB]
    rw [e] at h
    exact h
  have HRR : ∀ o o', Calls Try.prog 90 #[.slice N.r1 N.r2 N.r3] ((w.alloc o).alloc o') fun e w' => e = .returned (.bool (rightB R)) ∧ Below ((w.alloc o).alloc o').heap.size ((w.alloc o).alloc o') w' := fun o o' =>
    right76 R N.r1 N.r2 N.r3 _ hr hr2 ((R2.row (hR.kept (fun b hb => (heap_alloc_old _ _ (by simp; omega)).trans (heap_alloc_old w _ hb))) hr).below (Below.refl _ _) (Nat.le_refl _) (by simp; try omega))
  have e1 : nodeB N.k R N.a2 N.s2 N.a4 N.a5 N.a6 N.a7 N.a8 = (rightB R && bareB N.r2 N.a2 N.s2 N.a4 N.a5 N.a6 N.a7 N.a8 true false false false false) := by simp [nodeB, hk, hr]
  rw [e1]
  generalize bareB N.r2 N.a2 N.s2 N.a4 N.a5 N.a6 N.a7 N.a8 true false false false false = q at HC ⊢
  generalize rightB R = q2 at HRR ⊢
  obtain ⟨k, r1, r2, r3, a2, s1, s2, s3, a4, a5, a6, a7, a8⟩ := N
  simp only at hk
  subst hk
  clear ok hr hR e1 hr2 hs2
  cases q2
  · go_enter Try.func60, Try.ntmps60
    go_wp2_with (first | (go_at_call 90; (with_reducible refine (HRR _ _).mono ?_); rintro e w2 ⟨rfl, hb2⟩; obtain ⟨x0, x1, x2, x3, x4, x5, x6, x7, x8⟩ := nine' ((hb2.block (w.heap.size + 1) (by simp)).trans (two_new w _ _ _)); have HB2 := hid' hb2; clear hb2 HRR) | (go_at_call 94; (with_reducible refine (HC _).mono ?_); rintro e w3 ⟨rfl, hb3⟩; have HB3 := hid' hb3; clear hb3 HC))
    go_ret
    exact ⟨rfl, (below_two' w _ _).trans (Joins.below_le HB2.out (by simp; try omega))⟩
  · go_enter Try.func60, Try.ntmps60
    go_wp2_with (first | (go_at_call 90; (with_reducible refine (HRR _ _).mono ?_); rintro e w2 ⟨rfl, hb2⟩; obtain ⟨x0, x1, x2, x3, x4, x5, x6, x7, x8⟩ := nine' ((hb2.block (w.heap.size + 1) (by simp)).trans (two_new w _ _ _)); have HB2 := hid' hb2; clear hb2 HRR) | (go_at_call 94; (with_reducible refine (HC _).mono ?_); rintro e w3 ⟨rfl, hb3⟩; have HB3 := hid' hb3; clear hb3 HC))
    go_ret
    exact ⟨by simp, ((below_two' w _ _).trans (Joins.below_le HB2.out (by simp; try omega))).trans (Joins.below_le HB3.out (by have := HB2.out.size; simp at this; omega))⟩
set_option maxRecDepth 100000 in
set_option maxHeartbeats 8000000 in
theorem sound61A (N : Nv) (R : List (Int × Int)) (w : World) (ok : N.ok) (hr : N.r2 = R.length) (hR : R2 w w.heap.size N.r1 R) (hk : N.k = 3) :
    Calls Try.prog 60 #[N.v] w fun e w' => e = .returned (.bool (nodeB N.k R N.a2 N.s2 N.a4 N.a5 N.a6 N.a7 N.a8)) ∧ Below w.heap.size w w' := by
  have hr2 : N.r2 ≤ 9223372036854775807 := by have := ok.r; have : maxLen = 9223372036854775807 := rfl; omega
  have hs2 : N.s2 ≤ 9223372036854775807 := by have := ok.s; have : maxLen = 9223372036854775807 := rfl; omega
  have HC : ∀ w, Calls Try.prog 94 #[Nv.v { N with k := 0, a2 := 0 }] w fun e w' => e = .returned (.bool (bareB N.r2 N.a2 N.s2 N.a4 N.a5 N.a6 N.a7 N.a8 false true false false false)) ∧ Below w.heap.size w w' := fun w => by
    have h := zero80 { N with k := 0, a2 := 0 } w rfl hr2 hs2
    have e : bareB ({ N with k := 0, a2 := 0 } : Nv).r2 ({ N with k := 0, a2 := 0 } : Nv).a2 ({ N with k := 0, a2 := 0 } : Nv).s2 ({ N with k := 0, a2 := 0 } : Nv).a4 ({ N with k := 0, a2 := 0 } : Nv).a5 ({ N with k := 0, a2 := 0 } : Nv).a6 ({ N with k := 0, a2 := 0 } : Nv).a7 ({ N with k := 0, a2 := 0 } : Nv).a8 false false false false false = bareB N.r2 N.a2 N.s2 N.a4 N.a5 N.a6 N.a7 N.a8 false true false false false := by simp [bareB]
    rw [e] at h
    exact h
  have HAA := isAssert77 N.a2
  have e1 : nodeB N.k R N.a2 N.s2 N.a4 N.a5 N.a6 N.a7 N.a8 = (assertB N.a2 && bareB N.r2 N.a2 N.s2 N.a4 N.a5 N.a6 N.a7 N.a8 false true false false false) := by simp [nodeB, hk, hr]
  rw [e1]
  generalize bareB N.r2 N.a2 N.s2 N.a4 N.a5 N.a6 N.a7 N.a8 false true false false false = q at HC ⊢
  generalize assertB N.a2 = q2 at HAA ⊢
  obtain ⟨k, r1, r2, r3, a2, s1, s2, s3, a4, a5, a6, a7, a8⟩ := N
  simp only at hk
  subst hk
  clear ok hr hR e1 hr2 hs2
  cases q2
  · go_enter Try.func60, Try.ntmps60
    go_wp2_with (first | (go_at_call 91; (with_reducible refine (HAA _).mono ?_); rintro e w2 ⟨rfl, hww⟩; subst hww) | (go_at_call 94; (with_reducible refine (HC _).mono ?_); rintro e w3 ⟨rfl, hb3⟩; have HB3 := hid' hb3; clear hb3 HC))
    go_ret
    exact ⟨rfl, below_two' w _ _⟩
  · go_enter Try.func60, Try.ntmps60
    go_wp2_with (first | (go_at_call 91; (with_reducible refine (HAA _).mono ?_); rintro e w2 ⟨rfl, hww⟩; subst hww) | (go_at_call 94; (with_reducible refine (HC _).mono ?_); rintro e w3 ⟨rfl, hb3⟩; have HB3 := hid' hb3; clear hb3 HC))
    go_ret
    exact ⟨by simp, (below_two' w _ _).trans (Joins.below_le HB3.out (by simp; try omega))⟩
set_option maxRecDepth 100000 in
set_option maxHeartbeats 8000000 in
theorem sound61S4 (N : Nv) (R : List (Int × Int)) (w : World) (ok : N.ok) (hr : N.r2 = R.length) (hR : R2 w w.heap.size N.r1 R) (hk : N.k = 4) :
    Calls Try.prog 60 #[N.v] w fun e w' => e = .returned (.bool (nodeB N.k R N.a2 N.s2 N.a4 N.a5 N.a6 N.a7 N.a8)) ∧ Below w.heap.size w w' := by
  have hr2 : N.r2 ≤ 9223372036854775807 := by have := ok.r; have : maxLen = 9223372036854775807 := rfl; omega
  have hs2 : N.s2 ≤ 9223372036854775807 := by have := ok.s; have : maxLen = 9223372036854775807 := rfl; omega
  have HC : ∀ w, Calls Try.prog 94 #[Nv.v { N with k := 0, s1 := none, s2 := 0, s3 := 0 }] w fun e w' => e = .returned (.bool (bareB N.r2 N.a2 N.s2 N.a4 N.a5 N.a6 N.a7 N.a8 false false true false false)) ∧ Below w.heap.size w w' := fun w => by
    have h := zero80 { N with k := 0, s1 := none, s2 := 0, s3 := 0 } w rfl hr2 (by simp)
    have e : bareB ({ N with k := 0, s1 := none, s2 := 0, s3 := 0 } : Nv).r2 ({ N with k := 0, s1 := none, s2 := 0, s3 := 0 } : Nv).a2 ({ N with k := 0, s1 := none, s2 := 0, s3 := 0 } : Nv).s2 ({ N with k := 0, s1 := none, s2 := 0, s3 := 0 } : Nv).a4 ({ N with k := 0, s1 := none, s2 := 0, s3 := 0 } : Nv).a5 ({ N with k := 0, s1 := none, s2 := 0, s3 := 0 } : Nv).a6 ({ N with k := 0, s1 := none, s2 := 0, s3 := 0 } : Nv).a7 ({ N with k := 0, s1 := none, s2 := 0, s3 := 0 } : Nv).a8 false false false false false = bareB N.r2 N.a2 N.s2 N.a4 N.a5 N.a6 N.a7 N.a8 false false true false false := by simp [bareB]
    rw [e] at h
    exact h
  have e1 : nodeB N.k R N.a2 N.s2 N.a4 N.a5 N.a6 N.a7 N.a8 = (decide (2 ≤ N.s2) && bareB N.r2 N.a2 N.s2 N.a4 N.a5 N.a6 N.a7 N.a8 false false true false false) := by simp [nodeB, hk, hr]
  rw [e1]
  generalize bareB N.r2 N.a2 N.s2 N.a4 N.a5 N.a6 N.a7 N.a8 false false true false false = q at HC ⊢
  obtain ⟨k, r1, r2, r3, a2, s1, s2, s3, a4, a5, a6, a7, a8⟩ := N
  simp only at hk hr2 hs2
  subst hk
  clear ok hr hR e1
  by_cases h2 : 2 ≤ s2
  · have b1 : decide ((s2 : Int) ≥ 2) = true := by simp; omega
    have b2 : decide ((2 : Int) ≤ (s2 : Int)) = true := by simp; omega
    have e2 : decide (2 ≤ s2) = true := by simp; omega
    rw [e2]
    go_enter Try.func60, Try.ntmps60
    go_wp2_with (first | (go_at_call 94; (with_reducible refine (HC _).mono ?_); rintro e w3 ⟨rfl, hb3⟩; have HB3 := hid' hb3; clear hb3 HC))
    go_ret
    exact ⟨by simp, (below_two' w _ _).trans (Joins.below_le HB3.out (by simp; try omega))⟩
  · have b1 : decide ((s2 : Int) ≥ 2) = false := by simp; omega
    have b2 : decide ((2 : Int) ≤ (s2 : Int)) = false := by simp; omega
    have e2 : decide (2 ≤ s2) = false := by simp; omega
    rw [e2]
    go_enter Try.func60, Try.ntmps60
    go_wp2_with (first | (go_at_call 94; (with_reducible refine (HC _).mono ?_); rintro e w3 ⟨rfl, hb3⟩; have HB3 := hid' hb3; clear hb3 HC))
    go_ret
    exact ⟨by simp, below_two' w _ _⟩
set_option maxRecDepth 100000 in
set_option maxHeartbeats 8000000 in
theorem sound61S5 (N : Nv) (R : List (Int × Int)) (w : World) (ok : N.ok) (hr : N.r2 = R.length) (hR : R2 w w.heap.size N.r1 R) (hk : N.k = 5) :
    Calls Try.prog 60 #[N.v] w fun e w' => e = .returned (.bool (nodeB N.k R N.a2 N.s2 N.a4 N.a5 N.a6 N.a7 N.a8)) ∧ Below w.heap.size w w' := by
  have hr2 : N.r2 ≤ 9223372036854775807 := by have := ok.r; have : maxLen = 9223372036854775807 := rfl; omega
  have hs2 : N.s2 ≤ 9223372036854775807 := by have := ok.s; have : maxLen = 9223372036854775807 := rfl; omega
  have HC : ∀ w, Calls Try.prog 94 #[Nv.v { N with k := 0, s1 := none, s2 := 0, s3 := 0 }] w fun e w' => e = .returned (.bool (bareB N.r2 N.a2 N.s2 N.a4 N.a5 N.a6 N.a7 N.a8 false false true false false)) ∧ Below w.heap.size w w' := fun w => by
    have h := zero80 { N with k := 0, s1 := none, s2 := 0, s3 := 0 } w rfl hr2 (by simp)
    have e : bareB ({ N with k := 0, s1 := none, s2 := 0, s3 := 0 } : Nv).r2 ({ N with k := 0, s1 := none, s2 := 0, s3 := 0 } : Nv).a2 ({ N with k := 0, s1 := none, s2 := 0, s3 := 0 } : Nv).s2 ({ N with k := 0, s1 := none, s2 := 0, s3 := 0 } : Nv).a4 ({ N with k := 0, s1 := none, s2 := 0, s3 := 0 } : Nv).a5 ({ N with k := 0, s1 := none, s2 := 0, s3 := 0 } : Nv).a6 ({ N with k := 0, s1 := none, s2 := 0, s3 := 0 } : Nv).a7 ({ N with k := 0, s1 := none, s2 := 0, s3 := 0 } : Nv).a8 false false false false false = bareB N.r2 N.a2 N.s2 N.a4 N.a5 N.a6 N.a7 N.a8 false false true false false := by simp [bareB]
    rw [e] at h
    exact h
  have e1 : nodeB N.k R N.a2 N.s2 N.a4 N.a5 N.a6 N.a7 N.a8 = (decide (2 ≤ N.s2) && bareB N.r2 N.a2 N.s2 N.a4 N.a5 N.a6 N.a7 N.a8 false false true false false) := by simp [nodeB, hk, hr]
  rw [e1]
  generalize bareB N.r2 N.a2 N.s2 N.a4 N.a5 N.a6 N.a7 N.a8 false false true false false = q at HC ⊢
  obtain ⟨k, r1, r2, r3, a2, s1, s2, s3, a4, a5, a6, a7, a8⟩ := N
  simp only at hk hr2 hs2
  subst hk
  clear ok hr hR e1
  by_cases h2 : 2 ≤ s2
  · have b1 : decide ((s2 : Int) ≥ 2) = true := by simp; omega
    have b2 : decide ((2 : Int) ≤ (s2 : Int)) = true := by simp; omega
    have e2 : decide (2 ≤ s2) = true := by simp; omega
    rw [e2]
    go_enter Try.func60, Try.ntmps60
    go_wp2_with (first | (go_at_call 94; (with_reducible refine (HC _).mono ?_); rintro e w3 ⟨rfl, hb3⟩; have HB3 := hid' hb3; clear hb3 HC))
    go_ret
    exact ⟨by simp, (below_two' w _ _).trans (Joins.below_le HB3.out (by simp; try omega))⟩
  · have b1 : decide ((s2 : Int) ≥ 2) = false := by simp; omega
    have b2 : decide ((2 : Int) ≤ (s2 : Int)) = false := by simp; omega
    have e2 : decide (2 ≤ s2) = false := by simp; omega
    rw [e2]
    go_enter Try.func60, Try.ntmps60
    go_wp2_with (first | (go_at_call 94; (with_reducible refine (HC _).mono ?_); rintro e w3 ⟨rfl, hb3⟩; have HB3 := hid' hb3; clear hb3 HC))
    go_ret
    exact ⟨by simp, below_two' w _ _⟩
set_option maxRecDepth 100000 in
set_option maxHeartbeats 8000000 in
theorem sound61R (N : Nv) (R : List (Int × Int)) (w : World) (ok : N.ok) (hr : N.r2 = R.length) (hR : R2 w w.heap.size N.r1 R) (hk : N.k = 6) :
    Calls Try.prog 60 #[N.v] w fun e w' => e = .returned (.bool (nodeB N.k R N.a2 N.s2 N.a4 N.a5 N.a6 N.a7 N.a8)) ∧ Below w.heap.size w w' := by
  have hr2 : N.r2 ≤ 9223372036854775807 := by have := ok.r; have : maxLen = 9223372036854775807 := rfl; omega
  have hs2 : N.s2 ≤ 9223372036854775807 := by have := ok.s; have : maxLen = 9223372036854775807 := rfl; omega
  have HC : ∀ w, Calls Try.prog 94 #[Nv.v { N with k := 0, s1 := none, s2 := 0, s3 := 0, a4 := 0, a5 := 0, a6 := false }] w fun e w' => e = .returned (.bool (bareB N.r2 N.a2 N.s2 N.a4 N.a5 N.a6 N.a7 N.a8 false false true true false)) ∧ Below w.heap.size w w' := fun w => by
    have h := zero80 { N with k := 0, s1 := none, s2 := 0, s3 := 0, a4 := 0, a5 := 0, a6 := false } w rfl hr2 (by simp)
    have e : bareB ({ N with k := 0, s1 := none, s2 := 0, s3 := 0, a4 := 0, a5 := 0, a6 := false } : Nv).r2 ({ N with k := 0, s1 := none, s2 := 0, s3 := 0, a4 := 0, a5 := 0, a6 := false } : Nv).a2 ({ N with k := 0, s1 := none, s2 := 0, s3 := 0, a4 := 0, a5 := 0, a6 := false } : Nv).s2 ({ N with k := 0, s1 := none, s2 := 0, s3 := 0, a4 := 0, a5 := 0, a6 := false } : Nv).a4 ({ N with k := 0, s1 := none, s2 := 0, s3 := 0, a4 := 0, a5 := 0, a6 := false } : Nv).a5 ({ N with k := 0, s1 := none, s2 := 0, s3 := 0, a4 := 0, a5 := 0, a6 := false } : Nv).a6 ({ N with k := 0, s1 := none, s2 := 0, s3 := 0, a4 := 0, a5 := 0, a6 := false } : Nv).a7 ({ N with k := 0, s1 := none, s2 := 0, s3 := 0, a4 := 0, a5 := 0, a6 := false } : Nv).a8 false false false false false = bareB N.r2 N.a2 N.s2 N.a4 N.a5 N.a6 N.a7 N.a8 false false true true false := by simp [bareB]
    rw [e] at h
    exact h
  have HN := isCount78g N.a4 N.a5
  have e1 : nodeB N.k R N.a2 N.s2 N.a4 N.a5 N.a6 N.a7 N.a8 = (decide (N.s2 = 1) && countB N.a4 N.a5 && bareB N.r2 N.a2 N.s2 N.a4 N.a5 N.a6 N.a7 N.a8 false false true true false) := by simp [nodeB, countB, hk, hr, Bool.and_assoc]
  rw [e1]
  generalize bareB N.r2 N.a2 N.s2 N.a4 N.a5 N.a6 N.a7 N.a8 false false true true false = q at HC ⊢
  generalize countB N.a4 N.a5 = q2 at HN ⊢
  obtain ⟨k, r1, r2, r3, a2, s1, s2, s3, a4, a5, a6, a7, a8⟩ := N
  simp only at hk hr2 hs2
  subst hk
  clear ok hr hR e1
  by_cases h2 : s2 = 1
  · subst h2
    cases q2
    · go_enter Try.func60, Try.ntmps60
      go_wp2_with (first | (go_at_call 92; (with_reducible refine (HN _).mono ?_); rintro e w2 ⟨rfl, hww⟩; subst hww) | (go_at_call 94; (with_reducible refine (HC _).mono ?_); rintro e w3 ⟨rfl, hb3⟩; have HB3 := hid' hb3; clear hb3 HC))
      go_ret
      exact ⟨by simp, below_two' w _ _⟩
    · go_enter Try.func60, Try.ntmps60
      go_wp2_with (first | (go_at_call 92; (with_reducible refine (HN _).mono ?_); rintro e w2 ⟨rfl, hww⟩; subst hww) | (go_at_call 94; (with_reducible refine (HC _).mono ?_); rintro e w3 ⟨rfl, hb3⟩; have HB3 := hid' hb3; clear hb3 HC))
      go_ret
      exact ⟨by simp, (below_two' w _ _).trans (Joins.below_le HB3.out (by simp; try omega))⟩
  · have b1 : ((s2 : Int) == 1) = false := by simp; omega
    have e2 : decide (s2 = 1) = false := by simpa using h2
    rw [e2]
    go_enter Try.func60, Try.ntmps60
    go_wp2_with (first | (go_at_call 92; (with_reducible refine (HN _).mono ?_); rintro e w2 ⟨rfl, hww⟩; subst hww) | (go_at_call 94; (with_reducible refine (HC _).mono ?_); rintro e w3 ⟨rfl, hb3⟩; have HB3 := hid' hb3; clear hb3 HC))
    go_ret
    exact ⟨by simp, below_two' w _ _⟩
set_option maxRecDepth 100000 in
set_option maxHeartbeats 8000000 in
theorem sound61G (N : Nv) (R : List (Int × Int)) (w : World) (ok : N.ok) (hr : N.r2 = R.length) (hR : R2 w w.heap.size N.r1 R) (hk : N.k = 7) :
    Calls Try.prog 60 #[N.v] w fun e w' => e = .returned (.bool (nodeB N.k R N.a2 N.s2 N.a4 N.a5 N.a6 N.a7 N.a8)) ∧ Below w.heap.size w w' := by
  have hr2 : N.r2 ≤ 9223372036854775807 := by have := ok.r; have : maxLen = 9223372036854775807 := rfl; omega
  have hs2 : N.s2 ≤ 9223372036854775807 := by have := ok.s; have : maxLen = 9223372036854775807 := rfl; omega
  have HC : ∀ w, Calls Try.prog 94 #[Nv.v { N with k := 0, s1 := none, s2 := 0, s3 := 0, a7 := 0, a8 := ⟨#[]⟩ }] w fun e w' => e = .returned (.bool (bareB N.r2 N.a2 N.s2 N.a4 N.a5 N.a6 N.a7 N.a8 false false true false true)) ∧ Below w.heap.size w w' := fun w => by
    have h := zero80 { N with k := 0, s1 := none, s2 := 0, s3 := 0, a7 := 0, a8 := ⟨#[]⟩ } w rfl hr2 (by simp)
    have e : bareB ({ N with k := 0, s1 := none, s2 := 0, s3 := 0, a7 := 0, a8 := ⟨#[]⟩ } : Nv).r2 ({ N with k := 0, s1 := none, s2 := 0, s3 := 0, a7 := 0, a8 := ⟨#[]⟩ } : Nv).a2 ({ N with k := 0, s1 := none, s2 := 0, s3 := 0, a7 := 0, a8 := ⟨#[]⟩ } : Nv).s2 ({ N with k := 0, s1 := none, s2 := 0, s3 := 0, a7 := 0, a8 := ⟨#[]⟩ } : Nv).a4 ({ N with k := 0, s1 := none, s2 := 0, s3 := 0, a7 := 0, a8 := ⟨#[]⟩ } : Nv).a5 ({ N with k := 0, s1 := none, s2 := 0, s3 := 0, a7 := 0, a8 := ⟨#[]⟩ } : Nv).a6 ({ N with k := 0, s1 := none, s2 := 0, s3 := 0, a7 := 0, a8 := ⟨#[]⟩ } : Nv).a7 ({ N with k := 0, s1 := none, s2 := 0, s3 := 0, a7 := 0, a8 := ⟨#[]⟩ } : Nv).a8 false false false false false = bareB N.r2 N.a2 N.s2 N.a4 N.a5 N.a6 N.a7 N.a8 false false true false true := by simp [bareB, empty_list]
    rw [e] at h
    exact h
  have HN := fun w => name79 N.a8 w (by have := ok.a8; have : maxLen = 9223372036854775807 := rfl; omega)
  have e1 : nodeB N.k R N.a2 N.s2 N.a4 N.a5 N.a6 N.a7 N.a8 = (decide (N.s2 = 1) && decide (1 ≤ N.a7) && decide (N.a7 ≤ 500) && (N.a8.toList.isEmpty || nameB N.a8) && bareB N.r2 N.a2 N.s2 N.a4 N.a5 N.a6 N.a7 N.a8 false false true false true) := by simp [nodeB, hk, hr]
  rw [e1]
  generalize bareB N.r2 N.a2 N.s2 N.a4 N.a5 N.a6 N.a7 N.a8 false false true false true = q at HC ⊢
  generalize nameB N.a8 = q2 at HN ⊢
  obtain ⟨k, r1, r2, r3, a2, s1, s2, s3, a4, a5, a6, a7, a8⟩ := N
  simp only at hk hr2 hs2
  subst hk
  clear ok hr hR e1
  go_enter Try.func60, Try.ntmps60
  go_wp2_with (first | (go_at_call 93; (with_reducible refine (HN _).mono ?_); rintro e w2 ⟨rfl, hww⟩; subst hww) | (go_at_call 94; (with_reducible refine (HC _).mono ?_); rintro e w3 ⟨rfl, hb3⟩; have HB3 := hid' hb3; clear hb3 HC))
  all_goals go_ret
  all_goals (refine ⟨ret_bool ?_, by first | exact below_two' w _ _ | exact (below_two' w _ _).trans (Joins.below_le HB3.out (by simp; try omega))⟩)
  all_goals (try clear HB3)
  all_goals (try clear HC)
  all_goals (try clear HN)
  all_goals simp_all
  all_goals (intros; omega)
set_option maxRecDepth 100000 in
set_option maxHeartbeats 8000000 in
theorem sound61O (N : Nv) (R : List (Int × Int)) (w : World) (ok : N.ok) (hr : N.r2 = R.length) (hR : R2 w w.heap.size N.r1 R) (hk : N.k ≠ 1 ∧ N.k ≠ 2 ∧ N.k ≠ 3 ∧ N.k ≠ 4 ∧ N.k ≠ 5 ∧ N.k ≠ 6 ∧ N.k ≠ 7) :
    Calls Try.prog 60 #[N.v] w fun e w' => e = .returned (.bool (nodeB N.k R N.a2 N.s2 N.a4 N.a5 N.a6 N.a7 N.a8)) ∧ Below w.heap.size w w' := by
  have hr2 : N.r2 ≤ 9223372036854775807 := by have := ok.r; have : maxLen = 9223372036854775807 := rfl; omega
  have hs2 : N.s2 ≤ 9223372036854775807 := by have := ok.s; have : maxLen = 9223372036854775807 := rfl; omega
  rw [nodeB_ne hk]
  obtain ⟨k1, k2, k3, k4, k5, k6, k7⟩ := hk
  have j1 : (N.k == 1) = false := by simpa using k1
  have j2 : (N.k == 2) = false := by simpa using k2
  have j3 : (N.k == 3) = false := by simpa using k3
  have j4 : (N.k == 4) = false := by simpa using k4
  have j5 : (N.k == 5) = false := by simpa using k5
  have j6 : (N.k == 6) = false := by simpa using k6
  have j7 : (N.k == 7) = false := by simpa using k7
  obtain ⟨k, r1, r2, r3, a2, s1, s2, s3, a4, a5, a6, a7, a8⟩ := N
  simp only at j1 j2 j3 j4 j5 j6 j7
  clear ok hr hR k1 k2 k3 k4 k5 k6 k7
  go_enter Try.func60, Try.ntmps60
  go_wp2
  go_ret
  exact ⟨rfl, below_two' w _ _⟩
theorem sound61 (N : Nv) (R : List (Int × Int)) (w : World) (ok : N.ok) (hr : N.r2 = R.length) (hR : R2 w w.heap.size N.r1 R) :
    Calls Try.prog 60 #[N.v] w fun e w' => e = .returned (.bool (nodeB N.k R N.a2 N.s2 N.a4 N.a5 N.a6 N.a7 N.a8)) ∧ Below w.heap.size w w' := by
  by_cases k1 : N.k = 1
  · exact sound61E N R w ok hr hR k1
  by_cases k2 : N.k = 2
  · exact sound61C N R w ok hr hR k2
  by_cases k3 : N.k = 3
  · exact sound61A N R w ok hr hR k3
  by_cases k4 : N.k = 4
  · exact sound61S4 N R w ok hr hR k4
  by_cases k5 : N.k = 5
  · exact sound61S5 N R w ok hr hR k5
  by_cases k6 : N.k = 6
  · exact sound61R N R w ok hr hR k6
  by_cases k7 : N.k = 7
  · exact sound61G N R w ok hr hR k7
  · exact sound61O N R w ok hr hR ⟨k1, k2, k3, k4, k5, k6, k7⟩
end Go.Proofs.Ytdidopgenhpakaa
