/- HELPERS: the program's census: is a tree sound? -/
import Derived.Test.YtpckbpimgoljoaaGreatK3
import Derived.Laws.EntriesVeiled
/- HELPERS: which nodes may be: the program's answer. -/
namespace Go.Proofs.YtpckbpimgoljoaaGreat
open Go.RowKit
set_option linter.unusedVariables false
set_option linter.unusedSimpArgs false
theorem two_len (r s : Nat) (h : ¬ (r = 0 ∧ s = 0)) (hr : r ≤ 9223372036854775807) (hs : s ≤ 9223372036854775807) : (wrap64 ((r : Int) + (s : Int)) == 0) = false := by
  have : wrap64 ((r : Int) + (s : Int)) ≠ 0 := by unfold wrap64; omega
  simpa using this
set_option maxRecDepth 100000 in
set_option maxHeartbeats 8000000 in
theorem zero80 (N : Nv) (w : World) (hk : N.k = 0) (hr : N.r2 ≤ 9223372036854775807) (hs : N.s2 ≤ 9223372036854775807) :
    Calls Tryz.prog 65 #[N.v] w fun e w' => e = .returned (.bool (bareB N.r2 N.a2 N.s2 N.a4 N.a5 N.a6 N.a7 N.a8 false false false false false)) ∧ Below w.heap.size w w' := by
  obtain ⟨k, r1, r2, r3, a2, s1, s2, s3, a4, a5, a6, a7, a8⟩ := N
  simp only at hk hr hs
  subst hk
  by_cases h0 : r2 = 0 ∧ s2 = 0
  · obtain ⟨rfl, rfl⟩ := h0
    go_enter Tryz.func65, Tryz.ntmps65
    go_wp2
    all_goals go_ret
    all_goals (refine ⟨ret_bool ?_, Joins.below_alloc1 w _⟩)
    all_goals simp_all [bareB]
  · have e1 := two_len r2 s2 h0 hr hs
    have e2 : bareB r2 a2 s2 a4 a5 a6 a7 a8 false false false false false = false := by
      simp [bareB]
      intro h
      omega
    rw [e2]
    go_enter Tryz.func65, Tryz.ntmps65
    go_wp2
    go_ret
    exact ⟨rfl, Joins.below_alloc1 w _⟩
set_option maxHeartbeats 1000000 in
theorem right_long' (ad : Option Addr) (n cap : Nat) (w : World) (hS : 5000 < n) (hS2 : n ≤ 9223372036854775807) :
    Calls Tryz.prog 61 #[.slice ad n cap] w fun e w' => e = .returned (.bool false) ∧ Below w.heap.size w w' := by
  go_enter Tryz.func61, Tryz.ntmps61
  go_wp2
  go_ret
  exact ⟨rfl, Below.refl _ _⟩
theorem right76 (L : List (Int × Int)) (ad : Option Addr) (n cap : Nat) (w : World) (hn : n = L.length) (hS2 : n ≤ 9223372036854775807) (hl : RowAt w.heap.size w (.slice ad n cap) L) :
    Calls Tryz.prog 61 #[.slice ad n cap] w fun e w' => e = .returned (.bool (rightB L)) ∧ Below w.heap.size w w' := by
  by_cases h : n ≤ 5000
  · have e : rightB L = rightFrom 0 L := by unfold rightB; rw [← hn]; simp [h]
    rw [e]
    exact right_short L ad n cap w hn h hl
  · have e : rightB L = false := by unfold rightB; rw [← hn]; simp [h]
    rw [e]
    exact right_long' ad n cap w (by omega) hS2
theorem isAssert77 (n : Int) (w : World) : Calls Tryz.prog 62 #[.int .i64 n] w fun e w' => e = .returned (.bool (assertB n)) ∧ w' = w := by
  go_enter Tryz.func62, Tryz.ntmps62
  go_wp2
  all_goals go_ret
  all_goals exact ⟨ret_bool (by simp_all [assertB]), rfl⟩
def countB (mn mx : Int) : Bool := decide (0 ≤ mn) && decide (mn ≤ 1000) && (decide (mx = -1) || decide (mn ≤ mx) && decide (mx ≤ 1000))
set_option maxRecDepth 100000 in
theorem isCount78g (mn mx : Int) (w : World) : Calls Tryz.prog 63 #[.int .i64 mn, .int .i64 mx] w fun e w' => e = .returned (.bool (countB mn mx)) ∧ w' = w := by
  go_enter Tryz.func63, Tryz.ntmps63
  go_wp2
  all_goals go_ret
  all_goals refine ⟨ret_bool ?_, rfl⟩
  all_goals (rw [Bool.eq_iff_iff]; simp [countB])
  all_goals omega
theorem empty_list : (⟨#[]⟩ : ByteArray).toList = [] := by rw [ByteArray.toList_eq]
theorem two_new (w : World) (o : Obj) (c : Array Value) (t : TypeId) : ((w.alloc o).alloc (.cells c t)).heap[w.heap.size + 1]? = some (.cells c t (0, 0)) := by
  have e : (w.alloc o).heap.size = w.heap.size + 1 := by simp
  rw [← e]
  exact heap_alloc_new _ _
theorem below_two' (w : World) (o o' : Obj) : Below w.heap.size w ((w.alloc o).alloc o') := (Joins.below_alloc1 w o).trans (Joins.below_le (Joins.below_alloc1 _ o') (by simp))
set_option maxRecDepth 100000 in
set_option maxHeartbeats 8000000 in
theorem sound61E (N : Nv) (R : List (Int × Int)) (w : World) (ok : N.ok) (hr : N.r2 = R.length) (hR : R2 w w.heap.size N.r1 R) (hk : N.k = 1) :
    Calls Tryz.prog 34 #[N.v] w fun e w' => e = .returned (.bool (nodeB N.k R N.a2 N.s2 N.a4 N.a5 N.a6 N.a7 N.a8)) ∧ Below w.heap.size w w' := by
  have hr2 : N.r2 ≤ 9223372036854775807 := by have := ok.r; have : maxLen = 9223372036854775807 := rfl; omega
  have hs2 : N.s2 ≤ 9223372036854775807 := by have := ok.s; have : maxLen = 9223372036854775807 := rfl; omega
  have HC : ∀ w, Calls Tryz.prog 65 #[Nv.v { N with k := 0 }] w fun e w' => e = .returned (.bool (bareB N.r2 N.a2 N.s2 N.a4 N.a5 N.a6 N.a7 N.a8 false false false false false)) ∧ Below w.heap.size w w' := fun w => by
    have h := zero80 { N with k := 0 } w rfl hr2 hs2
    have e : bareB ({ N with k := 0 } : Nv).r2 ({ N with k := 0 } : Nv).a2 ({ N with k := 0 } : Nv).s2 ({ N with k := 0 } : Nv).a4 ({ N with k := 0 } : Nv).a5 ({ N with k := 0 } : Nv).a6 ({ N with k := 0 } : Nv).a7 ({ N with k := 0 } : Nv).a8 false false false false false = bareB N.r2 N.a2 N.s2 N.a4 N.a5 N.a6 N.a7 N.a8 false false false false false := by simp [bareB]
    rw [e] at h
    exact h
  have e1 : nodeB N.k R N.a2 N.s2 N.a4 N.a5 N.a6 N.a7 N.a8 = bareB N.r2 N.a2 N.s2 N.a4 N.a5 N.a6 N.a7 N.a8 false false false false false := by simp [nodeB, hk, hr]
  rw [e1]
  generalize bareB N.r2 N.a2 N.s2 N.a4 N.a5 N.a6 N.a7 N.a8 false false false false false = q at HC ⊢
  obtain ⟨k, r1, r2, r3, a2, s1, s2, s3, a4, a5, a6, a7, a8⟩ := N
  simp only at hk
  subst hk
  clear ok hr hR e1 hr2 hs2
  go_enter Tryz.func34, Tryz.ntmps34
  go_wp2_with (first | (go_at_call 65; (with_reducible refine (HC _).mono ?_); rintro e w3 ⟨rfl, hb3⟩; have HB3 := hid' hb3; clear hb3 HC))
  go_ret
  exact ⟨rfl, (below_two' w _ _).trans (Joins.below_le HB3.out (by simp; try omega))⟩
set_option maxRecDepth 100000 in
set_option maxHeartbeats 8000000 in
theorem sound61C (N : Nv) (R : List (Int × Int)) (w : World) (ok : N.ok) (hr : N.r2 = R.length) (hR : R2 w w.heap.size N.r1 R) (hk : N.k = 2) :
    Calls Tryz.prog 34 #[N.v] w fun e w' => e = .returned (.bool (nodeB N.k R N.a2 N.s2 N.a4 N.a5 N.a6 N.a7 N.a8)) ∧ Below w.heap.size w w' := by
  have hr2 : N.r2 ≤ 9223372036854775807 := by have := ok.r; have : maxLen = 9223372036854775807 := rfl; omega
  have hs2 : N.s2 ≤ 9223372036854775807 := by have := ok.s; have : maxLen = 9223372036854775807 := rfl; omega
  have HC : ∀ w, Calls Tryz.prog 65 #[Nv.v { N with k := 0, r1 := none, r2 := 0, r3 := 0 }] w fun e w' => e = .returned (.bool (bareB N.r2 N.a2 N.s2 N.a4 N.a5 N.a6 N.a7 N.a8 true false false false false)) ∧ Below w.heap.size w w' := fun w => by
    have h := zero80 { N with k := 0, r1 := none, r2 := 0, r3 := 0 } w rfl (by simp) hs2
    have e : bareB ({ N with k := 0, r1 := none, r2 := 0, r3 := 0 } : Nv).r2 ({ N with k := 0, r1 := none, r2 := 0, r3 := 0 } : Nv).a2 ({ N with k := 0, r1 := none, r2 := 0, r3 := 0 } : Nv).s2 ({ N with k := 0, r1 := none, r2 := 0, r3 := 0 } : Nv).a4 ({ N with k := 0, r1 := none, r2 := 0, r3 := 0 } : Nv).a5 ({ N with k := 0, r1 := none, r2 := 0, r3 := 0 } : Nv).a6 ({ N with k := 0, r1 := none, r2 := 0, r3 := 0 } : Nv).a7 ({ N with k := 0, r1 := none, r2 := 0, r3 := 0 } : Nv).a8 false false false false false = bareB N.r2 N.a2 N.s2 N.a4 N.a5 N.a6 N.a7 N.a8 true false false false false := by simp [bareB]
    rw [e] at h
    exact h
  have HRR : ∀ o o', Calls Tryz.prog 61 #[.slice N.r1 N.r2 N.r3] ((w.alloc o).alloc o') fun e w' => e = .returned (.bool (rightB R)) ∧ Below ((w.alloc o).alloc o').heap.size ((w.alloc o).alloc o') w' := fun o o' =>
    right76 R N.r1 N.r2 N.r3 _ hr hr2 ((R2.row (hR.kept (fun b hb => (heap_alloc_old _ _ (by simp; omega)).trans (heap_alloc_old w _ hb))) hr).below (Below.refl _ _) (Nat.le_refl _) (by simp; try omega))
  have e1 : nodeB N.k R N.a2 N.s2 N.a4 N.a5 N.a6 N.a7 N.a8 = (rightB R && bareB N.r2 N.a2 N.s2 N.a4 N.a5 N.a6 N.a7 N.a8 true false false false false) := by simp [nodeB, hk, hr]
  rw [e1]
  generalize bareB N.r2 N.a2 N.s2 N.a4 N.a5 N.a6 N.a7 N.a8 true false false false false = q at HC ⊢
  generalize rightB R = q2 at HRR ⊢
  obtain ⟨k, r1, r2, r3, a2, s1, s2, s3, a4, a5, a6, a7, a8⟩ := N
  simp only at hk
  subst hk
  clear ok hr hR e1 hr2 hs2
  cases q2
  · go_enter Tryz.func34, Tryz.ntmps34
    go_wp2_with (first | (go_at_call 61; (with_reducible refine (HRR _ _).mono ?_); rintro e w2 ⟨rfl, hb2⟩; obtain ⟨x0, x1, x2, x3, x4, x5, x6, x7, x8⟩ := nine' ((hb2.block (w.heap.size + 1) (by simp)).trans (two_new w _ _ _)); have HB2 := hid' hb2; clear hb2 HRR) | (go_at_call 65; (with_reducible refine (HC _).mono ?_); rintro e w3 ⟨rfl, hb3⟩; have HB3 := hid' hb3; clear hb3 HC))
    go_ret
    exact ⟨rfl, (below_two' w _ _).trans (Joins.below_le HB2.out (by simp; try omega))⟩
  · go_enter Tryz.func34, Tryz.ntmps34
    go_wp2_with (first | (go_at_call 61; (with_reducible refine (HRR _ _).mono ?_); rintro e w2 ⟨rfl, hb2⟩; obtain ⟨x0, x1, x2, x3, x4, x5, x6, x7, x8⟩ := nine' ((hb2.block (w.heap.size + 1) (by simp)).trans (two_new w _ _ _)); have HB2 := hid' hb2; clear hb2 HRR) | (go_at_call 65; (with_reducible refine (HC _).mono ?_); rintro e w3 ⟨rfl, hb3⟩; have HB3 := hid' hb3; clear hb3 HC))
    go_ret
    exact ⟨by simp, ((below_two' w _ _).trans (Joins.below_le HB2.out (by simp; try omega))).trans (Joins.below_le HB3.out (by have := HB2.out.size; simp at this; omega))⟩
set_option maxRecDepth 100000 in
set_option maxHeartbeats 8000000 in
theorem sound61A (N : Nv) (R : List (Int × Int)) (w : World) (ok : N.ok) (hr : N.r2 = R.length) (hR : R2 w w.heap.size N.r1 R) (hk : N.k = 3) :
    Calls Tryz.prog 34 #[N.v] w fun e w' => e = .returned (.bool (nodeB N.k R N.a2 N.s2 N.a4 N.a5 N.a6 N.a7 N.a8)) ∧ Below w.heap.size w w' := by
  have hr2 : N.r2 ≤ 9223372036854775807 := by have := ok.r; have : maxLen = 9223372036854775807 := rfl; omega
  have hs2 : N.s2 ≤ 9223372036854775807 := by have := ok.s; have : maxLen = 9223372036854775807 := rfl; omega
  have HC : ∀ w, Calls Tryz.prog 65 #[Nv.v { N with k := 0, a2 := 0 }] w fun e w' => e = .returned (.bool (bareB N.r2 N.a2 N.s2 N.a4 N.a5 N.a6 N.a7 N.a8 false true false false false)) ∧ Below w.heap.size w w' := fun w => by
    have h := zero80 { N with k := 0, a2 := 0 } w rfl hr2 hs2
    have e : bareB ({ N with k := 0, a2 := 0 } : Nv).r2 ({ N with k := 0, a2 := 0 } : Nv).a2 ({ N with k := 0, a2 := 0 } : Nv).s2 ({ N with k := 0, a2 := 0 } : Nv).a4 ({ N with k := 0, a2 := 0 } : Nv).a5 ({ N with k := 0, a2 := 0 } : Nv).a6 ({ N with k := 0, a2 := 0 } : Nv).a7 ({ N with k := 0, a2 := 0 } : Nv).a8 false false false false false = bareB N.r2 N.a2 N.s2 N.a4 N.a5 N.a6 N.a7 N.a8 false true false false false := by simp [bareB]
    rw [e] at h
    exact h
  have HAA := isAssert77 N.a2
  have e1 : nodeB N.k R N.a2 N.s2 N.a4 N.a5 N.a6 N.a7 N.a8 = (assertB N.a2 && bareB N.r2 N.a2 N.s2 N.a4 N.a5 N.a6 N.a7 N.a8 false true false false false) := by simp [nodeB, hk, hr]
  rw [e1]
  generalize bareB N.r2 N.a2 N.s2 N.a4 N.a5 N.a6 N.a7 N.a8 false true false false false = q at HC ⊢
  generalize assertB N.a2 = q2 at HAA ⊢
  obtain ⟨k, r1, r2, r3, a2, s1, s2, s3, a4, a5, a6, a7, a8⟩ := N
  simp only at hk
  subst hk
  clear ok hr hR e1 hr2 hs2
  cases q2
  · go_enter Tryz.func34, Tryz.ntmps34
    go_wp2_with (first | (go_at_call 62; (with_reducible refine (HAA _).mono ?_); rintro e w2 ⟨rfl, hww⟩; subst hww) | (go_at_call 65; (with_reducible refine (HC _).mono ?_); rintro e w3 ⟨rfl, hb3⟩; have HB3 := hid' hb3; clear hb3 HC))
    go_ret
    exact ⟨rfl, below_two' w _ _⟩
  · go_enter Tryz.func34, Tryz.ntmps34
    go_wp2_with (first | (go_at_call 62; (with_reducible refine (HAA _).mono ?_); rintro e w2 ⟨rfl, hww⟩; subst hww) | (go_at_call 65; (with_reducible refine (HC _).mono ?_); rintro e w3 ⟨rfl, hb3⟩; have HB3 := hid' hb3; clear hb3 HC))
    go_ret
    exact ⟨by simp, (below_two' w _ _).trans (Joins.below_le HB3.out (by simp; try omega))⟩
set_option maxRecDepth 100000 in
set_option maxHeartbeats 8000000 in
theorem sound61S4 (N : Nv) (R : List (Int × Int)) (w : World) (ok : N.ok) (hr : N.r2 = R.length) (hR : R2 w w.heap.size N.r1 R) (hk : N.k = 4) :
    Calls Tryz.prog 34 #[N.v] w fun e w' => e = .returned (.bool (nodeB N.k R N.a2 N.s2 N.a4 N.a5 N.a6 N.a7 N.a8)) ∧ Below w.heap.size w w' := by
  have hr2 : N.r2 ≤ 9223372036854775807 := by have := ok.r; have : maxLen = 9223372036854775807 := rfl; omega
  have hs2 : N.s2 ≤ 9223372036854775807 := by have := ok.s; have : maxLen = 9223372036854775807 := rfl; omega
  have HC : ∀ w, Calls Tryz.prog 65 #[Nv.v { N with k := 0, s1 := none, s2 := 0, s3 := 0 }] w fun e w' => e = .returned (.bool (bareB N.r2 N.a2 N.s2 N.a4 N.a5 N.a6 N.a7 N.a8 false false true false false)) ∧ Below w.heap.size w w' := fun w => by
    have h := zero80 { N with k := 0, s1 := none, s2 := 0, s3 := 0 } w rfl hr2 (by simp)
    have e : bareB ({ N with k := 0, s1 := none, s2 := 0, s3 := 0 } : Nv).r2 ({ N with k := 0, s1 := none, s2 := 0, s3 := 0 } : Nv).a2 ({ N with k := 0, s1 := none, s2 := 0, s3 := 0 } : Nv).s2 ({ N with k := 0, s1 := none, s2 := 0, s3 := 0 } : Nv).a4 ({ N with k := 0, s1 := none, s2 := 0, s3 := 0 } : Nv).a5 ({ N with k := 0, s1 := none, s2 := 0, s3 := 0 } : Nv).a6 ({ N with k := 0, s1 := none, s2 := 0, s3 := 0 } : Nv).a7 ({ N with k := 0, s1 := none, s2 := 0, s3 := 0 } : Nv).a8 false false false false false = bareB N.r2 N.a2 N.s2 N.a4 N.a5 N.a6 N.a7 N.a8 false false true false false := by simp [bareB]
    rw [e] at h
    exact h
  have e1 : nodeB N.k R N.a2 N.s2 N.a4 N.a5 N.a6 N.a7 N.a8 = (decide (2 ≤ N.s2) && bareB N.r2 N.a2 N.s2 N.a4 N.a5 N.a6 N.a7 N.a8 false false true false false) := by simp [nodeB, hk, hr]
  rw [e1]
  generalize bareB N.r2 N.a2 N.s2 N.a4 N.a5 N.a6 N.a7 N.a8 false false true false false = q at HC ⊢
  obtain ⟨k, r1, r2, r3, a2, s1, s2, s3, a4, a5, a6, a7, a8⟩ := N
  simp only at hk hr2 hs2
  subst hk
  clear ok hr hR e1
  by_cases h2 : 2 ≤ s2
  · have b1 : decide ((s2 : Int) ≥ 2) = true := by simp; omega
    have b2 : decide ((2 : Int) ≤ (s2 : Int)) = true := by simp; omega
    have e2 : decide (2 ≤ s2) = true := by simp; omega
    rw [e2]
    go_enter Tryz.func34, Tryz.ntmps34
    go_wp2_with (first | (go_at_call 65; (with_reducible refine (HC _).mono ?_); rintro e w3 ⟨rfl, hb3⟩; have HB3 := hid' hb3; clear hb3 HC))
    go_ret
    exact ⟨by simp, (below_two' w _ _).trans (Joins.below_le HB3.out (by simp; try omega))⟩
  · have b1 : decide ((s2 : Int) ≥ 2) = false := by simp; omega
    have b2 : decide ((2 : Int) ≤ (s2 : Int)) = false := by simp; omega
    have e2 : decide (2 ≤ s2) = false := by simp; omega
    rw [e2]
    go_enter Tryz.func34, Tryz.ntmps34
    go_wp2_with (first | (go_at_call 65; (with_reducible refine (HC _).mono ?_); rintro e w3 ⟨rfl, hb3⟩; have HB3 := hid' hb3; clear hb3 HC))
    go_ret
    exact ⟨by simp, below_two' w _ _⟩
set_option maxRecDepth 100000 in
set_option maxHeartbeats 8000000 in
theorem sound61S5 (N : Nv) (R : List (Int × Int)) (w : World) (ok : N.ok) (hr : N.r2 = R.length) (hR : R2 w w.heap.size N.r1 R) (hk : N.k = 5) :
    Calls Tryz.prog 34 #[N.v] w fun e w' => e = .returned (.bool (nodeB N.k R N.a2 N.s2 N.a4 N.a5 N.a6 N.a7 N.a8)) ∧ Below w.heap.size w w' := by
  have hr2 : N.r2 ≤ 9223372036854775807 := by have := ok.r; have : maxLen = 9223372036854775807 := rfl; omega
  have hs2 : N.s2 ≤ 9223372036854775807 := by have := ok.s; have : maxLen = 9223372036854775807 := rfl; omega
  have HC : ∀ w, Calls Tryz.prog 65 #[Nv.v { N with k := 0, s1 := none, s2 := 0, s3 := 0 }] w fun e w' => e = .returned (.bool (bareB N.r2 N.a2 N.s2 N.a4 N.a5 N.a6 N.a7 N.a8 false false true false false)) ∧ Below w.heap.size w w' := fun w => by
    have h := zero80 { N with k := 0, s1 := none, s2 := 0, s3 := 0 } w rfl hr2 (by simp)
    have e : bareB ({ N with k := 0, s1 := none, s2 := 0, s3 := 0 } : Nv).r2 ({ N with k := 0, s1 := none, s2 := 0, s3 := 0 } : Nv).a2 ({ N with k := 0, s1 := none, s2 := 0, s3 := 0 } : Nv).s2 ({ N with k := 0, s1 := none, s2 := 0, s3 := 0 } : Nv).a4 ({ N with k := 0, s1 := none, s2 := 0, s3 := 0 } : Nv).a5 ({ N with k := 0, s1 := none, s2 := 0, s3 := 0 } : Nv).a6 ({ N with k := 0, s1 := none, s2 := 0, s3 := 0 } : Nv).a7 ({ N with k := 0, s1 := none, s2 := 0, s3 := 0 } : Nv).a8 false false false false false = bareB N.r2 N.a2 N.s2 N.a4 N.a5 N.a6 N.a7 N.a8 false false true false false := by simp [bareB]
    rw [e] at h
    exact h
  have e1 : nodeB N.k R N.a2 N.s2 N.a4 N.a5 N.a6 N.a7 N.a8 = (decide (2 ≤ N.s2) && bareB N.r2 N.a2 N.s2 N.a4 N.a5 N.a6 N.a7 N.a8 false false true false false) := by simp [nodeB, hk, hr]
  rw [e1]
  generalize bareB N.r2 N.a2 N.s2 N.a4 N.a5 N.a6 N.a7 N.a8 false false true false false = q at HC ⊢
  obtain ⟨k, r1, r2, r3, a2, s1, s2, s3, a4, a5, a6, a7, a8⟩ := N
  simp only at hk hr2 hs2
  subst hk
  clear ok hr hR e1
  by_cases h2 : 2 ≤ s2
  · have b1 : decide ((s2 : Int) ≥ 2) = true := by simp; omega
    have b2 : decide ((2 : Int) ≤ (s2 : Int)) = true := by simp; omega
    have e2 : decide (2 ≤ s2) = true := by simp; omega
    rw [e2]
    go_enter Tryz.func34, Tryz.ntmps34
    go_wp2_with (first | (go_at_call 65; (with_reducible refine (HC _).mono ?_); rintro e w3 ⟨rfl, hb3⟩; have HB3 := hid' hb3; clear hb3 HC))
    go_ret
    exact ⟨by simp, (below_two' w _ _).trans (Joins.below_le HB3.out (by simp; try omega))⟩
  · have b1 : decide ((s2 : Int) ≥ 2) = false := by simp; omega
    have b2 : decide ((2 : Int) ≤ (s2 : Int)) = false := by simp; omega
    have e2 : decide (2 ≤ s2) = false := by simp; omega
    rw [e2]
    go_enter Tryz.func34, Tryz.ntmps34
    go_wp2_with (first | (go_at_call 65; (with_reducible refine (HC _).mono ?_); rintro e w3 ⟨rfl, hb3⟩; have HB3 := hid' hb3; clear hb3 HC))
    go_ret
    exact ⟨by simp, below_two' w _ _⟩
set_option maxRecDepth 100000 in
set_option maxHeartbeats 8000000 in
theorem sound61R (N : Nv) (R : List (Int × Int)) (w : World) (ok : N.ok) (hr : N.r2 = R.length) (hR : R2 w w.heap.size N.r1 R) (hk : N.k = 6) :
    Calls Tryz.prog 34 #[N.v] w fun e w' => e = .returned (.bool (nodeB N.k R N.a2 N.s2 N.a4 N.a5 N.a6 N.a7 N.a8)) ∧ Below w.heap.size w w' := by
  have hr2 : N.r2 ≤ 9223372036854775807 := by have := ok.r; have : maxLen = 9223372036854775807 := rfl; omega
  have hs2 : N.s2 ≤ 9223372036854775807 := by have := ok.s; have : maxLen = 9223372036854775807 := rfl; omega
  have HC : ∀ w, Calls Tryz.prog 65 #[Nv.v { N with k := 0, s1 := none, s2 := 0, s3 := 0, a4 := 0, a5 := 0, a6 := false }] w fun e w' => e = .returned (.bool (bareB N.r2 N.a2 N.s2 N.a4 N.a5 N.a6 N.a7 N.a8 false false true true false)) ∧ Below w.heap.size w w' := fun w => by
    have h := zero80 { N with k := 0, s1 := none, s2 := 0, s3 := 0, a4 := 0, a5 := 0, a6 := false } w rfl hr2 (by simp)
    have e : bareB ({ N with k := 0, s1 := none, s2 := 0, s3 := 0, a4 := 0, a5 := 0, a6 := false } : Nv).r2 ({ N with k := 0, s1 := none, s2 := 0, s3 := 0, a4 := 0, a5 := 0, a6 := false } : Nv).a2 ({ N with k := 0, s1 := none, s2 := 0, s3 := 0, a4 := 0, a5 := 0, a6 := false } : Nv).s2 ({ N with k := 0, s1 := none, s2 := 0, s3 := 0, a4 := 0, a5 := 0, a6 := false } : Nv).a4 ({ N with k := 0, s1 := none, s2 := 0, s3 := 0, a4 := 0, a5 := 0, a6 := false } : Nv).a5 ({ N with k := 0, s1 := none, s2 := 0, s3 := 0, a4 := 0, a5 := 0, a6 := false } : Nv).a6 ({ N with k := 0, s1 := none, s2 := 0, s3 := 0, a4 := 0, a5 := 0, a6 := false } : Nv).a7 ({ N with k := 0, s1 := none, s2 := 0, s3 := 0, a4 := 0, a5 := 0, a6 := false } : Nv).a8 false false false false false = bareB N.r2 N.a2 N.s2 N.a4 N.a5 N.a6 N.a7 N.a8 false false true true false := by simp [bareB]
    rw [e] at h
    exact h
  have HN := isCount78g N.a4 N.a5
  have e1 : nodeB N.k R N.a2 N.s2 N.a4 N.a5 N.a6 N.a7 N.a8 = (decide (N.s2 = 1) && countB N.a4 N.a5 && bareB N.r2 N.a2 N.s2 N.a4 N.a5 N.a6 N.a7 N.a8 false false true true false) := by simp [nodeB, countB, hk, hr, Bool.and_assoc]
  rw [e1]
  generalize bareB N.r2 N.a2 N.s2 N.a4 N.a5 N.a6 N.a7 N.a8 false false true true false = q at HC ⊢
  generalize countB N.a4 N.a5 = q2 at HN ⊢
  obtain ⟨k, r1, r2, r3, a2, s1, s2, s3, a4, a5, a6, a7, a8⟩ := N
  simp only at hk hr2 hs2
  subst hk
  clear ok hr hR e1
  by_cases h2 : s2 = 1
  · subst h2
    cases q2
    · go_enter Tryz.func34, Tryz.ntmps34
      go_wp2_with (first | (go_at_call 63; (with_reducible refine (HN _).mono ?_); rintro e w2 ⟨rfl, hww⟩; subst hww) | (go_at_call 65; (with_reducible refine (HC _).mono ?_); rintro e w3 ⟨rfl, hb3⟩; have HB3 := hid' hb3; clear hb3 HC))
      go_ret
      exact ⟨by simp, below_two' w _ _⟩
    · go_enter Tryz.func34, Tryz.ntmps34
      go_wp2_with (first | (go_at_call 63; (with_reducible refine (HN _).mono ?_); rintro e w2 ⟨rfl, hww⟩; subst hww) | (go_at_call 65; (with_reducible refine (HC _).mono ?_); rintro e w3 ⟨rfl, hb3⟩; have HB3 := hid' hb3; clear hb3 HC))
      go_ret
      exact ⟨by simp, (below_two' w _ _).trans (Joins.below_le HB3.out (by simp; try omega))⟩
  · have b1 : ((s2 : Int) == 1) = false := by simp; omega
    have e2 : decide (s2 = 1) = false := by simpa using h2
    rw [e2]
    go_enter Tryz.func34, Tryz.ntmps34
    go_wp2_with (first | (go_at_call 63; (with_reducible refine (HN _).mono ?_); rintro e w2 ⟨rfl, hww⟩; subst hww) | (go_at_call 65; (with_reducible refine (HC _).mono ?_); rintro e w3 ⟨rfl, hb3⟩; have HB3 := hid' hb3; clear hb3 HC))
    go_ret
    exact ⟨by simp, below_two' w _ _⟩
set_option maxRecDepth 100000 in
set_option maxHeartbeats 8000000 in
theorem sound61G (N : Nv) (R : List (Int × Int)) (w : World) (ok : N.ok) (hr : N.r2 = R.length) (hR : R2 w w.heap.size N.r1 R) (hk : N.k = 7) :
    Calls Tryz.prog 34 #[N.v] w fun e w' => e = .returned (.bool (nodeB N.k R N.a2 N.s2 N.a4 N.a5 N.a6 N.a7 N.a8)) ∧ Below w.heap.size w w' := by
  have hr2 : N.r2 ≤ 9223372036854775807 := by have := ok.r; have : maxLen = 9223372036854775807 := rfl; omega
  have hs2 : N.s2 ≤ 9223372036854775807 := by have := ok.s; have : maxLen = 9223372036854775807 := rfl; omega
  have HC : ∀ w, Calls Tryz.prog 65 #[Nv.v { N with k := 0, s1 := none, s2 := 0, s3 := 0, a7 := 0, a8 := ⟨#[]⟩ }] w fun e w' => e = .returned (.bool (bareB N.r2 N.a2 N.s2 N.a4 N.a5 N.a6 N.a7 N.a8 false false true false true)) ∧ Below w.heap.size w w' := fun w => by
    have h := zero80 { N with k := 0, s1 := none, s2 := 0, s3 := 0, a7 := 0, a8 := ⟨#[]⟩ } w rfl hr2 (by simp)
    have e : bareB ({ N with k := 0, s1 := none, s2 := 0, s3 := 0, a7 := 0, a8 := ⟨#[]⟩ } : Nv).r2 ({ N with k := 0, s1 := none, s2 := 0, s3 := 0, a7 := 0, a8 := ⟨#[]⟩ } : Nv).a2 ({ N with k := 0, s1 := none, s2 := 0, s3 := 0, a7 := 0, a8 := ⟨#[]⟩ } : Nv).s2 ({ N with k := 0, s1 := none, s2 := 0, s3 := 0, a7 := 0, a8 := ⟨#[]⟩ } : Nv).a4 ({ N with k := 0, s1 := none, s2 := 0, s3 := 0, a7 := 0, a8 := ⟨#[]⟩ } : Nv).a5 ({ N with k := 0, s1 := none, s2 := 0, s3 := 0, a7 := 0, a8 := ⟨#[]⟩ } : Nv).a6 ({ N with k := 0, s1 := none, s2 := 0, s3 := 0, a7 := 0, a8 := ⟨#[]⟩ } : Nv).a7 ({ N with k := 0, s1 := none, s2 := 0, s3 := 0, a7 := 0, a8 := ⟨#[]⟩ } : Nv).a8 false false false false false = bareB N.r2 N.a2 N.s2 N.a4 N.a5 N.a6 N.a7 N.a8 false false true false true := by simp [bareB, empty_list]
    rw [e] at h
    exact h
  have HN := fun w => name79 N.a8 w (by have := ok.a8; have : maxLen = 9223372036854775807 := rfl; omega)
  have e1 : nodeB N.k R N.a2 N.s2 N.a4 N.a5 N.a6 N.a7 N.a8 = (decide (N.s2 = 1) && decide (1 ≤ N.a7) && decide (N.a7 ≤ 500) && (N.a8.toList.isEmpty || nameB N.a8) && bareB N.r2 N.a2 N.s2 N.a4 N.a5 N.a6 N.a7 N.a8 false false true false true) := by simp [nodeB, hk, hr]
  rw [e1]
  generalize bareB N.r2 N.a2 N.s2 N.a4 N.a5 N.a6 N.a7 N.a8 false false true false true = q at HC ⊢
  generalize nameB N.a8 = q2 at HN ⊢
  obtain ⟨k, r1, r2, r3, a2, s1, s2, s3, a4, a5, a6, a7, a8⟩ := N
  simp only at hk hr2 hs2
  subst hk
  clear ok hr hR e1
  go_enter Tryz.func34, Tryz.ntmps34
  go_wp2_with (first | (go_at_call 64; (with_reducible refine (HN _).mono ?_); rintro e w2 ⟨rfl, hww⟩; subst hww) | (go_at_call 65; (with_reducible refine (HC _).mono ?_); rintro e w3 ⟨rfl, hb3⟩; have HB3 := hid' hb3; clear hb3 HC))
  all_goals go_ret
  all_goals (refine ⟨ret_bool ?_, by first | exact below_two' w _ _ | exact (below_two' w _ _).trans (Joins.below_le HB3.out (by simp; try omega))⟩)
  all_goals (try clear HB3)
  all_goals (try clear HC)
  all_goals (try clear HN)
  all_goals simp_all
  all_goals (intros; omega)
set_option maxRecDepth 100000 in
set_option maxHeartbeats 8000000 in
theorem sound61O (N : Nv) (R : List (Int × Int)) (w : World) (ok : N.ok) (hr : N.r2 = R.length) (hR : R2 w w.heap.size N.r1 R) (hk : N.k ≠ 1 ∧ N.k ≠ 2 ∧ N.k ≠ 3 ∧ N.k ≠ 4 ∧ N.k ≠ 5 ∧ N.k ≠ 6 ∧ N.k ≠ 7) :
    Calls Tryz.prog 34 #[N.v] w fun e w' => e = .returned (.bool (nodeB N.k R N.a2 N.s2 N.a4 N.a5 N.a6 N.a7 N.a8)) ∧ Below w.heap.size w w' := by
  have hr2 : N.r2 ≤ 9223372036854775807 := by have := ok.r; have : maxLen = 9223372036854775807 := rfl; omega
  have hs2 : N.s2 ≤ 9223372036854775807 := by have := ok.s; have : maxLen = 9223372036854775807 := rfl; omega
  rw [nodeB_ne hk]
  obtain ⟨k1, k2, k3, k4, k5, k6, k7⟩ := hk
  have j1 : (N.k == 1) = false := by simpa using k1
  have j2 : (N.k == 2) = false := by simpa using k2
  have j3 : (N.k == 3) = false := by simpa using k3
  have j4 : (N.k == 4) = false := by simpa using k4
  have j5 : (N.k == 5) = false := by simpa using k5
  have j6 : (N.k == 6) = false := by simpa using k6
  have j7 : (N.k == 7) = false := by simpa using k7
  obtain ⟨k, r1, r2, r3, a2, s1, s2, s3, a4, a5, a6, a7, a8⟩ := N
  simp only at j1 j2 j3 j4 j5 j6 j7
  clear ok hr hR k1 k2 k3 k4 k5 k6 k7
  go_enter Tryz.func34, Tryz.ntmps34
  go_wp2
  go_ret
  exact ⟨rfl, below_two' w _ _⟩
theorem sound61 (N : Nv) (R : List (Int × Int)) (w : World) (ok : N.ok) (hr : N.r2 = R.length) (hR : R2 w w.heap.size N.r1 R) :
    Calls Tryz.prog 34 #[N.v] w fun e w' => e = .returned (.bool (nodeB N.k R N.a2 N.s2 N.a4 N.a5 N.a6 N.a7 N.a8)) ∧ Below w.heap.size w w' := by
  by_cases k1 : N.k = 1
  · exact sound61E N R w ok hr hR k1
  by_cases k2 : N.k = 2
  · exact sound61C N R w ok hr hR k2
  by_cases k3 : N.k = 3
  · exact sound61A N R w ok hr hR k3
  by_cases k4 : N.k = 4
  · exact sound61S4 N R w ok hr hR k4
  by_cases k5 : N.k = 5
  · exact sound61S5 N R w ok hr hR k5
  by_cases k6 : N.k = 6
  · exact sound61R N R w ok hr hR k6
  by_cases k7 : N.k = 7
  · exact sound61G N R w ok hr hR k7
  · exact sound61O N R w ok hr hR ⟨k1, k2, k3, k4, k5, k6, k7⟩
end Go.Proofs.YtpckbpimgoljoaaGreat
/- HELPERS: is a tree sound? both answers. -/
namespace Go.Proofs.YtpckbpimgoljoaaGreat
open Go.RowKit
set_option linter.unusedVariables false
set_option linter.unusedSimpArgs false
end Go.Proofs.YtpckbpimgoljoaaGreat
/- HELPERS: pointers, boxes, what a call leaves. -/
namespace Go.Proofs.YtpckbpimgoljoaaGreat
open Go.RowKit
set_option linter.unusedVariables false
set_option linter.unusedSimpArgs false
theorem hid {p : Prop} (h : p) : Hid p := h
abbrev pt (b : Nat) : Value := .pointer (some ⟨b, 0, none⟩)
abbrev Bx (w : World) (b : Nat) (t : TypeId) (v : Value) : Prop := w.heap[b]? = some (.cells #[v] t (0, 0))
theorem row_kept {w w' : World} {base e size n : Nat} {v : Value} {xs : List Value} (h : w.ownsRow base e size v n xs) (hk : ∀ b, v.ownBlock = some b → w'.heap[b]? = w.heap[b]?) : w'.ownsRow base e size v n xs := by
  refine ⟨h.1, ?_⟩
  rcases h.2 with hn | ⟨g, cap, cur, rfl, hb, hgg, rest⟩
  · exact .inl hn
  · exact .inr ⟨g, cap, cur, rfl, hb, (hk g rfl).trans hgg, rest⟩
theorem bx0 {w : World} {b : Nat} {t : TypeId} {v : Value} (h : Bx w b t v) : w.cell? ⟨b, 0, none⟩ = some v := Joins.cell_of_block h 0
theorem Chg.trans {w w1 w2 : World} {F F' F2 : List Nat} (h : Chg w w1 F F') (h2 : Chg w1 w2 F' F2) : Chg w w2 F F2 := by
  refine ⟨h2.os.trans h.os, h2.tape.trans h.tape, h2.output.trans h.output, Nat.le_trans h.size h2.size, fun k hk hn => ?_, fun k hk => ?_⟩
  · refine (h2.block k (Nat.lt_of_lt_of_le hk h.size) (fun hm => ?_)).trans (h.block k hk hn)
    rcases h.new k hm with h3 | h3
    · exact hn h3
    · omega
  · rcases h2.new k hk with h3 | h3
    · exact h.new k h3
    · right; have := h.size; omega
theorem Chg.refl (w : World) (F : List Nat) : Chg w w F F := ⟨rfl, rfl, rfl, Nat.le_refl _, fun _ _ _ => rfl, fun _ h => .inl h⟩
theorem Chg.alloc {w w' : World} {F F' : List Nat} (h : Chg w w' F F') (o : Obj) : Chg w (w'.alloc o) F F' :=
  ⟨h.os, h.tape, h.output, by have := h.size; simp; omega, fun k hk hn => (heap_alloc_old w' o (by have := h.size; omega)).trans (h.block k hk hn), h.new⟩
theorem three_new (w : World) (o o' o2 : Obj) : (((w.alloc o).alloc o').alloc o2).heap[w.heap.size]? = some o ∧ (((w.alloc o).alloc o').alloc o2).heap[w.heap.size + 1]? = some o' ∧ (((w.alloc o).alloc o').alloc o2).heap[w.heap.size + 1 + 1]? = some o2 ∧
    ∀ k, k < w.heap.size → (((w.alloc o).alloc o').alloc o2).heap[k]? = w.heap[k]? := by
  have s1 : (w.alloc o).heap.size = w.heap.size + 1 := by simp
  have s2 : ((w.alloc o).alloc o').heap.size = w.heap.size + 1 + 1 := by simp
  refine ⟨?_, ?_, ?_, fun k hk => ?_⟩
  · exact (heap_alloc_old _ _ (by omega)).trans ((heap_alloc_old _ _ (by omega)).trans (heap_alloc_new w o))
  · refine (heap_alloc_old _ _ (by omega)).trans ?_
    rw [← s1]; exact heap_alloc_new _ _
  · rw [← s2]; exact heap_alloc_new _ _
  · exact (heap_alloc_old _ _ (by omega)).trans ((heap_alloc_old _ _ (by omega)).trans (heap_alloc_old _ _ hk))
end Go.Proofs.YtpckbpimgoljoaaGreat
namespace Go.Proofs.YtpckbpimgoljoaaGreat
open Go.RowKit
set_option linter.unusedVariables false
set_option linter.unusedSimpArgs false
set_option maxRecDepth 100000 in
set_option maxHeartbeats 8000000 in
theorem takes48g {w0 : World} {B : Nat} {N : Nv} {t : Tn} (h : TI w0 B N t) : ∀ (c : Nat) (cnt d : Int) (w : World), B ≤ c → 0 ≤ cnt ∧ cnt ≤ 200000 → 0 ≤ d ∧ d ≤ 10001 → B ≤ w.heap.size → (∀ b, b < B → w.heap[b]? = w0.heap[b]?) →
    w.heap[c]? = some (.cells #[.int .i64 cnt] 74 (0, 0)) →
    Calls Tryz.prog 24 #[pt c, N.v, .int .i64 d] w fun e w' => Chg w w' [c] [c] ∧ ((∃ c', t.tk cnt d = some c' ∧ e = .returned (.bool true) ∧ w'.heap[c]? = some (.cells #[.int .i64 c'] 74 (0, 0))) ∨ (t.tk cnt d = none ∧ e = .returned (.bool false))) := by
  induction h with
  | @mk N R ts ND ok hr hR hRk hs hS hk ih =>
  intro c cnt d w hBc hcb hd hB hw hc
  have HS : ∀ w', Chg w w' [c] [c] → Calls Tryz.prog 34 #[N.v] w' fun e w'' => e = .returned (.bool (nodeB N.k R N.a2 N.s2 N.a4 N.a5 N.a6 N.a7 N.a8)) ∧ Below w'.heap.size w' w'' := fun w' hch =>
    sound61 N R w' ok hr ((hR.kept (fun b hb => (hch.block b (by omega) (by simp; omega)).trans (hw b hb))).le (by have := hch.size; omega))
  have hmax := ok.s
  obtain ⟨k, r1, r2, r3, a2, s1, s2, s3, a4, a5, a6, a7, a8⟩ := N
  dsimp only at hs hS hmax HS
  simp only [Tn.tk]
  have hm2 : s2 ≤ 9223372036854775807 := by have : maxLen = 9223372036854775807 := rfl; omega
  rw [← hs]
  generalize nodeB k R a2 s2 a4 a5 a6 a7 a8 = nb at HS ⊢
  obtain ⟨r, hrr⟩ : ∃ r, r = if cnt + 1 ≤ 200000 ∧ d ≤ 10000 ∧ nb = true then tkL ts (cnt + 1) (d + 1) else none := ⟨_, rfl⟩
  rw [← hrr]
  have HRR := hid hrr
  clear hrr
  have hcl := (Array.getElem?_eq_some_iff.1 hc).1
  have c0 : w.cell? ⟨c, 0, none⟩ = some (.int .i64 cnt) := bx0 hc
  have cf := Joins.unfrozen_of_block hc 0
  have ad0 : IntKind.i64.wrap (cnt + 1) = cnt + 1 := by simp [IntKind.wrap, IntKind.bits, IntKind.signed]; omega
  have adD : IntKind.i64.wrap (d + 1) = d + 1 := by simp [IntKind.wrap, IntKind.bits, IntKind.signed]; omega
  have HC0 := hid hc
  have HW := hid hw
  have HSS := hid hS
  have IH := hid ih
  have HL := hid hs
  clear hc hw hS ih hs ok hr hR hRk hk hmax
  go_enter Tryz.func24, Tryz.ntmps24
  go_upto_region 2 with fail
  obtain ⟨W, hW⟩ : ∃ W, W = (w.setCell ⟨c, 0, none⟩ (.int .i64 (cnt + 1))).alloc (.cells #[.int .i64 k, .slice r1 r2 r3, .int .i64 a2, .slice s1 s2 s3, .int .i64 a4, .int .i64 a5, .bool a6, .int .i64 a7, .string a8] 25) := ⟨_, rfl⟩
  rw [← hW]
  have hsw : (w.setCell ⟨c, 0, none⟩ (.int .i64 (cnt + 1))).heap.size = w.heap.size := by simp [World.setCell]
  have hWs : W.heap.size = w.heap.size + 1 := by rw [hW]; simp [World.setCell]
  have hWz : W.heap[w.heap.size]? = some (.cells #[.int .i64 k, .slice r1 r2 r3, .int .i64 a2, .slice s1 s2 s3, .int .i64 a4, .int .i64 a5, .bool a6, .int .i64 a7, .string a8] 25 (0, 0)) := by rw [hW, ← hsw]; exact heap_alloc_new _ _
  have hWc : W.heap[c]? = some (.cells #[.int .i64 (cnt + 1)] 74 (0, 0)) := by rw [hW]; exact (heap_alloc_old _ _ (by omega)).trans (Joins.block_setCell (i := 0) HC0.out _)
  have hch : Chg w W [c] [c] := by rw [hW]; exact ((Chg.refl w [c]).set (a := ⟨c, 0, none⟩) _ (by simp)).alloc _
  have x0 : W.cell? ⟨c, 0, none⟩ = some (.int .i64 (cnt + 1)) := bx0 hWc
  obtain ⟨z, hz⟩ : ∃ z, z = w.heap.size := ⟨_, rfl⟩
  rw [← hz] at hWz hWs ⊢
  obtain ⟨o0, o1, o2, o3, o4, o5, o6, o7, o8⟩ := nine' hWz
  have HCH := hid hch
  have HWZ := hid hWz
  have HWC := hid hWc
  have HWS := hid hWs
  have HZ := hid hz
  have HS1 := HS W hch
  clear hW hsw hWs hWz hWc hch hz c0 cf HS
  by_cases hc1 : cnt + 1 ≤ 200000
  · have b0 : decide (cnt + 1 > 200000) = false := by simp; omega
    have b0' : decide (200000 < cnt + 1) = false := by simp; omega
    by_cases hd1 : d ≤ 10000
    · have b00 : decide (d > 10000) = false := by simp; omega
      have b00' : decide (10000 < d) = false := by simp; omega
      cases nb
      · go_wp2_with (first | (go_at_call 34; (with_reducible refine HS1.mono ?_); rintro e w1 ⟨rfl, hb1⟩; have HB1 := hid hb1; clear hb1 HS1))
        go_ret
        exact ⟨HCH.out.trans (Chg.of_below HB1.out), .inr ⟨by rw [HRR.out, if_neg (by simp)], rfl⟩⟩
      · go_wp2_with (first | (go_at_call 34; (with_reducible refine HS1.mono ?_); rintro e w1 ⟨rfl, hb1⟩; have k3 : w1.cell? ⟨z, 3, none⟩ = some (.slice s1 s2 s3) := (hb1.cell (p := ⟨z, 3, none⟩) (by have := HWS.out; show z < W.heap.size; omega)).trans o3; have HB1 := hid hb1; clear hb1 HS1))
        have hch1 : Chg w w1 [c] [c] := HCH.out.trans (Chg.of_below HB1.out)
        have hcc : w1.heap[c]? = some (.cells #[.int .i64 (cnt + 1)] 74 (0, 0)) := (HB1.out.block c (by have := HWS.out; have := HZ.out; omega)).trans HWC.out
        have HC1 := hid hcc
        have HCH1 := hid hch1
        clear hcc hch1
        have HR : Hid (r = tkL ts (cnt + 1) (d + 1)) := HRR.out.trans (if_pos ⟨hc1, hd1, by trivial⟩)
        go_loopw [33] (fun y wq => ∃ (i : Nat) (q : Int), y = .int .i64 (i : Int) ∧ i ≤ s2 ∧ (0 ≤ q ∧ q ≤ 200000) ∧ Hid (tkL (ts.drop i) q (d + 1) = r) ∧ Hid (Chg w wq [c] [c] ∧ wq.heap[c]? = some (.cells #[.int .i64 q] 74 (0, 0)))) (fun y _ => s2 - (intOf y).toNat)
        case atStart => exact ⟨0, cnt + 1, rfl, by omega, by omega, HR.out.symm, HCH1.out, HC1.out⟩
        case round =>
          obtain ⟨i, q, rfl, hi, hq, HQ, HI⟩ := hrel
          by_cases hil : i < s2
          · have b1 : decide ((i : Int) < (s2 : Int)) = true := by simp; omega
            have b2 : (i : Int) < (s2 : Int) := by omega
            have hlt : i < ts.length := by rw [← HL.out]; exact hil
            obtain ⟨b, o, hs1, hb, hcb'⟩ := HSS.out (by omega)
            subst hs1
            have hwk : ∀ b, b < B → wr.heap[b]? = w0.heap[b]? := fun b hb => (HI.out.1.block b (by omega) (by simp; omega)).trans (HW.out b hb)
            obtain ⟨n0, n1, n2, n3, n4, n5, n6, n7, n8⟩ := (hcb' i hlt).kept (hwk b hb)
            have HC := IH.out i hlt c q (d + 1) (wr.alloc (.cells #[.int .i64 (ND i).k, .slice (ND i).r1 (ND i).r2 (ND i).r3, .int .i64 (ND i).a2, .slice (ND i).s1 (ND i).s2 (ND i).s3, .int .i64 (ND i).a4, .int .i64 (ND i).a5, .bool (ND i).a6, .int .i64 (ND i).a7, .string (ND i).a8] 25)) hBc hq (by omega) (by have := HI.out.1.size; simp; omega) (fun b hb => (heap_alloc_old _ _ (by have := HI.out.1.size; omega)).trans (hwk b hb)) ((heap_alloc_old wr _ (by have := HI.out.1.size; omega)).trans HI.out.2)
            rw [tkL_drop ts i hlt q (d + 1)] at HQ
            have hsp := Tn.tk_spec ts[i] q (d + 1) hq.2 (by omega)
            have hg2 : ∀ c', ts[i].tk q (d + 1) = some c' → 0 ≤ c' ∧ c' ≤ 200000 := fun c' hc' => by
              rw [hsp] at hc'
              split at hc'
              · simp at hc'; omega
              · simp at hc'
            obtain ⟨g, hg⟩ : ∃ g, g = ts[i].tk q (d + 1) := ⟨_, rfl⟩
            rw [← hg] at HC HQ hg2
            have HG2 := hid hg2
            obtain ⟨M, hM⟩ : ∃ M, M = ND i := ⟨_, rfl⟩
            rw [← hM] at HC n0 n1 n2 n3 n4 n5 n6 n7 n8
            have ad1 : IntKind.i64.wrap ((i : Int) + 1) = (i : Int) + 1 := by simp [IntKind.wrap, IntKind.bits, IntKind.signed]; omega
            clear hM hg hwk hcb' hsp hlt hg2
            cases g with
            | none =>
              have HC' := HC.mono (R' := fun e w' => e = .returned (.bool false) ∧ Chg _ w' [c] [c]) (fun e w' ⟨h1, h2⟩ => by
                rcases h2 with ⟨c', h, _⟩ | ⟨_, h⟩
                · cases h
                · exact ⟨h, h1⟩)
              clear HC
              have e := HQ.out
              simp only at e
              have E := hid e
              clear e HQ HG2
              go_wp2_with (first | (go_at_call 24; (with_reducible refine HC'.mono ?_); rintro e w2 ⟨rfl, hc2⟩; have HC2 := hid hc2; clear hc2 HC'))
              go_ret
              exact ⟨(HI.out.1.alloc _).trans HC2.out, .inr ⟨E.out.symm, rfl⟩⟩
            | some c' =>
              have HC' := HC.mono (R' := fun e w' => e = .returned (.bool true) ∧ Chg _ w' [c] [c] ∧ w'.heap[c]? = some (.cells #[.int .i64 c'] 74 (0, 0))) (fun e w' ⟨h1, h2⟩ => by
                rcases h2 with ⟨c', h, h3, h4⟩ | ⟨h, _⟩
                · cases h; exact ⟨h3, h1, h4⟩
                · cases h)
              clear HC
              have e := HQ.out
              simp only at e
              have E := hid e
              clear e HQ
              have hc'b := HG2.out c' rfl
              clear HG2
              go_wp2_with (first | (go_at_call 24; (with_reducible refine HC'.mono ?_); rintro e w2 ⟨rfl, hc2, hb2⟩; have HC2 := hid hc2; have HB2 := hid hb2; clear hc2 hb2 HC'))
              refine ⟨⟨i + 1, c', by push_cast; rfl, by omega, hc'b, E.out, (HI.out.1.alloc _).trans HC2.out, HB2.out⟩, ?_⟩
              simp [intOf]
              omega
          · have b1 : decide ((i : Int) < (s2 : Int)) = false := by simp; omega
            obtain rfl : i = s2 := by omega
            have e := HQ.out
            rw [HL.out, List.drop_length] at e
            simp only [tkL] at e
            have E := hid e
            clear e
            go_wp2
            go_ret
            exact ⟨HI.out.1, .inl ⟨q, E.out.symm, rfl, HI.out.2⟩⟩
    · have b00 : decide (d > 10000) = true := by simp; omega
      have b00' : decide (10000 < d) = true := by simp; omega
      go_wp2
      go_ret
      exact ⟨HCH.out, .inr ⟨by rw [HRR.out, if_neg (by omega)], rfl⟩⟩
  · have b0 : decide (cnt + 1 > 200000) = true := by simp; omega
    have b0' : decide (200000 < cnt + 1) = true := by simp; omega
    go_wp2
    go_ret
    exact ⟨HCH.out, .inr ⟨by rw [HRR.out, if_neg (by omega)], rfl⟩⟩
theorem sound29g {w : World} {N : Nv} {t : Tn} (h : TI w w.heap.size N t) : Calls Tryz.prog 13 #[N.v] w fun e w' => e = .returned (.int .i64 (if t.sound then 0 else 50)) ∧ Below w.heap.size w w' := by
  have HC := takes48g h (w.heap.size + 1) 0 1 ((w.alloc (.cells #[.int .i64 N.k, .slice N.r1 N.r2 N.r3, .int .i64 N.a2, .slice N.s1 N.s2 N.s3, .int .i64 N.a4, .int .i64 N.a5, .bool N.a6, .int .i64 N.a7, .string N.a8] 25)).alloc (.cells #[.int .i64 0] 74)) (by omega) (by omega) (by omega) (by simp; omega) (fun b hb => (heap_alloc_old _ _ (by simp; omega)).trans (heap_alloc_old w _ hb)) (two_new w _ _ _)
  have HS := sound_tk t
  obtain ⟨k, r1, r2, r3, a2, s1, s2, s3, a4, a5, a6, a7, a8⟩ := N
  dsimp only at HC
  obtain ⟨g, hg⟩ : ∃ g, g = t.tk 0 1 := ⟨_, rfl⟩
  rw [← hg] at HC HS
  rw [← HS]
  clear hg HS
  cases g with
  | none =>
    have HC' := HC.mono (R' := fun e w' => e = .returned (.bool false) ∧ Chg _ w' [w.heap.size + 1] [w.heap.size + 1]) (fun e w' ⟨h1, h2⟩ => by
      rcases h2 with ⟨c', h, _⟩ | ⟨_, h⟩
      · cases h
      · exact ⟨h, h1⟩)
    clear HC
    go_enter Tryz.func13, Tryz.ntmps13
    go_wp2_with (first | (go_at_call 24; (with_reducible refine HC'.mono ?_); rintro e w2 ⟨rfl, hc2⟩; have HC2 := hid hc2; clear hc2 HC'))
    go_ret
    exact ⟨rfl, (below_two' w _ _).trans (HC2.out.below (by simp; omega) (fun k hk => by simp at hk; omega))⟩
  | some c' =>
    have HC' := HC.mono (R' := fun e w' => e = .returned (.bool true) ∧ Chg _ w' [w.heap.size + 1] [w.heap.size + 1]) (fun e w' ⟨h1, h2⟩ => by
      rcases h2 with ⟨c', h, h3, h4⟩ | ⟨h, _⟩
      · exact ⟨h3, h1⟩
      · cases h)
    clear HC
    go_enter Tryz.func13, Tryz.ntmps13
    go_wp2_with (first | (go_at_call 24; (with_reducible refine HC'.mono ?_); rintro e w2 ⟨rfl, hc2⟩; have HC2 := hid hc2; clear hc2 HC'))
    go_ret
    exact ⟨rfl, (below_two' w _ _).trans (HC2.out.below (by simp; omega) (fun k hk => by simp at hk; omega))⟩
end Go.Proofs.YtpckbpimgoljoaaGreat
