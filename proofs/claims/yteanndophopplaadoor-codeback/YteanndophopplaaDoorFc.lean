/- HELPERS: an instruction's fields laid down. -/
import Derived.Test.YteanndophopplaaDoorFb
namespace Go.Proofs.YteanndophopplaaDoor
open Go.RowKit
set_option linter.unusedVariables false
set_option linter.unusedSimpArgs false
theorem WB.cells5 {T base wb : Nat} {w w1 : World} {c0 c1 c2 c3 c4 : Value} {t : TypeId} {xs : List Nat} {v : Value} {F : List Nat} (h : WB T base wb w xs v) (hc : Chg (w.alloc (.cells #[c0, c1, c2, c3, c4] t)) w1 (WF wb v) F) :
    w1.cell? ⟨w.heap.size, 0, none⟩ = some c0 ∧ w1.cell? ⟨w.heap.size, 1, none⟩ = some c1 ∧ w1.cell? ⟨w.heap.size, 2, none⟩ = some c2 ∧ w1.cell? ⟨w.heap.size, 3, none⟩ = some c3 ∧ w1.cell? ⟨w.heap.size, 4, none⟩ = some c4 := five (h.keepNew hc)
theorem row_base {base : Nat} {w w1 : World} {v : Value} {L : List (Int × Int)} (h : RowAt base w v L) (hb : Below base w w1) : RowAt base w1 v L := h.below hb (Nat.le_refl _) (Nat.le_refl _)
set_option maxRecDepth 100000 in
set_option maxHeartbeats 4000000 in
theorem fields_rune {f T base wb : Nat} {E : Nat → List Nat} {w0 : World} (hN : NumW f T base wb E w0) (hf : Enters f) (hE : LenE E) (hbw : base ≤ wb) {w : World} {xs : List Nat} {v : Value} {r1 : Option Addr} {r2 r3 : Nat} {x : Nat}
    (hq : Below base w0 w) (hW : WB T base wb w xs v) {R : List (Int × Int)} (hR : RowAt base w (.slice r1 r2 r3) R) (hn : r2 = R.length) (h5 : r2 ≤ 5000) (hr : ∀ r ∈ R, 0 ≤ r.1 ∧ r.1 ≤ 1114111 ∧ 0 ≤ r.2 ∧ r.2 ≤ 1114111) (hx : x ≤ 20000) (hS : xs.length ≤ 500000000000) :
    Calls Tryd.prog 61 #[.agg #[.int .i64 1, .int .i64 (x : Int), .int .i64 0, .int .i64 0, .slice r1 r2 r3], mv f wb] w fun e w' => e = .returned (.tuple #[]) ∧ ∃ v', WB T base wb w' (xs ++ (E x ++ (E R.length ++ sumE E (rnums R)))) v' ∧ Chg w w' (WF wb v) (WF wb v') := by
  have C1 := hN _ xs v x (hq.alloc hW.bs _) (hW.alloc (.cells #[.int .i64 1, .int .i64 (x : Int), .int .i64 0, .int .i64 0, .slice r1 r2 r3] 49)) (by omega)
  have HW := hid hW
  have HQW := hid hq
  have hE1 := hE x
  have HR := hid hR
  have HN := hid hn
  have HQ := hid hr
  have HE := hid hE
  clear hW hR hn hr hE hq
  go_enter Tryd.func61, Tryd.ntmps61
  go_wp2_with (first | (with_reducible refine C1.mono ?_; rintro e w1 ⟨rfl, v1, hW1, hC1⟩; obtain ⟨k0, k1, k2, k3, k4⟩ := HW.out.cells5 hC1; have HW1 := hid hW1; have HC1 := hid hC1.pre; have C2 := layRanges72 hN hf HE.out hbw (c := r3) (HQW.out.trans (HW.out.below hbw hC1.pre)) hW1 (row_base HR.out (HW.out.below hbw hC1.pre)) HN.out h5 HQ.out (by rw [List.length_append]; omega); rw [HN.out, ← HN.out] at C2; clear hW1 hC1 C1) | (go_at_call 72; with_reducible refine C2.mono ?_; rintro e w2 ⟨rfl, v2, hW2, hC2⟩; have HW2 := hid hW2; have HC2 := hid hC2; clear hW2 hC2 C2))
  all_goals go_end0
  all_goals exact ⟨rfl, v2, by have e := HW2.out; rw [HN.out, List.append_assoc] at e; exact e, HC1.out.trans HC2.out⟩
set_option maxRecDepth 100000 in
set_option maxHeartbeats 4000000 in
theorem fields_alt {f T base wb : Nat} {E : Nat → List Nat} {w0 : World} (hN : NumW f T base wb E w0) (hf : Enters f) (hE : LenE E) (hbw : base ≤ wb) {w : World} {xs : List Nat} {v : Value} {r1 : Option Addr} {r2 r3 : Nat} {x y : Nat}
    (hq : Below base w0 w) (hW : WB T base wb w xs v) (hx : x ≤ 20000) (hy : y ≤ 20000) (hS : xs.length ≤ 500000000000) :
    Calls Tryd.prog 61 #[.agg #[.int .i64 2, .int .i64 (x : Int), .int .i64 (y : Int), .int .i64 0, .slice r1 r2 r3], mv f wb] w fun e w' => e = .returned (.tuple #[]) ∧ ∃ v', WB T base wb w' (xs ++ (E x ++ E y)) v' ∧ Chg w w' (WF wb v) (WF wb v') := by
  have C1 := hN _ xs v x (hq.alloc hW.bs _) (hW.alloc (.cells #[.int .i64 2, .int .i64 (x : Int), .int .i64 (y : Int), .int .i64 0, .slice r1 r2 r3] 49)) (by omega)
  have HW := hid hW
  have HQW := hid hq
  have hE1 := hE x
  clear hW hq
  go_enter Tryd.func61, Tryd.ntmps61
  go_wp2_with (first | (with_reducible refine C1.mono ?_; rintro e w1 ⟨rfl, v1, hW1, hC1⟩; obtain ⟨k0, k1, k2, k3, k4⟩ := HW.out.cells5 hC1; have HW1 := hid hW1; have HC1 := hid hC1.pre; have C2 := hN w1 (xs ++ E x) v1 y (HQW.out.trans (HW.out.below hbw hC1.pre)) hW1 (by rw [List.length_append]; omega); clear hW1 hC1 C1) | (with_reducible refine C2.mono ?_; rintro e w2 ⟨rfl, v2, hW2, hC2⟩; have HW2 := hid hW2; have HC2 := hid hC2; clear hW2 hC2 C2))
  all_goals go_end0
  all_goals exact ⟨rfl, v2, by have e := HW2.out; rw [List.append_assoc] at e; exact e, HC1.out.trans HC2.out⟩
set_option maxRecDepth 100000 in
set_option maxHeartbeats 4000000 in
theorem fields_cap {f T base wb : Nat} {E : Nat → List Nat} {w0 : World} (hN : NumW f T base wb E w0) (hf : Enters f) (hE : LenE E) (hbw : base ≤ wb) {w : World} {xs : List Nat} {v : Value} {r1 : Option Addr} {r2 r3 : Nat} {x a : Nat}
    (hq : Below base w0 w) (hW : WB T base wb w xs v) (ha : a ≤ 20000) (hx : x ≤ 20000) (hS : xs.length ≤ 500000000000) :
    Calls Tryd.prog 61 #[.agg #[.int .i64 3, .int .i64 (x : Int), .int .i64 0, .int .i64 (a : Int), .slice r1 r2 r3], mv f wb] w fun e w' => e = .returned (.tuple #[]) ∧ ∃ v', WB T base wb w' (xs ++ (E a ++ E x)) v' ∧ Chg w w' (WF wb v) (WF wb v') := by
  have C1 := hN _ xs v a (hq.alloc hW.bs _) (hW.alloc (.cells #[.int .i64 3, .int .i64 (x : Int), .int .i64 0, .int .i64 (a : Int), .slice r1 r2 r3] 49)) (by omega)
  have HW := hid hW
  have HQW := hid hq
  have hE1 := hE a
  clear hW hq
  go_enter Tryd.func61, Tryd.ntmps61
  go_wp2_with (first | (with_reducible refine C1.mono ?_; rintro e w1 ⟨rfl, v1, hW1, hC1⟩; obtain ⟨k0, k1, k2, k3, k4⟩ := HW.out.cells5 hC1; have HW1 := hid hW1; have HC1 := hid hC1.pre; have C2 := hN w1 (xs ++ E a) v1 x (HQW.out.trans (HW.out.below hbw hC1.pre)) hW1 (by rw [List.length_append]; omega); clear hW1 hC1 C1) | (with_reducible refine C2.mono ?_; rintro e w2 ⟨rfl, v2, hW2, hC2⟩; have HW2 := hid hW2; have HC2 := hid hC2; clear hW2 hC2 C2))
  all_goals go_end0
  all_goals exact ⟨rfl, v2, by have e := HW2.out; rw [List.append_assoc] at e; exact e, HC1.out.trans HC2.out⟩
set_option maxRecDepth 100000 in
set_option maxHeartbeats 4000000 in
theorem fields_assert {f T base wb : Nat} {E : Nat → List Nat} {w0 : World} (hN : NumW f T base wb E w0) (hf : Enters f) (hE : LenE E) (hbw : base ≤ wb) {w : World} {xs : List Nat} {v : Value} {r1 : Option Addr} {r2 r3 : Nat} {x a : Nat}
    (hq : Below base w0 w) (hW : WB T base wb w xs v) (ha : a ≤ 20000) (hx : x ≤ 20000) (hS : xs.length ≤ 500000000000) :
    Calls Tryd.prog 61 #[.agg #[.int .i64 4, .int .i64 (x : Int), .int .i64 0, .int .i64 (a : Int), .slice r1 r2 r3], mv f wb] w fun e w' => e = .returned (.tuple #[]) ∧ ∃ v', WB T base wb w' (xs ++ (E a ++ E x)) v' ∧ Chg w w' (WF wb v) (WF wb v') := by
  have C1 := hN _ xs v a (hq.alloc hW.bs _) (hW.alloc (.cells #[.int .i64 4, .int .i64 (x : Int), .int .i64 0, .int .i64 (a : Int), .slice r1 r2 r3] 49)) (by omega)
  have HW := hid hW
  have HQW := hid hq
  have hE1 := hE a
  clear hW hq
  go_enter Tryd.func61, Tryd.ntmps61
  go_wp2_with (first | (with_reducible refine C1.mono ?_; rintro e w1 ⟨rfl, v1, hW1, hC1⟩; obtain ⟨k0, k1, k2, k3, k4⟩ := HW.out.cells5 hC1; have HW1 := hid hW1; have HC1 := hid hC1.pre; have C2 := hN w1 (xs ++ E a) v1 x (HQW.out.trans (HW.out.below hbw hC1.pre)) hW1 (by rw [List.length_append]; omega); clear hW1 hC1 C1) | (with_reducible refine C2.mono ?_; rintro e w2 ⟨rfl, v2, hW2, hC2⟩; have HW2 := hid hW2; have HC2 := hid hC2; clear hW2 hC2 C2))
  all_goals go_end0
  all_goals exact ⟨rfl, v2, by have e := HW2.out; rw [List.append_assoc] at e; exact e, HC1.out.trans HC2.out⟩
set_option maxRecDepth 100000 in
set_option maxHeartbeats 4000000 in
theorem fields_mtch {f T base wb : Nat} {E : Nat → List Nat} {w0 : World} (hN : NumW f T base wb E w0) (hf : Enters f) (hE : LenE E) (hbw : base ≤ wb) {w : World} {xs : List Nat} {v : Value} {r1 : Option Addr} {r2 r3 : Nat} {a : Nat}
    (hq : Below base w0 w) (hW : WB T base wb w xs v) (ha : a ≤ 20000) (hS : xs.length ≤ 500000000000) :
    Calls Tryd.prog 61 #[.agg #[.int .i64 5, .int .i64 0, .int .i64 0, .int .i64 (a : Int), .slice r1 r2 r3], mv f wb] w fun e w' => e = .returned (.tuple #[]) ∧ ∃ v', WB T base wb w' (xs ++ E a) v' ∧ Chg w w' (WF wb v) (WF wb v') := by
  have C1 := hN _ xs v a (hq.alloc hW.bs _) (hW.alloc (.cells #[.int .i64 5, .int .i64 0, .int .i64 0, .int .i64 (a : Int), .slice r1 r2 r3] 49)) (by omega)
  have HW := hid hW
  have HQW := hid hq
  have hE1 := hE a
  clear hW hq
  go_enter Tryd.func61, Tryd.ntmps61
  go_wp2_with (with_reducible refine C1.mono ?_; rintro e w1 ⟨rfl, v1, hW1, hC1⟩; obtain ⟨k0, k1, k2, k3, k4⟩ := HW.out.cells5 hC1; have HW1 := hid hW1; have HC1 := hid hC1.pre; clear hW1 hC1 C1)
  all_goals go_end0
  all_goals exact ⟨rfl, v1, HW1.out, HC1.out⟩
set_option maxRecDepth 100000 in
set_option maxHeartbeats 4000000 in
theorem fields_fail {f T base wb : Nat} {E : Nat → List Nat} {w0 : World} (hN : NumW f T base wb E w0) (hf : Enters f) (hE : LenE E) (hbw : base ≤ wb) {w : World} {xs : List Nat} {v : Value} {r1 : Option Addr} {r2 r3 : Nat} 
    (hq : Below base w0 w) (hW : WB T base wb w xs v)  (hS : xs.length ≤ 500000000000) :
    Calls Tryd.prog 61 #[.agg #[.int .i64 6, .int .i64 0, .int .i64 0, .int .i64 0, .slice r1 r2 r3], mv f wb] w fun e w' => e = .returned (.tuple #[]) ∧ ∃ v', WB T base wb w' (xs) v' ∧ Chg w w' (WF wb v) (WF wb v') := by
  have HW := hid (hW.alloc (.cells #[.int .i64 6, .int .i64 0, .int .i64 0, .int .i64 0, .slice r1 r2 r3] 49))
  have HC : Hid (Chg w (w.alloc (.cells #[.int .i64 6, .int .i64 0, .int .i64 0, .int .i64 0, .slice r1 r2 r3] 49)) (WF wb v) (WF wb v)) := (Chg.refl _ _).alloc _
  clear hW hq
  go_enter Tryd.func61, Tryd.ntmps61
  go_wp2
  all_goals go_end0
  all_goals exact ⟨rfl, v, HW.out, HC.out⟩
set_option maxRecDepth 100000 in
set_option maxHeartbeats 4000000 in
theorem fields_nop {f T base wb : Nat} {E : Nat → List Nat} {w0 : World} (hN : NumW f T base wb E w0) (hf : Enters f) (hE : LenE E) (hbw : base ≤ wb) {w : World} {xs : List Nat} {v : Value} {r1 : Option Addr} {r2 r3 : Nat} {x : Nat}
    (hq : Below base w0 w) (hW : WB T base wb w xs v) (hx : x ≤ 20000) (hS : xs.length ≤ 500000000000) :
    Calls Tryd.prog 61 #[.agg #[.int .i64 7, .int .i64 (x : Int), .int .i64 0, .int .i64 0, .slice r1 r2 r3], mv f wb] w fun e w' => e = .returned (.tuple #[]) ∧ ∃ v', WB T base wb w' (xs ++ E x) v' ∧ Chg w w' (WF wb v) (WF wb v') := by
  have C1 := hN _ xs v x (hq.alloc hW.bs _) (hW.alloc (.cells #[.int .i64 7, .int .i64 (x : Int), .int .i64 0, .int .i64 0, .slice r1 r2 r3] 49)) (by omega)
  have HW := hid hW
  have HQW := hid hq
  have hE1 := hE x
  clear hW hq
  go_enter Tryd.func61, Tryd.ntmps61
  go_wp2_with (with_reducible refine C1.mono ?_; rintro e w1 ⟨rfl, v1, hW1, hC1⟩; obtain ⟨k0, k1, k2, k3, k4⟩ := HW.out.cells5 hC1; have HW1 := hid hW1; have HC1 := hid hC1.pre; clear hW1 hC1 C1)
  all_goals go_end0
  all_goals exact ⟨rfl, v1, HW1.out, HC1.out⟩
theorem fields61 {f T base wb : Nat} {E : Nat → List Nat} {w0 : World} (hN : NumW f T base wb E w0) (hf : Enters f) (hE : LenE E) (hbw : base ≤ wb) {w : World} {xs : List Nat} {v : Value} {N : Iv} {I : In} {n k : Int} (hq : Below base w0 w) (hW : WB T base wb w xs v) (hI : IM w base N I) (hF : Fit n k I) (hn : n ≤ 20000) (hk : k ≤ 1002) (hS : xs.length ≤ 500000000000) :
    Calls Tryd.prog 61 #[N.v, mv f wb] w fun e w' => e = .returned (.tuple #[]) ∧ ∃ v', WB T base wb w' (xs ++ sumE E I.nums) v' ∧ Chg w w' (WF wb v) (WF wb v') := by
  obtain ⟨op, x, y, a, r1, r2, r3⟩ := N
  have e1 := hI.op; have e2 := hI.x; have e3 := hI.y; have e4 := hI.a; have e5 := hI.len; have e6 := hI.row
  simp only at e1 e2 e3 e4 e5 e6
  subst e1 e2 e3 e4
  cases hF with
  | rune x0 R h1 h2 h3 h4 =>
    simp only at e5 e6 ⊢
    obtain ⟨r5, r6⟩ := right_ok h4
    obtain ⟨m, hm⟩ : ∃ m : Nat, x0 = (m : Int) := ⟨x0.toNat, by omega⟩
    subst hm
    have := fields_rune hN hf hE hbw (x := m) hq hW e6 e5 (by omega) r6 (by omega) hS
    have e : sumE E (In.nums ⟨1, (m : Int), 0, 0, R⟩) = E m ++ (E R.length ++ sumE E (rnums R)) := by simp [In.nums, sumE]
    rw [e]; exact this
  | alt x0 y0 h1 h2 h3 h4 =>
    simp only
    obtain ⟨m, hm⟩ : ∃ m : Nat, x0 = (m : Int) := ⟨x0.toNat, by omega⟩
    obtain ⟨q, hq⟩ : ∃ q : Nat, y0 = (q : Int) := ⟨y0.toNat, by omega⟩
    subst hm hq
    have := fields_alt hN hf hE hbw (r1 := r1) (r2 := r2) (r3 := r3) (x := m) (y := q) hq hW (by omega) (by omega) hS
    have e : sumE E (In.nums ⟨2, (m : Int), (q : Int), 0, []⟩) = E m ++ E q := by simp [In.nums, sumE]
    rw [e]; exact this
  | cap x0 y0 h1 h2 h3 h4 =>
    simp only
    obtain ⟨m, hm⟩ : ∃ m : Nat, x0 = (m : Int) := ⟨x0.toNat, by omega⟩
    obtain ⟨q, hq⟩ : ∃ q : Nat, y0 = (q : Int) := ⟨y0.toNat, by omega⟩
    subst hm hq
    have := fields_cap hN hf hE hbw (r1 := r1) (r2 := r2) (r3 := r3) (x := m) (a := q) hq hW (by omega) (by omega) hS
    have e : sumE E (In.nums ⟨3, (m : Int), 0, (q : Int), []⟩) = E q ++ E m := by simp [In.nums, sumE]
    rw [e]; exact this
  | assert x0 y0 h1 h2 h3 h4 =>
    simp only
    obtain ⟨m, hm⟩ : ∃ m : Nat, x0 = (m : Int) := ⟨x0.toNat, by omega⟩
    obtain ⟨q, hq⟩ : ∃ q : Nat, y0 = (q : Int) := ⟨y0.toNat, by omega⟩
    subst hm hq
    have := fields_assert hN hf hE hbw (r1 := r1) (r2 := r2) (r3 := r3) (x := m) (a := q) hq hW (by omega) (by omega) hS
    have e : sumE E (In.nums ⟨4, (m : Int), 0, (q : Int), []⟩) = E q ++ E m := by simp [In.nums, sumE]
    rw [e]; exact this
  | mtch y0 h1 h2 =>
    simp only
    obtain ⟨q, hq⟩ : ∃ q : Nat, y0 = (q : Int) := ⟨y0.toNat, by omega⟩
    subst hq
    have := fields_mtch hN hf hE hbw (r1 := r1) (r2 := r2) (r3 := r3) (a := q) hq hW (by omega) hS
    have e : sumE E (In.nums ⟨5, 0, 0, (q : Int), []⟩) = E q := by simp [In.nums, sumE]
    rw [e]; exact this
  | fail =>
    simp only
    have := fields_fail hN hf hE hbw (r1 := r1) (r2 := r2) (r3 := r3) hq hW hS
    have e : sumE E (In.nums ⟨6, 0, 0, 0, []⟩) = [] := by simp [In.nums, sumE]
    rw [e, List.append_nil]; exact this
  | nop x0 h1 h2 =>
    simp only
    obtain ⟨q, hq⟩ : ∃ q : Nat, x0 = (q : Int) := ⟨x0.toNat, by omega⟩
    subst hq
    have := fields_nop hN hf hE hbw (r1 := r1) (r2 := r2) (r3 := r3) (x := q) hq hW (by omega) hS
    have e : sumE E (In.nums ⟨7, (q : Int), 0, 0, []⟩) = E q := by simp [In.nums, sumE]
    rw [e]; exact this
end Go.Proofs.YteanndophopplaaDoor
