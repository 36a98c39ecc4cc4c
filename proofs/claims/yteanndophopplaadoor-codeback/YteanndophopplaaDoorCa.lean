/- HELPERS: the small tests of a program's instructions. -/

import Derived.Test.YteanndophopplaaDoorTd
import Derived.Test.YteanndophopplaaDoorRi
namespace Go.Proofs.YteanndophopplaaDoor
open Go.RowKit
set_option linter.unusedVariables false
set_option linter.unusedSimpArgs false
def belowB (n c : Int) : Bool := decide (0 ≤ n) && decide (n < c)
def capsB (c : Int) : Bool := decide (2 ≤ c) && decide (c ≤ 1002) && (c % 2 == 0)
def hasXB (op : Int) : Bool := op == 1 || op == 2 || op == 3 || op == 4 || op == 7
def hasYB (op : Int) : Bool := op == 2
def isTargetB (to : Int) (has : Bool) (c : Int) : Bool := if has then belowB to c else to == 0
def isArgB (op arg caps : Int) : Bool := if op == 3 then belowB arg caps else if op == 4 then assertB arg else if op == 5 then belowB arg 100 else if op == 1 || op == 2 || op == 6 || op == 7 then arg == 0 else false
def isRangesB (op : Int) (R : List (Int × Int)) : Bool := if op == 1 then decide (0 < R.length) && rightB R else R.length == 0
theorem below38 (n c : Int) (w : World) : Calls Tryd.prog 68 #[.int .i64 n, .int .i64 c] w fun e w' => e = .returned (.bool (belowB n c)) ∧ w' = w := by
  go_enter Tryd.func68, Tryd.ntmps68
  go_wp2
  all_goals go_ret
  all_goals exact ⟨ret_bool (by (simp_all [belowB]) <;> (intros; omega)), rfl⟩
theorem caps39 (c : Int) (w : World) : Calls Tryd.prog 69 #[.int .i64 c] w fun e w' => e = .returned (.bool (capsB c)) ∧ w' = w := by
  go_enter Tryd.func69, Tryd.ntmps69
  go_wp2
  all_goals go_ret
  all_goals refine ⟨ret_bool ?_, rfl⟩
  all_goals first | (simp_all [capsB]; done) | (simp [capsB, Int.tmod_eq_emod] <;> omega)
theorem hasX61 (op : Int) (w : World) : Calls Tryd.prog 75 #[.int .i64 op] w fun e w' => e = .returned (.bool (hasXB op)) ∧ w' = w := by
  go_enter Tryd.func75, Tryd.ntmps75
  go_wp2
  all_goals go_ret
  all_goals exact ⟨ret_bool (by simp_all [hasXB]), rfl⟩
theorem hasY62 (op : Int) (w : World) : Calls Tryd.prog 76 #[.int .i64 op] w fun e w' => e = .returned (.bool (hasYB op)) ∧ w' = w := by
  go_enter Tryd.func76, Tryd.ntmps76
  go_wp2
  all_goals go_ret
  all_goals exact ⟨ret_bool (by simp_all [hasYB]), rfl⟩
theorem target60 (to : Int) (has : Bool) (c : Int) (w : World) : Calls Tryd.prog 74 #[.int .i64 to, .bool has, .int .i64 c] w fun e w' => e = .returned (.bool (isTargetB to has c)) ∧ w' = w := by
  have HC := below38 to c w
  cases has
  · go_enter Tryd.func74, Tryd.ntmps74
    go_wp2
    all_goals go_ret
    all_goals exact ⟨ret_bool (by simp_all [isTargetB]), rfl⟩
  · go_enter Tryd.func74, Tryd.ntmps74
    go_wp2_with (first | (go_at_call 68; (with_reducible refine HC.mono ?_); rintro e w2 ⟨rfl, rfl⟩))
    all_goals go_ret
    all_goals exact ⟨ret_bool (by simp [isTargetB]), rfl⟩
theorem assert80 (n : Int) (w : World) : Calls Tryd.prog 80 #[.int .i64 n] w fun e w' => e = .returned (.bool (assertB n)) ∧ w' = w := by
  go_enter Tryd.func80, Tryd.ntmps80
  go_wp2
  all_goals go_ret
  all_goals exact ⟨ret_bool (by simp_all [assertB]), rfl⟩
theorem arg63 (op arg caps : Int) (w : World) : Calls Tryd.prog 77 #[.int .i64 op, .int .i64 arg, .int .i64 caps] w fun e w' => e = .returned (.bool (isArgB op arg caps)) ∧ w' = w := by
  have H1 := below38 arg caps w
  have H2 := below38 arg 100 w
  have H3 := assert80 arg w
  go_enter Tryd.func77, Tryd.ntmps77
  go_wp2_with (first | (go_at_call 68; (first | (with_reducible refine H1.mono ?_) | (with_reducible refine H2.mono ?_)); rintro e w2 ⟨rfl, rfl⟩) | (go_at_call 80; (with_reducible refine H3.mono ?_); rintro e w2 ⟨rfl, rfl⟩))
  all_goals go_ret
  all_goals exact ⟨ret_bool (by simp_all [isArgB]), rfl⟩
theorem ranges64 (op : Int) (R : List (Int × Int)) (ad : Option Addr) (n cap : Nat) (w : World) (hn : n = R.length) (hS : n * 16 ≤ 140737488351232) (hl : RowAt w.heap.size w (.slice ad n cap) R) :
    Calls Tryd.prog 78 #[.int .i64 op, .slice ad n cap] w fun e w' => e = .returned (.bool (isRangesB op R)) ∧ Below w.heap.size w w' := by
  have HC := right25 R ad n cap w hn (by omega) hl
  have HN := hid' hn
  clear hn hl
  by_cases h1 : op = 1
  · subst h1
    by_cases h0 : n = 0
    · subst h0
      go_enter Tryd.func78, Tryd.ntmps78
      go_wp2
      all_goals go_ret
      all_goals exact ⟨ret_bool (by simp [isRangesB, ← HN.out]), Below.refl _ _⟩
    · have b1 : decide ((n : Int) > 0) = true := by simp; omega
      have b2 : decide ((0 : Int) < (n : Int)) = true := by simp; omega
      go_enter Tryd.func78, Tryd.ntmps78
      go_wp2_with (first | (go_at_call 81; (with_reducible refine HC.mono ?_); rintro e w2 ⟨rfl, hb⟩; have HB := hid' hb; clear hb HC))
      all_goals go_ret
      all_goals exact ⟨ret_bool (by simp [isRangesB, ← HN.out]; intro h; omega), HB.out⟩
  · have b0 : (op != 1) = true := by simpa using h1
    go_enter Tryd.func78, Tryd.ntmps78
    go_wp2
    all_goals go_ret
    all_goals exact ⟨ret_bool (by simp only [isRangesB, ← HN.out]; rw [if_neg (by simpa using h1), Bool.eq_iff_iff]; simp), Below.refl _ _⟩
end Go.Proofs.YteanndophopplaaDoor
