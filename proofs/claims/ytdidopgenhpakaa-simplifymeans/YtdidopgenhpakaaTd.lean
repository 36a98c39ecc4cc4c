/- HELPERS: which nodes may be, by the document's answer. -/
import Derived.Test.YtdidopgenhpakaaTc
import Derived.Test.YtdidopgenhpakaaRi
namespace Go.Proofs.Ytdidopgenhpakaa
open Go.RowKit
set_option linter.unusedVariables false
set_option linter.unusedSimpArgs false
/-- all is nought but what is named -/
def bareB (nr : Nat) (a : Int) (ns : Nat) (mn mx : Int) (lz : Bool) (ix : Int) (nm : ByteArray) (f1 f2 f3 f4 f5 : Bool) : Bool :=
  (f1 || nr == 0) && (f2 || a == 0) && (f3 || ns == 0) && (f4 || mn == 0 && mx == 0 && !lz) && (f5 || ix == 0 && nm.toList.isEmpty)
set_option maxRecDepth 100000 in
set_option maxHeartbeats 4000000 in
theorem bareE (N : Nv) (w : World) : Calls Try.prog 76 #[N.v, .bool false, .bool false, .bool false, .bool false, .bool false] w fun e w' => e = .returned (.bool (bareB N.r2 N.a2 N.s2 N.a4 N.a5 N.a6 N.a7 N.a8 false false false false false)) ∧ Below w.heap.size w w' := by
  obtain ⟨k, r1, r2, r3, a2, s1, s2, s3, a4, a5, a6, a7, a8⟩ := N
  go_enter Try.func76, Try.ntmps76
  go_wp2
  all_goals go_ret
  all_goals exact ⟨ret_bool (by simp_all [bareB]), Joins.below_alloc1 w _⟩
set_option maxRecDepth 100000 in
set_option maxHeartbeats 4000000 in
theorem bareC (N : Nv) (w : World) : Calls Try.prog 76 #[N.v, .bool true, .bool false, .bool false, .bool false, .bool false] w fun e w' => e = .returned (.bool (bareB N.r2 N.a2 N.s2 N.a4 N.a5 N.a6 N.a7 N.a8 true false false false false)) ∧ Below w.heap.size w w' := by
  obtain ⟨k, r1, r2, r3, a2, s1, s2, s3, a4, a5, a6, a7, a8⟩ := N
  go_enter Try.func76, Try.ntmps76
  go_wp2
  all_goals go_ret
  all_goals exact ⟨ret_bool (by simp_all [bareB]), Joins.below_alloc1 w _⟩
set_option maxRecDepth 100000 in
set_option maxHeartbeats 4000000 in
theorem bareA (N : Nv) (w : World) : Calls Try.prog 76 #[N.v, .bool false, .bool true, .bool false, .bool false, .bool false] w fun e w' => e = .returned (.bool (bareB N.r2 N.a2 N.s2 N.a4 N.a5 N.a6 N.a7 N.a8 false true false false false)) ∧ Below w.heap.size w w' := by
  obtain ⟨k, r1, r2, r3, a2, s1, s2, s3, a4, a5, a6, a7, a8⟩ := N
  go_enter Try.func76, Try.ntmps76
  go_wp2
  all_goals go_ret
  all_goals exact ⟨ret_bool (by simp_all [bareB]), Joins.below_alloc1 w _⟩
set_option maxRecDepth 100000 in
set_option maxHeartbeats 4000000 in
theorem bareS (N : Nv) (w : World) : Calls Try.prog 76 #[N.v, .bool false, .bool false, .bool true, .bool false, .bool false] w fun e w' => e = .returned (.bool (bareB N.r2 N.a2 N.s2 N.a4 N.a5 N.a6 N.a7 N.a8 false false true false false)) ∧ Below w.heap.size w w' := by
  obtain ⟨k, r1, r2, r3, a2, s1, s2, s3, a4, a5, a6, a7, a8⟩ := N
  go_enter Try.func76, Try.ntmps76
  go_wp2
  all_goals go_ret
  all_goals exact ⟨ret_bool (by simp_all [bareB]), Joins.below_alloc1 w _⟩
set_option maxRecDepth 100000 in
set_option maxHeartbeats 4000000 in
theorem bareR (N : Nv) (w : World) : Calls Try.prog 76 #[N.v, .bool false, .bool false, .bool true, .bool true, .bool false] w fun e w' => e = .returned (.bool (bareB N.r2 N.a2 N.s2 N.a4 N.a5 N.a6 N.a7 N.a8 false false true true false)) ∧ Below w.heap.size w w' := by
  obtain ⟨k, r1, r2, r3, a2, s1, s2, s3, a4, a5, a6, a7, a8⟩ := N
  go_enter Try.func76, Try.ntmps76
  go_wp2
  all_goals go_ret
  all_goals exact ⟨ret_bool (by simp_all [bareB]), Joins.below_alloc1 w _⟩
set_option maxRecDepth 100000 in
set_option maxHeartbeats 4000000 in
theorem bareG (N : Nv) (w : World) : Calls Try.prog 76 #[N.v, .bool false, .bool false, .bool true, .bool false, .bool true] w fun e w' => e = .returned (.bool (bareB N.r2 N.a2 N.s2 N.a4 N.a5 N.a6 N.a7 N.a8 false false true false true)) ∧ Below w.heap.size w w' := by
  obtain ⟨k, r1, r2, r3, a2, s1, s2, s3, a4, a5, a6, a7, a8⟩ := N
  go_enter Try.func76, Try.ntmps76
  go_wp2
  all_goals go_ret
  all_goals exact ⟨ret_bool (by simp_all [bareB]), Joins.below_alloc1 w _⟩
def assertB (n : Int) : Bool := n == 1 || n == 2 || n == 4 || n == 8 || n == 16 || n == 32
theorem assertion74 (n : Int) (w : World) : Calls Try.prog 78 #[.int .i64 n] w fun e w' => e = .returned (.bool (assertB n)) ∧ w' = w := by
  go_enter Try.func78, Try.ntmps78
  go_wp2
  all_goals go_ret
  all_goals exact ⟨ret_bool (by simp_all [assertB]), rfl⟩
end Go.Proofs.Ytdidopgenhpakaa
