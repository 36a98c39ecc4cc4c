/- HELPERS: the contracts of the small functions of package look: the table of rows, Holds, Word, the methods of a spot. -/
import Derived.Test.YtodpmmlfdkdemaaProg
import Derived.WalkKit
import Derived.ProofKit
import Derived.BigQuiet
import Derived.WalkSmall
import Derived.Deep.QuietTactic
import Derived.Deep.RegionWith
import Derived.Laws.EntriesVeiled
import Derived.Deep.WholeRow
namespace Go.Proofs.Ytodpmmlfdkdemaa.Look
open Go.RowKit
set_option linter.unusedVariables false
set_option linter.unusedSimpArgs false
theorem ret_bool {a b : Bool} (h : a = b) : Ending.returned (.bool a) = .returned (.bool b) := by rw [h]
theorem ret_int {a b : Int} (h : a = b) : Ending.returned (.int .i64 a) = .returned (.int .i64 b) := by rw [h]
/-- a whole array into the block that was made last -/
theorem wpList_store_new {P : Program} {ops : Array Oper} {rest : List Oper} {op : Oper} {a : Act} {w : World} {Q : Exit → Act → World → Prop} (hgd : op.guard = none) (ty : TypeId) (x y : Operand) (ho : op.op = .store ty x y)
    (c c' : Array Value) (hx : a.eval x = .pointer (some ⟨w.heap.size, 0, none⟩)) (hy : a.eval y = .agg c') (hi : (P.info? ty).map (·.size) = some c'.size) (hc : c.size = c'.size) (h1 : c'.all (·.oneCell') = true)
    (h : wpList P ops Q rest (a.put op.dst undef) (w.alloc (.cells c' ty))) : wpList P ops Q (op :: rest) a (w.alloc (.cells c ty)) :=
  wpList_plain hgd fun K hK => by
    unfold Oper.wp execOp
    simp only [ho, hx, hy, Sem.run_bind, Sem.run_pure, Result.andThen_ok, run_storeAt_new w ty c c' hi hc h1]
    exact hK _ _ h
theorem results_cell1 {fn : Func} {p : Tmp} {ty : TypeId} (h : fn.results = #[.cell p ty]) (tmps : Array Value) (P : Program) (w : World) :
    (results fn tmps).run P w = ((asAddr (tmps.getD p undef)).run P w).andThen fun a w₁ => ((loadVar ty a).run P w₁).andThen fun v w₂ => .ok v w₂ := by
  simp only [results, h]
  simp [Sem.run_bind, Result.andThen]
  cases (asAddr (tmps[p]?.getD undef)).run P w with
  | halt h w => rfl
  | ok a w => show (loadVar ty a).run P w = _; cases h : (loadVar ty a).run P w <;> simp [h]
def fv (f : Nat) : Value := .func (.func f) #[] #[]
def rowsV : Array Value := #[.int .i64 1, .int .i64 2, fv 90, .int .i64 2, .int .i64 1, fv 91, .int .i64 4, .int .i64 8, fv 92, .int .i64 8, .int .i64 4, fv 93, .int .i64 16, .int .i64 16, fv 94, .int .i64 32, .int .i64 32, fv 95]
theorem info37 : (Try.prog.info? 133).map (·.size) = some 18 := by kernel_rfl
theorem one37 : (rowsV.all (·.oneCell')) = true := by simp [rowsV, fv, Value.oneCell']
set_option maxRecDepth 100000 in
theorem rows17 (w : World) : Calls Try.prog 82 #[] w fun e w' => e = .returned (.agg rowsV) ∧ w' = w.alloc (.cells rowsV 133) := by
  go_enter Try.func82, Try.ntmps82
  go_wp2_with (refine wpList_store_new rfl 133 (.tmp 0) (.tmp 7) rfl _ rowsV rfl rfl info37 rfl one37 ?_)
  refine bodyPost_ret (v := .agg rowsV) ?_ rfl ⟨rfl, rfl⟩
  rw [results_cell1 Try.results82]
  have h := run_loadVar_new (P := Try.prog) w 133 rowsV 6 132 Try.underlying133 info37
  simp [asAddr, Result.andThen, h, Act.put]
theorem holds13 (x y : Int) (w : World) : Calls Try.prog 56 #[.int .i64 x, .int .i64 y] w fun e w' => e = .returned (.bool (bits .andNot .i64 x y == 0)) ∧ w' = w := by
  go_enter Try.func56, Try.ntmps56
  go_wp2
  go_ret
  exact ⟨rfl, rfl⟩
/-- is a number a rune of the domain -/
def dom (r : Int) : Bool := decide (0 ≤ r ∧ r < 55296 ∨ 57343 < r ∧ r ≤ 1114111)
/-- is a rune one of a word -/
def wordR (r : Int) : Bool := decide (48 ≤ r ∧ r ≤ 57 ∨ 65 ≤ r ∧ r ≤ 90 ∨ 97 ≤ r ∧ r ≤ 122 ∨ r = 95)
theorem dom28 (r : Int) (w : World) : Calls Try.prog 96 #[.int .i64 r] w fun e w' => e = .returned (.bool (dom r)) ∧ w' = w := by
  go_enter Try.func96, Try.ntmps96
  go_wp2
  all_goals go_ret
  all_goals exact ⟨ret_bool (by rw [Bool.eq_iff_iff]; simp [dom]; omega), rfl⟩
theorem word18 (r : Int) (w : World) : Calls Try.prog 69 #[.int .i64 r] w fun e w' => e = .returned (.bool (wordR r)) ∧ w' = w := by
  go_enter Try.func69, Try.ntmps69
  go_wp2
  all_goals go_ret
  all_goals exact ⟨ret_bool (by rw [Bool.eq_iff_iff]; simp [wordR]; omega), rfl⟩
theorem word27 (r : Int) (w : World) : Calls Try.prog 100 #[.int .i64 r] w fun e w' => e = .returned (.bool (wordR r)) ∧ w' = w := by
  have hd := dom28 r w
  by_cases hD : dom r = true
  · rw [hD] at hd
    have hr : 0 ≤ r ∧ r ≤ 1114111 := by simp [dom] at hD; omega
    have hw : IntKind.i32.wrap r = r := by simp [IntKind.wrap, IntKind.bits, IntKind.signed]; omega
    clear hD
    go_enter Try.func100, Try.ntmps100
    go_wp2_with (go_at_call 96; refine hd.mono ?_; rintro e w' ⟨rfl, rfl⟩)
    all_goals go_ret
    all_goals exact ⟨ret_bool (by rw [Bool.eq_iff_iff]; simp [wordR, hw]; omega), rfl⟩
  · have hD' : dom r = false := by simpa using hD
    rw [hD'] at hd
    have hr : wordR r = false := by simp [dom] at hD; simp [wordR]; omega
    rw [hr]
    go_enter Try.func100, Try.ntmps100
    go_wp2_with (go_at_call 96; refine hd.mono ?_; rintro e w' ⟨rfl, rfl⟩)
    go_ret
    exact ⟨rfl, rfl⟩
end Go.Proofs.Ytodpmmlfdkdemaa.Look
