/- HELPERS: for awake: the small calls on a node without Subs. -/
import Derived.Test.YtnecakampgdhcaaTk
import Derived.Test.YtnecakampgdhcaaLb
namespace Go.Proofs.Ytnecakampgdhcaa
open Go.RowKit
set_option linter.unusedVariables false
set_option linter.unusedSimpArgs false
/-- the node of a class -/
abbrev CN (r1 : Option Addr) (r2 r3 : Nat) : Nv := ⟨2, r1, r2, r3, 0, none, 0, 0, 0, 0, false, 0, ⟨#[]⟩⟩
set_option maxRecDepth 100000 in
set_option maxHeartbeats 4000000 in
theorem length45c (r1 : Option Addr) (r2 r3 : Nat) (w : World) : Calls Try.prog 45 #[(CN r1 r2 r3).v] w fun e w' => e = .returned (.int .i64 1) ∧ Below w.heap.size w w' := by
  have hb0 := Joins.below_alloc1 w (.cells (Array.mk (CN r1 r2 r3).cs) 39)
  have HB := hid hb0
  clear hb0
  go_enter Try.func45, Try.ntmps45
  go_wp2_with fail
  go_loopw [9] (fun y wq => y = .int .i64 0 ∧ wq = w.alloc (.cells (Array.mk (CN r1 r2 r3).cs) 39)) (fun _ _ => 0)
  case atStart => exact ⟨rfl, rfl⟩
  case round =>
    obtain ⟨rfl, rfl⟩ := hrel
    go_wp2
    all_goals go_ret
    all_goals exact ⟨rfl, HB.out⟩
set_option maxRecDepth 100000 in
set_option maxHeartbeats 4000000 in
theorem whole29c (r1 : Option Addr) (r2 r3 : Nat) (w : World) : Calls Try.prog 29 #[(CN r1 r2 r3).v] w fun e w' => e = .returned (.int .i64 4) ∧ Below w.heap.size w w' := by
  have hb0 := Joins.below_alloc1 w (.cells (Array.mk (CN r1 r2 r3).cs) 39)
  have HC := length45c r1 r2 r3 (w.alloc (.cells (Array.mk (CN r1 r2 r3).cs) 39))
  have HB := hid hb0
  clear hb0
  go_enter Try.func29, Try.ntmps29
  go_wp2_with (first | (go_at_call 45; (with_reducible refine HC.mono ?_); rintro e w2 ⟨rfl, hb2⟩; have HB2 := hid hb2; clear hb2 HC))
  all_goals go_ret
  all_goals exact ⟨rfl, HB.out.trans (Joins.below_le HB2.out HB.out.size)⟩
set_option maxRecDepth 100000 in
set_option maxHeartbeats 4000000 in
theorem great33c (r1 : Option Addr) (r2 r3 : Nat) (w : World) : Calls Try.prog 33 #[(CN r1 r2 r3).v] w fun e w' => e = .returned (.int .i64 0) ∧ Below w.heap.size w w' := by
  have hb0 := Joins.below_alloc1 w (.cells (Array.mk (CN r1 r2 r3).cs) 39)
  have HB := hid hb0
  clear hb0
  go_enter Try.func33, Try.ntmps33
  go_wp2_with fail
  go_loopw [3, 11] (fun u y wq => u = .int .i64 0 ∧ y = .int .i64 0 ∧ wq = w.alloc (.cells (Array.mk (CN r1 r2 r3).cs) 39)) (fun _ _ _ => 0)
  case atStart => exact ⟨rfl, rfl, rfl⟩
  case round =>
    obtain ⟨rfl, rfl, rfl⟩ := hrel
    go_wp2
    all_goals go_ret
    all_goals exact ⟨rfl, HB.out⟩
/-- the form of a class -/
abbrev Fc (r1 : Option Addr) (r2 r3 : Nat) : Array Value := #[.int .i64 2, .slice r1 r2 r3, .int .i64 0, .slice none 0 0, .int .i64 0, .int .i64 0, .bool false, .int .i64 0, .string ⟨#[]⟩, .func (.func 93) #[] #[], .int .i64 1, .int .i64 1]
set_option maxRecDepth 100000 in
set_option maxHeartbeats 4000000 in
theorem leaf73c (r1 : Option Addr) (r2 r3 : Nat) (w : World) : Calls Try.prog 73 #[(CN r1 r2 r3).v] w fun e w' => ∃ f, e = .returned (pt f) ∧ w'.heap[f]? = some (.cells (Fc r1 r2 r3) 86 (0, 0)) ∧ w.heap.size ≤ f ∧ Below w.heap.size w w' := by
  go_enter Try.func73, Try.ntmps73
  go_wp2
  all_goals go_ret
  all_goals exact ⟨w.heap.size + 1, rfl, two_new w _ _ _, by omega, below_two' w _ _⟩
set_option maxRecDepth 100000 in
set_option maxHeartbeats 4000000 in
theorem form46c (r1 : Option Addr) (r2 r3 : Nat) (w : World) : Calls Try.prog 46 #[(CN r1 r2 r3).v] w fun e w' => ∃ f, e = .returned (pt f) ∧ w'.heap[f]? = some (.cells (Fc r1 r2 r3) 86 (0, 0)) ∧ w.heap.size ≤ f ∧ Below w.heap.size w w' := by
  have hb0 := Joins.below_alloc1 w (.cells (Array.mk (CN r1 r2 r3).cs) 39)
  have HC := leaf73c r1 r2 r3 (w.alloc (.cells (Array.mk (CN r1 r2 r3).cs) 39))
  have HB := hid hb0
  clear hb0
  go_enter Try.func46, Try.ntmps46
  go_wp2_with (first | (go_at_call 73; (with_reducible refine HC.mono ?_); rintro e w2 ⟨f, rfl, hf, hl, hb2⟩; have HB2 := hid hb2; have HF := hid hf; have HLF := hid hl; clear hb2 HC hf hl))
  all_goals go_ret
  all_goals exact ⟨f, rfl, HF.out, by have := HLF.out; have := HB.out.size; omega, HB.out.trans (Joins.below_le HB2.out HB.out.size)⟩
theorem next65c (m ad : Nat) (z1 : Option Addr) (n c : Nat) (w : World) (h : w.cell? ⟨m, 0, none⟩ = some (.slice z1 n c)) : Calls Try.prog 65 #[pt m] w fun e w' => e = .returned (.int .i64 (n : Int)) ∧ w' = w := by
  go_enter Try.func65, Try.ntmps65
  go_wp2
  all_goals go_ret
  all_goals exact ⟨rfl, rfl⟩
end Go.Proofs.Ytnecakampgdhcaa
