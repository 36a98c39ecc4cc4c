/- HELPERS: a number behind bytes, seven bits a byte. -/
import Derived.Test.YteanndophopplaaDoorSa
namespace Go.Proofs.YteanndophopplaaDoor
open Go.RowKit
set_option linter.unusedVariables false
set_option linter.unusedSimpArgs false
def U8 (l : List Nat) : List Value := l.map fun x : Nat => .int .u8 (x : Int)
theorem U8_len (l : List Nat) : (U8 l).length = l.length := by simp [U8]
theorem U8_snoc (l : List Nat) (x : Nat) : U8 (l ++ [x]) = U8 l ++ [.int .u8 (x : Int)] := by simp [U8]
theorem info5 : (Tryd.prog.info? 5).map (fun i => (i.zero, i.size, i.bytes)) = some (some (.int .u8 0), 1, 1) := by kernel_rfl
/-- a number's bytes -/
def put7 (n : Nat) : List Nat := if h : 128 ≤ n then (128 + n % 128) :: put7 (n / 128) else [n]
termination_by n
decreasing_by omega
theorem put7_big {n : Nat} (h : 128 ≤ n) : put7 n = (128 + n % 128) :: put7 (n / 128) := by rw [put7, dif_pos h]
theorem put7_small {n : Nat} (h : ¬ 128 ≤ n) : put7 n = [n] := by rw [put7, dif_neg h]
theorem put7_len : ∀ (n : Nat), (put7 n).length ≤ n + 1 := by
  intro n
  induction n using Nat.strongRecOn with
  | _ n ih =>
    by_cases h : 128 ≤ n
    · rw [put7_big h, List.length_cons]; have := ih (n / 128) (by omega); omega
    · rw [put7_small h]; simp
theorem put7_lt : ∀ (n : Nat), ∀ x ∈ put7 n, x < 256 := by
  intro n
  induction n using Nat.strongRecOn with
  | _ n ih =>
    by_cases h : 128 ≤ n
    · rw [put7_big h]; intro x hx; rcases List.mem_cons.1 hx with rfl | hx
      · omega
      · exact ih (n / 128) (by omega) x hx
    · rw [put7_small h]; intro x hx; simp at hx; omega
end Go.Proofs.YteanndophopplaaDoor
