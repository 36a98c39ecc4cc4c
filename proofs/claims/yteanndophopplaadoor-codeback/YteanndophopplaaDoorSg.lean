/- HELPERS: the document's decimal. -/
import Derived.Test.YteanndophopplaaDoorSf
namespace Go.Proofs.YteanndophopplaaDoor
open Go.RowKit
set_option linter.unusedVariables false
set_option linter.unusedSimpArgs false
/-- a number's digits -/
def dec (n : Nat) : List Nat := if h : 10 ≤ n then dec (n / 10) ++ [48 + n % 10] else [48 + n % 10]
termination_by n
decreasing_by omega
theorem dec_big {n : Nat} (h : 10 ≤ n) : dec n = dec (n / 10) ++ [48 + n % 10] := by rw [dec, dif_pos h]
theorem dec_small {n : Nat} (h : ¬ 10 ≤ n) : dec n = [48 + n % 10] := by rw [dec, dif_neg h]
theorem dec_len : ∀ (n : Nat), (dec n).length ≤ n + 1 := by
  intro n
  induction n using Nat.strongRecOn with
  | _ n ih =>
    by_cases h : 10 ≤ n
    · rw [dec_big h, List.length_append]; have := ih (n / 10) (by omega); simp; omega
    · rw [dec_small h]; simp
theorem dec_lt : ∀ (n : Nat), ∀ x ∈ dec n, 48 ≤ x ∧ x < 58 := by
  intro n
  induction n using Nat.strongRecOn with
  | _ n ih =>
    by_cases h : 10 ≤ n
    · rw [dec_big h]; intro x hx; rcases List.mem_append.1 hx with hx | hx
      · exact ih (n / 10) (by omega) x hx
      · simp at hx; omega
    · rw [dec_small h]; intro x hx; simp at hx; omega
set_option maxRecDepth 100000 in
set_option maxHeartbeats 4000000 in
theorem dec40 {base : Nat} {xs : List Nat} : ∀ (k : Nat) {w : World} {v : Value}, w.ownsRow base 5 1 v xs.length (U8 xs) → base ≤ w.heap.size → xs.length + k + 1 ≤ 1099511627776 →
    Calls Tryd.prog 40 #[v, .int .i64 (k : Int)] w fun e w' => ∃ v', e = .returned v' ∧ w'.ownsRow base 5 1 v' (xs ++ dec k).length (U8 (xs ++ dec k)) ∧ GB w w' v v' := by
  intro k
  induction k using Nat.strongRecOn with
  | _ k ih =>
    intro w v ho hb hS
    by_cases h10 : 10 ≤ k
    · have HC : Hid (Calls Tryd.prog 40 #[v, .int .i64 ((k : Int) / 10)] w fun e w' => ∃ v', e = .returned v' ∧ w'.ownsRow base 5 1 v' (xs ++ dec (k / 10)).length (U8 (xs ++ dec (k / 10))) ∧ GB w w' v v') := ih (k / 10) (by omega) ho hb (by omega)
      have hln : (xs ++ dec (k / 10)).length + 1 ≤ 1099511627776 := by have := dec_len (k / 10); rw [List.length_append]; omega
      generalize hys : xs ++ dec (k / 10) = ys at HC hln
      have HY := hid hys
      clear hys
      have b1 : decide ((k : Int) ≥ 10) = true := by simp; omega
      have b2 : (10 : Int) ≤ (k : Int) := by omega
      have HX := hid (dec_big h10)
      clear ih ho
      go_enter Tryd.func40, Tryd.ntmps40
      go_wp2_with (first | (go_at_call 40; (with_reducible refine HC.out.mono ?_); rintro e w1 ⟨v1, rfl, ho1, hg1⟩; have HO1 := hid ho1; have HG1 := hid hg1; have hb1 : base ≤ w1.heap.size := Nat.le_trans hb hg1.size; clear ho1 hg1) | (at_builtin; refine wpList_append_one rfl (.tmp 11) (.tmp 16) 36 rfl base 5 (.int .u8 0) 1 Tryd.underlying36 info5 rfl _ (.int .u8 (48 + (k : Int) % 10)) ys.length 1 (U8 ys) rfl HO1.out _ rfl rfl rfl (by unfold maxLen; omega) (by omega) hb1 ?_))
      intro v' w2 ho2 hm2
      have HG2 : Hid (GB w w2 v v') := HG1.out.trans (GB.of_moved hm2.out)
      have HO2 : Hid (w2.ownsRow base 5 1 v' (xs ++ dec k).length (U8 (xs ++ dec k))) := by
        rw [HX.out, ← List.append_assoc, HY.out, List.length_append, U8_snoc]; push_cast; exact ho2.out
      clear ho2 hm2
      go_wp2
      all_goals go_ret
      all_goals exact ⟨v', rfl, HO2.out, HG2.out⟩
    · have b1 : decide ((k : Int) ≥ 10) = false := by simp; omega
      have b2 : ¬ ((10 : Int) ≤ (k : Int)) := by omega
      have HX := hid (dec_small h10)
      have HO := hid ho
      clear ih ho
      go_enter Tryd.func40, Tryd.ntmps40
      go_wp2_with (at_builtin; refine wpList_append_one rfl (.tmp 11) (.tmp 16) 36 rfl base 5 (.int .u8 0) 1 Tryd.underlying36 info5 rfl _ (.int .u8 (48 + (k : Int) % 10)) xs.length 1 (U8 xs) rfl HO.out _ rfl rfl rfl (by unfold maxLen; omega) (by omega) hb ?_)
      intro v' w2 ho2 hm2
      have HG2 : Hid (GB w w2 v v') := GB.of_moved hm2.out
      have HO2 : Hid (w2.ownsRow base 5 1 v' (xs ++ dec k).length (U8 (xs ++ dec k))) := by
        rw [HX.out, List.length_append, U8_snoc]; push_cast; exact ho2.out
      clear ho2 hm2
      go_wp2
      all_goals go_ret
      all_goals exact ⟨v', rfl, HO2.out, HG2.out⟩
end Go.Proofs.YteanndophopplaaDoor
