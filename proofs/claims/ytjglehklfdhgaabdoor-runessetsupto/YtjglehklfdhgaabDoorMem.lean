/- HELPERS: the law's own small functions: domain, member, other. -/
import Derived.Test.YtjglehklfdhgaabDoorClassM
namespace Go.Proofs.YtjglehklfdhgaabDoor
open Go.Shelf Go.RowKit Go.Lib Go.Sort Go.Mx
set_option linter.unusedVariables false
set_option linter.unusedSimpArgs false
theorem dom11 (r : Int) (w : World) : Calls Tryd.prog 11 #[.int .i64 r] w fun e w' => e = .returned (.bool (dom r)) ∧ w' = w := by
  by_cases h1 : 0 ≤ r <;> by_cases h2 : r < 55296 <;> by_cases h3 : 57343 < r <;> by_cases h4 : r ≤ 1114111
  all_goals
    first
    | omega
    | (have he : dom r = decide (0 ≤ r ∧ r < 55296 ∨ 57343 < r ∧ r ≤ 1114111) := rfl
       simp only [h1, h2, h3, h4, and_true, and_false, or_true, or_false, decide_true, decide_false] at he
       rw [he]
       clear he
       go_enter Tryd.func11, Tryd.ntmps11
       go_wp2
       go_ret
       exact ⟨rfl, rfl⟩)
theorem other13 (r : Int) (w : World) : Calls Tryd.prog 13 #[.int .i64 r] w fun e w' => e = .returned (.int .i64 (otherI r)) ∧ w' = w := by
  by_cases h1 : 97 ≤ r <;> by_cases h2 : r ≤ 122 <;> by_cases h3 : 65 ≤ r <;> by_cases h4 : r ≤ 90
  all_goals
    first
    | omega
    | (have he : otherI r = if 97 ≤ r ∧ r ≤ 122 then r - 32 else if 65 ≤ r ∧ r ≤ 90 then r + 32 else r := rfl
       simp only [h1, h2, h3, h4, and_true, and_false, true_and, false_and, if_true, if_false] at he
       rw [he]
       clear he
       go_enter Tryd.func13, Tryd.ntmps13
       go_wp2
       go_ret
       exact ⟨rfl, rfl⟩)
set_option maxHeartbeats 2000000 in
set_option maxRecDepth 1000000 in
theorem member12 (L : List (Int × Int)) (ad : Option Addr) (n cap : Nat) (r : Int) (w : World) (N : Nat) (hn : Hid (n = L.length)) (hS2 : n ≤ 17592186044416) (hl : Hid (RowAt N w (.slice ad n cap) L)) :
    Calls Tryd.prog 12 #[.slice ad n cap, .int .i64 r] w fun e w' => e = .returned (.bool (hasB L r)) ∧ w' = w := by
  go_enter Tryd.func12, Tryd.ntmps12
  go_wp2
  go_loopw [5] (fun i wr => ∃ (k : Nat), k ≤ n ∧ i = .int .i64 k ∧ wr = w ∧ Hid (hasB L r = hasB (L.drop k) r))
    (fun i _ => n - (intOf i).toNat)
  case atStart => exact ⟨0, by omega, rfl, rfl, by exact rfl⟩
  case round =>
    obtain ⟨k, hk, rfl, rfl, HR⟩ := hrel
    by_cases hlt : k < n
    · obtain ⟨ad', cap', he, h | ⟨b, off, rfl, hbN, hc0, hc1⟩⟩ := hl.out
      · exact absurd h (by rw [← hn.out]; omega)
      · have hn' := hn.out
        simp only [Value.slice.injEq] at he
        obtain ⟨rfl, -, rfl⟩ := he
        have d0 := hc0 k (by omega)
        have d1 := hc1 k (by omega)
        have hdr := drop_consR L k (by omega)
        have hR := HR.out
        rw [hdr, hasB_cons] at hR
        generalize L.getD k (0, 0) = g at d0 d1 hR
        obtain ⟨lo, hi⟩ := g
        simp only at d0 d1
        have HR2 : Hid (hasB L r = (decide (lo ≤ r) && decide (r ≤ hi) || hasB (L.drop (k + 1)) r)) := hR
        clear hdr hR HR hc0 hc1 hn'
        by_cases g1 : lo ≤ r
        · by_cases g2 : r ≤ hi
          · have hE : Hid (hasB L r = true) := by show hasB L r = _; rw [HR2.out]; simp [g1, g2]
            go_wp2
            go_ret
            exact ⟨ret_bool hE.out.symm, rfl⟩
          · have hE : Hid (hasB L r = hasB (L.drop (k + 1)) r) := by show hasB L r = _; rw [HR2.out]; simp [g1, g2]
            go_wp2
            go_roundw
            case rel => exact ⟨k + 1, by omega, by go_num, by trivial, hE⟩
            case measure => simp [intOf]; omega
        · have hE : Hid (hasB L r = hasB (L.drop (k + 1)) r) := by show hasB L r = _; rw [HR2.out]; simp [g1]
          go_wp2
          go_roundw
          case rel => exact ⟨k + 1, by omega, by go_num, by trivial, hE⟩
          case measure => simp [intOf]; omega
    · obtain rfl : k = n := by omega
      have hE : Hid (hasB L r = false) := by
        show hasB L r = _
        rw [HR.out, List.drop_of_length_le (by rw [← hn.out]; exact Nat.le_refl _)]; rfl
      clear HR
      go_wp2
      go_ret
      exact ⟨ret_bool hE.out.symm, rfl⟩
end Go.Proofs.YtjglehklfdhgaabDoor
