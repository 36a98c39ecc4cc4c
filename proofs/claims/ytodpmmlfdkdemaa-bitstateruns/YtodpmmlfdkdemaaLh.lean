/- HELPERS: the document's Holds. -/
import Derived.Test.YtodpmmlfdkdemaaLa
import Derived.Test.YtodpmmlfdkdemaaHoM
namespace Go.Proofs.Ytodpmmlfdkdemaa
open Go.RowKit Go.Lk
set_option linter.unusedVariables false
set_option linter.unusedSimpArgs false
theorem and_one (x : Int) : bits .and .i64 x 1 = x % 2 := by
  have h := bit_and x 1 (by omega)
  have hA : ∀ m : Fin 64, m.val &&& 1 = m.val % 2 := by decide +kernel
  have h2 := hA ⟨(x % 64).toNat, by omega⟩
  simp only at h2
  rw [show ((1 : Nat) : Int) = 1 from rfl, h2] at h
  rw [h]; omega
theorem sh_bit (x : Int) (k : Nat) (hk : k < 64) : (bits .and .i64 (x / 2 ^ k) 1 == 1) = bitI x k ∧ (bits .and .i64 (x / 2 ^ k) 1 == 0) = !bitI x k := by
  rw [and_one]
  unfold bitI
  have e : ((2 ^ k : Nat) : Int) = (2 : Int) ^ k := by simp
  rw [e]
  generalize x / 2 ^ k = z
  constructor
  · rw [Bool.eq_iff_iff]; simp
  · rw [Bool.eq_iff_iff]; simp; omega
set_option maxHeartbeats 1000000 in
theorem holds57 (x y : Int) (w : World) : Calls Try.prog 42 #[.int .i64 x, .int .i64 y] w fun e w' => e = .returned (.bool (holdsB x y)) ∧ w' = w := by
  have HR : Hid (holdsB x y = true ↔ ∀ j, j < 64 → bitI x j = true → bitI y j = true) := by
    show _ ↔ _
    unfold holdsB
    rw [beq_iff_eq, holds_iff]
  generalize holdsB x y = R at HR ⊢
  go_enter Try.func42, Try.ntmps42
  go_wp2
  go_loopw [5] (fun i wr => ∃ (k : Nat), k ≤ 64 ∧ i = .int .i64 k ∧ wr = w ∧ Hid (∀ j, j < k → bitI x j = true → bitI y j = true)) (fun i _ => 64 - (intOf i).toNat)
  case atStart => exact ⟨0, by omega, rfl, rfl, fun j hj => absurd hj (by omega)⟩
  case round =>
    obtain ⟨k, hk, rfl, rfl, HB⟩ := hrel
    by_cases hlt : k < 64
    · obtain ⟨e1, e2⟩ := sh_bit x k hlt
      obtain ⟨e3, e4⟩ := sh_bit y k hlt
      have hmin : min k 64 = k := by omega
      cases hx : bitI x k
      · have HS : Hid (∀ j, j < k + 1 → bitI x j = true → bitI y j = true) := by
          intro j hj hb
          by_cases hjk : j = k
          · subst hjk; rw [hx] at hb; cases hb
          · exact HB.out j (by omega) hb
        rw [hx] at e1 e2
        clear hx HB
        go_wp2
        go_roundw
        case rel => exact ⟨k + 1, by omega, by go_num, trivial, HS⟩
        case measure => simp [intOf]; omega
      · cases hy : bitI y k
        · have hR : R = false := by
            cases R
            · rfl
            · have h2 := HR.out.1 rfl k hlt hx
              rw [hy] at h2; cases h2
          subst hR
          rw [hx] at e1 e2
          rw [hy] at e3 e4
          clear hx hy HB HR
          go_wp2
          go_ret
          exact ⟨rfl, rfl⟩
        · have HS : Hid (∀ j, j < k + 1 → bitI x j = true → bitI y j = true) := by
            intro j hj hb
            by_cases hjk : j = k
            · subst hjk; exact hy
            · exact HB.out j (by omega) hb
          rw [hx] at e1 e2
          rw [hy] at e3 e4
          clear hx hy HB
          go_wp2
          go_roundw
          case rel => exact ⟨k + 1, by omega, by go_num, trivial, HS⟩
          case measure => simp [intOf]; omega
    · obtain rfl : k = 64 := by omega
      have hR : R = true := HR.out.2 (fun j hj => HB.out j hj)
      subst hR
      go_wp2
      go_ret
      exact ⟨rfl, rfl⟩
end Go.Proofs.Ytodpmmlfdkdemaa
