/- HELPERS: plain mathematics of bits: when all bits of one number are bits of another. -/
import Derived.Test.YtodpmmlfdkdemaaLkM
namespace Go.Lk
open Go.RowKit
set_option linter.unusedVariables false
set_option linter.unusedSimpArgs false
/-- the bit j of a number, in two's form -/
def bitI (x : Int) (j : Nat) : Bool := decide ((x / (2 ^ j : Nat)) % 2 = 1)
theorem div_low (x : Int) (j i : Nat) (h : j + i = 63) : (x % 18446744073709551616) / ((2 ^ j : Nat) : Int) % 2 = x / ((2 ^ j : Nat) : Int) % 2 := by
  have hp : (18446744073709551616 : Int) = ((2 ^ j : Nat) : Int) * (2 * ((2 ^ i : Nat) : Int)) := by
    have : (2 : Nat) ^ 64 = 2 ^ j * (2 * 2 ^ i) := by rw [← Nat.pow_succ', ← Nat.pow_add]; congr 1; omega
    have h2 : (((2 : Nat) ^ 64 : Nat) : Int) = ((2 ^ j * (2 * 2 ^ i) : Nat) : Int) := by rw [this]
    rw [Int.natCast_mul, Int.natCast_mul] at h2
    exact h2
  have hpos : ((2 ^ j : Nat) : Int) ≠ 0 := by have := Nat.two_pow_pos j; omega
  have hx : x = x % 18446744073709551616 + ((2 ^ j : Nat) : Int) * (2 * ((2 ^ i : Nat) : Int) * (x / 18446744073709551616)) := by
    have h1 := Int.emod_add_mul_ediv x 18446744073709551616
    rw [← Int.mul_assoc, ← hp]
    omega
  have h2 : x / ((2 ^ j : Nat) : Int) = (x % 18446744073709551616) / ((2 ^ j : Nat) : Int) + 2 * ((2 ^ i : Nat) : Int) * (x / 18446744073709551616) := by
    conv => lhs; rw [hx]
    rw [Int.add_mul_ediv_left _ _ hpos]
  rw [h2, Int.mul_assoc]
  omega
theorem lsb_i64 (x : Int) (j : Nat) (hj : j < 64) : (BitVec.ofInt 64 x).getLsbD j = bitI x j := by
  have h1 : (BitVec.ofInt 64 x).getLsbD j = (BitVec.ofInt 64 x).toNat.testBit j := rfl
  rw [h1, toNat_i64, Nat.testBit_eq_decide_div_mod_eq]
  unfold bitI
  rw [← div_low x j (63 - j) (by omega)]
  have h0 : 0 ≤ x % 18446744073709551616 := by omega
  obtain ⟨r, hr⟩ := Int.eq_ofNat_of_zero_le h0
  rw [hr]
  simp only [Int.toNat_natCast]
  rw [← Int.natCast_ediv]
  congr 1
  simp only [eq_iff_iff]
  omega
theorem wrap_zero (n : Nat) (h : n < 18446744073709551616) : IntKind.i64.wrap (n : Int) = 0 ↔ n = 0 := by
  rw [wrap_i64]
  omega
/-- all bits of x are bits of y -/
theorem holds_iff (x y : Int) : bits .andNot .i64 x y = 0 ↔ ∀ j, j < 64 → bitI x j = true → bitI y j = true := by
  rw [bits_def]
  simp only
  rw [wrap_zero _ (BitVec.isLt _)]
  constructor
  · intro h j hj hx
    have h0 : BitVec.ofInt 64 x &&& ~~~BitVec.ofInt 64 y = 0#64 := BitVec.eq_of_toNat_eq (by rw [h]; rfl)
    have h2 := congrArg (fun v => v.getLsbD j) h0
    simp only [BitVec.getLsbD_and, BitVec.getLsbD_not, lsb_i64 x j hj, lsb_i64 y j hj, hx] at h2
    simpa [hj] using h2
  · intro h
    have h0 : BitVec.ofInt 64 x &&& ~~~BitVec.ofInt 64 y = 0#64 := by
      apply BitVec.eq_of_getLsbD_eq
      intro j hj
      have h2 := h j hj
      simp only [BitVec.getLsbD_and, BitVec.getLsbD_not, lsb_i64 x j hj, lsb_i64 y j hj]
      cases hx : bitI x j
      · simp
      · simp [h2 hx]
    rw [h0]; rfl
def holdsB (x y : Int) : Bool := bits .andNot .i64 x y == 0
theorem bit_high (x y : Int) (h : x / 64 = y / 64) (j : Nat) (hj : 6 ≤ j) : bitI x j = bitI y j := by
  obtain ⟨i, rfl⟩ : ∃ i, j = 6 + i := ⟨j - 6, by omega⟩
  unfold bitI
  have e : ((2 ^ (6 + i) : Nat) : Int) = 64 * ((2 ^ i : Nat) : Int) := by rw [Nat.pow_add]; simp
  rw [e, ← Int.ediv_ediv_of_nonneg (by omega), ← Int.ediv_ediv_of_nonneg (by omega), h]
theorem bit_low (x : Int) (j : Nat) (hj : j < 6) : bitI x j = has6 j x := by
  unfold bitI has6
  rw [Nat.testBit_eq_decide_div_mod_eq]
  congr 1
  have hk6 : j = 0 ∨ j = 1 ∨ j = 2 ∨ j = 3 ∨ j = 4 ∨ j = 5 := by omega
  simp only [eq_iff_iff]
  rcases hk6 with rfl | rfl | rfl | rfl | rfl | rfl <;> simp only [Nat.reducePow] <;> omega
def low6 (m m' : Nat) : Bool := (List.range 6).all fun j => !m.testBit j || m'.testBit j
theorem low6_iff (m m' : Nat) : low6 m m' = true ↔ ∀ j, j < 6 → m.testBit j = true → m'.testBit j = true := by
  unfold low6
  simp only [List.all_eq_true, List.mem_range, Bool.or_eq_true, Bool.not_eq_true']
  constructor
  · intro h j hj hx
    rcases h j hj with h | h
    · rw [hx] at h; cases h
    · exact h
  · intro h j hj
    cases hx : m.testBit j
    · exact .inl rfl
    · exact .inr (h j hj hx)
theorem holds_low (x y : Int) (h : x / 64 = y / 64) : holdsB x y = low6 (x % 64).toNat (y % 64).toNat := by
  unfold holdsB
  rw [Bool.eq_iff_iff, beq_iff_eq, holds_iff, low6_iff]
  constructor
  · intro h2 j hj hx
    have h3 := h2 j (by omega)
    rw [bit_low _ _ hj, bit_low _ _ hj] at h3
    exact h3 hx
  · intro h2 j hj hx
    by_cases h6 : j < 6
    · rw [bit_low _ _ h6] at hx ⊢
      exact h2 j h6 hx
    · rw [← bit_high x y h j (by omega)]; exact hx
/-- Flip, held against the number itself, either way -/
theorem holds_flip (x : Int) : holdsB (flipI x) x = holdsB x (flipI x) := by
  have hf := flip_low x
  rw [holds_low _ _ hf.2, holds_low _ _ hf.2.symm]
  have e : (flipI x % 64).toNat = bk 6 (x % 64).toNat := by omega
  rw [e]
  have hA : ∀ m : Fin 64, low6 (bk 6 m.val) m.val = low6 m.val (bk 6 m.val) := by decide +kernel
  exact hA ⟨(x % 64).toNat, by omega⟩
/-- the and of two, held against one of them -/
theorem holds_and (x y : Int) : holdsB (bits .and .i64 x y) y = true := by
  unfold holdsB
  rw [beq_iff_eq, holds_iff]
  intro j hj h
  have e : bits .and .i64 x y = (BitVec.ofInt 64 x &&& BitVec.ofInt 64 y).toInt := by
    rw [bits_def]
    simp only
    rw [wrap_i64, BitVec.toInt_eq_toNat_cond]
    have := (BitVec.ofInt 64 x &&& BitVec.ofInt 64 y).isLt
    split <;> split <;> omega
  rw [← lsb_i64 _ j hj, e, BitVec.ofInt_toInt, BitVec.getLsbD_and, lsb_i64 x j hj, lsb_i64 y j hj] at h
  simp at h
  exact h.2
end Go.Lk
