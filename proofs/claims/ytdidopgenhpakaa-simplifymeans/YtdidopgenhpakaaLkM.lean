/- HELPERS: plain mathematics of bits: and, or, and not with small numbers; Flip; Holds. -/
import Derived.WalkKit
import Derived.Laws.BitsLemmas
namespace Go.Lk
open Go.RowKit
set_option linter.unusedVariables false
set_option linter.unusedSimpArgs false
def inR (x : Int) : Prop := -9223372036854775808 ≤ x ∧ x ≤ 9223372036854775807
theorem wrap_i64 (n : Int) : IntKind.i64.wrap n = if 9223372036854775808 ≤ n % 18446744073709551616 then n % 18446744073709551616 - 18446744073709551616 else n % 18446744073709551616 := by
  simp [IntKind.wrap, IntKind.bits, IntKind.signed]
theorem toNat_i64 (x : Int) : (BitVec.ofInt 64 x).toNat = (x % 18446744073709551616).toNat := by
  simp [BitVec.toNat_ofInt]
theorem ofc (c : Nat) (hc : c < 64) : (BitVec.ofInt 64 (c : Int)).toNat = c := by rw [toNat_i64]; omega
theorem low_and (n c : Nat) (hc : c < 64) : n &&& c = (n % 64) &&& c := by
  have h : 63 &&& c = c := by
    have : ∀ c : Fin 64, 63 &&& c.val = c.val := by decide
    exact this ⟨c, hc⟩
  have h2 : n &&& 63 = n % 64 := Nat.and_two_pow_sub_one_eq_mod n 6
  rw [← h2, Nat.and_assoc, h]
theorem bits_def (op : BinOp) (x y : Int) : bits op .i64 x y = IntKind.i64.wrap ((match op with
    | .and => BitVec.ofInt 64 x &&& BitVec.ofInt 64 y
    | .or => BitVec.ofInt 64 x ||| BitVec.ofInt 64 y
    | .xor => BitVec.ofInt 64 x ^^^ BitVec.ofInt 64 y
    | _ => BitVec.ofInt 64 x &&& ~~~BitVec.ofInt 64 y).toNat : Nat) := rfl
theorem and_le_c (n c : Nat) : n &&& c ≤ c := Nat.and_le_right
theorem split_and (X C : BitVec 64) : (X &&& ~~~C) + (X &&& C) = X := by
  rw [BitVec.add_eq_or_of_and_eq_zero]
  · ext i; simp; cases X[i] <;> cases C[i] <;> rfl
  · ext i; simp; cases X[i] <;> cases C[i] <;> simp
theorem split_or (X C : BitVec 64) : (X &&& ~~~C) + C = X ||| C := by
  rw [BitVec.add_eq_or_of_and_eq_zero]
  · ext i; simp; cases X[i] <;> cases C[i] <;> rfl
  · ext i; simp
theorem andNot_nat (X C : BitVec 64) : (X &&& ~~~C).toNat + (X &&& C).toNat = X.toNat := by
  have h := congrArg BitVec.toNat (split_and X C)
  rw [BitVec.toNat_add] at h
  have h1 : (X &&& ~~~C).toNat ≤ X.toNat := by rw [BitVec.toNat_and]; exact Nat.and_le_left
  have h2 : (X &&& C).toNat ≤ X.toNat := by rw [BitVec.toNat_and]; exact Nat.and_le_left
  have h3 := X.isLt
  omega
theorem bit_and (x : Int) (c : Nat) (hc : c < 64) : bits .and .i64 x c = (((x % 64).toNat &&& c : Nat) : Int) := by
  rw [bits_def]
  simp only
  rw [BitVec.toNat_and, ofc c hc, toNat_i64, low_and _ c hc]
  have h1 : (x % 18446744073709551616).toNat % 64 = (x % 64).toNat := by omega
  rw [h1, wrap_i64]
  have := and_le_c (x % 64).toNat c
  omega
theorem bit_andNot (x : Int) (c : Nat) (hc : c < 64) (hx : inR x) : bits .andNot .i64 x c = x - (((x % 64).toNat &&& c : Nat) : Int) := by
  obtain ⟨h0, h1⟩ := hx
  rw [bits_def]
  simp only
  have h := andNot_nat (BitVec.ofInt 64 x) (BitVec.ofInt 64 (c : Int))
  rw [BitVec.toNat_and (BitVec.ofInt 64 x) (BitVec.ofInt 64 (c : Int)), ofc c hc, toNat_i64, low_and _ c hc] at h
  have h2 : (x % 18446744073709551616).toNat % 64 = (x % 64).toNat := by omega
  rw [h2] at h
  have h3 := and_le_c (x % 64).toNat c
  have h4 : (x % 64).toNat &&& c ≤ (x % 64).toNat := Nat.and_le_left
  generalize (BitVec.ofInt 64 x &&& ~~~BitVec.ofInt 64 (c : Int)).toNat = A at h ⊢
  generalize (x % 64).toNat &&& c = B at h h3 h4 ⊢
  rw [wrap_i64]
  omega
theorem not_bit (x : Int) (c : Nat) (hc : c < 64) : bits .andNot .i64 c x = ((c - ((x % 64).toNat &&& c) : Nat) : Int) := by
  rw [bits_def]
  simp only
  have h := andNot_nat (BitVec.ofInt 64 (c : Int)) (BitVec.ofInt 64 x)
  rw [BitVec.toNat_and (BitVec.ofInt 64 (c : Int)) (BitVec.ofInt 64 x), ofc c hc, toNat_i64, Nat.and_comm, low_and _ c hc] at h
  have h2 : (x % 18446744073709551616).toNat % 64 = (x % 64).toNat := by omega
  rw [h2] at h
  generalize (BitVec.ofInt 64 (c : Int) &&& ~~~BitVec.ofInt 64 x).toNat = A at h ⊢
  generalize (x % 64).toNat &&& c = B at h ⊢
  rw [wrap_i64]
  omega
theorem bit_or (x : Int) (c : Nat) (hc : c < 64) (hx : inR x) : bits .or .i64 x c = x + ((c - ((x % 64).toNat &&& c) : Nat) : Int) := by
  obtain ⟨h0, h1⟩ := hx
  rw [bits_def]
  simp only
  have h := andNot_nat (BitVec.ofInt 64 x) (BitVec.ofInt 64 (c : Int))
  have h' := congrArg BitVec.toNat (split_or (BitVec.ofInt 64 x) (BitVec.ofInt 64 (c : Int)))
  rw [BitVec.toNat_add, ofc c hc] at h'
  rw [BitVec.toNat_and (BitVec.ofInt 64 x) (BitVec.ofInt 64 (c : Int)), ofc c hc, toNat_i64, low_and _ c hc] at h
  have h2 : (x % 18446744073709551616).toNat % 64 = (x % 64).toNat := by omega
  rw [h2] at h
  have h3 := and_le_c (x % 64).toNat c
  have h4 : (x % 64).toNat &&& c ≤ (x % 64).toNat := Nat.and_le_left
  have h5 : (x % 64).toNat + (c - ((x % 64).toNat &&& c)) < 64 := by
    have : ∀ m c : Fin 64, m.val + (c.val - (m.val &&& c.val)) < 64 := by decide +kernel
    exact this ⟨(x % 64).toNat, by omega⟩ ⟨c, hc⟩
  generalize (BitVec.ofInt 64 x &&& ~~~BitVec.ofInt 64 (c : Int)).toNat = A at h h' ⊢
  generalize (BitVec.ofInt 64 x ||| BitVec.ofInt 64 (c : Int)).toNat = D at h' ⊢
  generalize (x % 64).toNat &&& c = B at h h3 h4 h5 ⊢
  rw [wrap_i64]
  omega
/-- Flip, row by row: the low k bits away; then the bits that the first k rows put back -/
def clr (k : Nat) (x : Int) : Int := x - x % (2 ^ k : Nat)
def back : Nat → Nat
  | 0 => 2
  | 1 => 1
  | 2 => 8
  | 3 => 4
  | 4 => 16
  | _ => 32
def bk : Nat → Nat → Nat
  | 0, _ => 0
  | k + 1, m => if m.testBit k then bk k m ||| back k else bk k m
def put (k : Nat) (x : Int) : Int := x - x % 64 + (bk k (x % 64).toNat : Nat)
def flipI (x : Int) : Int := put 6 x
theorem clr_step (k : Nat) (hk : k < 6) (x : Int) (hx : inR x) : bits .andNot .i64 (clr k x) ((2 ^ k : Nat) : Int) = clr (k + 1) x := by
  obtain ⟨h0, h1⟩ := hx
  have hc : 2 ^ k < 64 := by
    have : ∀ k : Fin 6, 2 ^ k.val < 64 := by decide
    exact this ⟨k, hk⟩
  have hk6 : k = 0 ∨ k = 1 ∨ k = 2 ∨ k = 3 ∨ k = 4 ∨ k = 5 := by omega
  have hr : inR (clr k x) := by
    unfold inR clr
    rcases hk6 with rfl | rfl | rfl | rfl | rfl | rfl <;> simp only [Nat.reducePow] <;> omega
  rw [bit_andNot _ _ hc hr]
  have hA : ∀ m : Fin 64, ∀ k : Fin 6, ((m.val - m.val % 2 ^ k.val) &&& 2 ^ k.val) + m.val % 2 ^ k.val = m.val % 2 ^ (k.val + 1) := by decide +kernel
  have h := hA ⟨(x % 64).toNat, by omega⟩ ⟨k, hk⟩
  simp only at h
  have e1 : (clr k x % 64).toNat = (x % 64).toNat - (x % 64).toNat % 2 ^ k := by
    unfold clr
    rcases hk6 with rfl | rfl | rfl | rfl | rfl | rfl <;> simp only [Nat.reducePow] <;> omega
  rw [e1]
  generalize ((x % 64).toNat - (x % 64).toNat % 2 ^ k) &&& 2 ^ k = B at h ⊢
  unfold clr
  rcases hk6 with rfl | rfl | rfl | rfl | rfl | rfl <;> simp only [Nat.reducePow, Nat.reduceAdd] at h ⊢ <;> omega
theorem clr_zero (x : Int) : clr 0 x = x := by unfold clr; simp only [Nat.reducePow]; omega
theorem put_zero (x : Int) : put 0 x = clr 6 x := by unfold put clr bk; simp only [Nat.reducePow]; omega
theorem bk_lt (k : Nat) (hk : k < 7) (m : Nat) (hm : m < 64) : bk k m < 64 := by
  have h : ∀ k : Fin 7, ∀ m : Fin 64, bk k.val m.val < 64 := by decide +kernel
  exact h ⟨k, hk⟩ ⟨m, hm⟩
/-- does the k-th of the six bits hold -/
def has6 (k : Nat) (x : Int) : Bool := (x % 64).toNat.testBit k
theorem has_step (k : Nat) (hk : k < 6) (x : Int) : (bits .andNot .i64 ((2 ^ k : Nat) : Int) x == 0) = has6 k x := by
  have hc : 2 ^ k < 64 := by
    have : ∀ k : Fin 6, 2 ^ k.val < 64 := by decide
    exact this ⟨k, hk⟩
  rw [not_bit _ _ hc]
  have h : ∀ k : Fin 6, ∀ m : Fin 64, (((2 ^ k.val - (m.val &&& 2 ^ k.val) : Nat) : Int) == 0) = m.val.testBit k.val := by decide +kernel
  exact h ⟨k, hk⟩ ⟨(x % 64).toNat, by omega⟩
theorem put_skip (k : Nat) (x : Int) (h : has6 k x = false) : put (k + 1) x = put k x := by
  unfold put
  unfold has6 at h
  rw [bk, if_neg (by rw [h]; simp)]
theorem put_step (k : Nat) (hk : k < 6) (x : Int) (hx : inR x) (h : has6 k x = true) : bits .or .i64 (put k x) (back k : Nat) = put (k + 1) x := by
  obtain ⟨h0, h1⟩ := hx
  have hb : back k < 64 := by
    have : ∀ k : Fin 6, back k.val < 64 := by decide
    exact this ⟨k, hk⟩
  have hl := bk_lt k (by omega) (x % 64).toNat (by omega)
  rw [bit_or _ _ hb (by unfold inR put; omega)]
  have e1 : (put k x % 64).toNat = bk k (x % 64).toNat := by unfold put; omega
  rw [e1]
  have hA : ∀ k : Fin 6, ∀ m : Fin 64, bk k.val m.val + (back k.val - (bk k.val m.val &&& back k.val)) = bk k.val m.val ||| back k.val := by decide +kernel
  have h2 := hA ⟨k, hk⟩ ⟨(x % 64).toNat, by omega⟩
  simp only at h2
  unfold put
  unfold has6 at h
  rw [bk, if_pos h]
  omega
theorem flip_in (x : Int) (hx : inR x) : inR (flipI x) := by
  obtain ⟨h0, h1⟩ := hx
  have := bk_lt 6 (by omega) (x % 64).toNat (by omega)
  unfold flipI put inR
  omega
theorem flip_low (x : Int) : flipI x % 64 = (bk 6 (x % 64).toNat : Nat) ∧ flipI x / 64 = x / 64 := by
  have := bk_lt 6 (by omega) (x % 64).toNat (by omega)
  unfold flipI put
  omega
theorem flip_flip (x : Int) : flipI (flipI x) = x := by
  have h := flip_low x
  have hA : ∀ m : Fin 64, bk 6 (bk 6 m.val) = m.val := by decide +kernel
  have h2 := hA ⟨(x % 64).toNat, by omega⟩
  simp only at h2
  have e : (flipI x % 64).toNat = bk 6 (x % 64).toNat := by omega
  have h3 : flipI (flipI x) = flipI x - flipI x % 64 + (bk 6 (flipI x % 64).toNat : Nat) := rfl
  rw [h3, e, h2]
  omega
end Go.Lk
