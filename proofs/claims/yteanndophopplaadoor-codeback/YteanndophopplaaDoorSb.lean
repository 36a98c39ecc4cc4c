/- HELPERS: the document's sum. -/
import Derived.Test.YteanndophopplaaDoorSa
namespace Go.Proofs.YteanndophopplaaDoor
open Go.RowKit
set_option linter.unusedVariables false
set_option linter.unusedSimpArgs false
/-- one bit falls out -/
def crcBit (c : Nat) : Nat := if c % 2 = 1 then (c / 2) ^^^ 3988292384 else c / 2
def crcBits : Nat → Nat → Nat
  | 0, c => c
  | k + 1, c => crcBit (crcBits k c)
def crcByte (c x : Nat) : Nat := crcBits 8 (c ^^^ x)
def crcRow (l : List Nat) : Nat := l.foldl crcByte 4294967295
def crcSum (l : List Nat) : Nat := crcRow l ^^^ 4294967295
theorem crcBit_lt {c : Nat} (h : c < 4294967296) : crcBit c < 4294967296 := by
  unfold crcBit
  split
  · exact Nat.xor_lt_two_pow (n := 32) (by omega) (by decide)
  · omega
theorem crcBits_lt (k : Nat) {c : Nat} (h : c < 4294967296) : crcBits k c < 4294967296 := by
  induction k with
  | zero => exact h
  | succ k ih => exact crcBit_lt ih
theorem crcByte_lt {c x : Nat} (h : c < 4294967296) (hx : x < 256) : crcByte c x < 4294967296 := crcBits_lt 8 (Nat.xor_lt_two_pow (n := 32) h (by omega))
theorem crcRow_lt (l : List Nat) (hl : ∀ x ∈ l, x < 256) : crcRow l < 4294967296 := by
  unfold crcRow
  have : ∀ (l : List Nat) (c : Nat), c < 4294967296 → (∀ x ∈ l, x < 256) → l.foldl crcByte c < 4294967296 := by
    intro l
    induction l with
    | nil => intro c h _; exact h
    | cons a l ih => intro c h hl; exact ih _ (crcByte_lt h (hl a (by simp))) (fun x hx => hl x (by simp [hx]))
  exact this l _ (by decide) hl
theorem crcRow_snoc (l : List Nat) (i : Nat) (h : i < l.length) : crcRow (l.take (i + 1)) = crcByte (crcRow (l.take i)) l[i] := by
  rw [List.take_succ_eq_append_getElem h]
  unfold crcRow
  rw [List.foldl_append]
  rfl
end Go.Proofs.YteanndophopplaaDoor
