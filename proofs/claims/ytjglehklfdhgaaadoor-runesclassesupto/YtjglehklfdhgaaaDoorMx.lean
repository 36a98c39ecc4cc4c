/- HELPERS: plain mathematics of bytes and runes: what Decode and Cut answer. -/
import Derived.WalkKit
import Derived.Laws.BitsLemmas
namespace Go.Mx
open Go.RowKit
set_option linter.unusedVariables false
set_option linter.unusedSimpArgs false
/-! the plain mathematics of layer 1: bytes and runes -/
theorem i64_small (n : Int) (h0 : 0 ≤ n) (h1 : n < 2 ^ 40) : IntKind.i64.wrap n = n := IntWalk.i64_in n ⟨by omega, by omega⟩
theorem and63 (x : Int) (h0 : 0 ≤ x) (h1 : x < 256) : bits .and .i64 x 63 = x % 64 := bits_mask .i64 40 (by decide) i64_small 6 (by decide) x h0 (by omega)
theorem and127 (x : Int) (h0 : 0 ≤ x) (h1 : x < 256) : bits .and .i64 x 127 = x % 128 := bits_mask .i64 40 (by decide) i64_small 7 (by decide) x h0 (by omega)
theorem and31 (x : Int) (h0 : 0 ≤ x) (h1 : x < 256) : bits .and .i64 x 31 = x % 32 := bits_mask .i64 40 (by decide) i64_small 5 (by decide) x h0 (by omega)
theorem and15 (x : Int) (h0 : 0 ≤ x) (h1 : x < 256) : bits .and .i64 x 15 = x % 16 := bits_mask .i64 40 (by decide) i64_small 4 (by decide) x h0 (by omega)
theorem and7 (x : Int) (h0 : 0 ≤ x) (h1 : x < 256) : bits .and .i64 x 7 = x % 8 := bits_mask .i64 40 (by decide) i64_small 3 (by decide) x h0 (by omega)
theorem or6 (x y : Int) (h0 : 0 ≤ x) (h1 : x % 64 = 0) (h2 : x < 2 ^ 40) (h3 : 0 ≤ y) (h4 : y < 64) : bits .or .i64 x y = x + y := bits_join .i64 40 (by decide) i64_small 6 x y h0 h1 h2 h3 h4 (by omega)
theorem andNot63 (x : Int) (h0 : 0 ≤ x) (h1 : x < 256) : bits .andNot .i64 x 63 = x - x % 64 := by
  have h : ∀ n : Fin 256, bits .andNot .i64 (n.val : Int) 63 = (n.val : Int) - (n.val : Int) % 64 := by decide +kernel
  have := h ⟨x.toNat, by omega⟩
  simpa [Int.toNat_of_nonneg h0] using this

/-- is a number a rune of the domain -/
def dom (r : Int) : Bool := decide (0 ≤ r ∧ r < 55296 ∨ 57343 < r ∧ r ≤ 1114111)
/-- how many bytes a rune has that begins so -/
def sz (b : Int) : Int := if b < 128 then 1 else if b < 192 then 0 else if b < 224 then 2 else if b < 240 then 3 else if b < 248 then 4 else 0
def cont (b : Int) : Bool := decide (128 ≤ b ∧ b < 192)
/-- the mask, the least -/
def mk (s : Int) : Int := if s = 1 then 128 else if s = 2 then 32 else if s = 3 then 16 else 8
def ls (s : Int) : Int := if s = 1 then 0 else if s = 2 then 128 else if s = 3 then 2048 else 65536
/-- the number of bits so far -/
def acc (r : Int) : List Int → Int
  | [] => r
  | b :: t => acc (r * 64 + b % 64) t
/-- the number that the bytes behind the first one make -/
def val (a : Int) (t : List Int) : Int := acc (a % mk (sz a)) (t.take ((sz a).toNat - 1))
/-- do the first bytes make a rune -/
def okB (a : Int) (t : List Int) : Bool := decide (1 ≤ sz a) && decide (sz a ≤ (t.length : Int) + 1) && (t.take ((sz a).toNat - 1)).all cont && decide (ls (sz a) ≤ val a t) && dom (val a t)
def decAt (a : Int) (t : List Int) : Int × Int := if okB a t then (val a t, sz a) else (65533, 1)
def dec : List Int → Int × Int
  | [] => (0, 0)
  | a :: t => decAt a t
theorem sz_le (b : Int) : 0 ≤ sz b ∧ sz b ≤ 4 := by unfold sz; repeat' split <;> omega
theorem sz_one {b : Int} (h : sz b = 1) : b < 128 := by unfold sz at h; repeat' split at h <;> omega
theorem acc_snoc (r : Int) (l : List Int) (b : Int) : acc r (l ++ [b]) = acc r l * 64 + b % 64 := by
  induction l generalizing r with
  | nil => rfl
  | cons c t ih => simp only [List.cons_append, acc, ih]
theorem acc_bd (l : List Int) : ∀ (r B : Int), 0 ≤ r → r < B → 0 ≤ acc r l ∧ acc r l < B * 64 ^ l.length := by
  induction l with
  | nil => intro r B h0 h1; simpa [acc] using ⟨h0, h1⟩
  | cons c t ih =>
    intro r B h0 h1
    have := ih (r * 64 + c % 64) (B * 64) (by omega) (by omega)
    simp only [acc, List.length_cons]
    refine ⟨this.1, ?_⟩
    rw [Int.pow_succ, Int.mul_comm (64 ^ t.length) 64, ← Int.mul_assoc]
    exact this.2
theorem dom_broken : dom 65533 = true := by decide
theorem dec_bd (l : List Int) (h : l ≠ []) : 1 ≤ (dec l).2 ∧ (dec l).2 ≤ 4 ∧ (dec l).2 ≤ l.length ∧ dom (dec l).1 = true := by
  cases l with
  | nil => exact absurd rfl h
  | cons a t =>
    have hs := sz_le a
    show 1 ≤ (decAt a t).2 ∧ (decAt a t).2 ≤ 4 ∧ (decAt a t).2 ≤ ((a :: t).length : Nat) ∧ dom (decAt a t).1 = true
    unfold decAt
    by_cases h2 : okB a t = true
    · rw [if_pos h2]
      simp only [okB, Bool.and_eq_true, decide_eq_true_eq] at h2
      simp only [List.length_cons]
      exact ⟨by omega, by omega, by omega, h2.2⟩
    · rw [if_neg h2]
      simp only [List.length_cons]
      exact ⟨by omega, by omega, by omega, dom_broken⟩
/-- Cut by rounds: each rune with the place of its first byte -/
def cutF : Nat → Nat → List Int → List (Int × Nat)
  | 0, _, _ => []
  | _ + 1, _, [] => []
  | n + 1, at', a :: t => ((dec (a :: t)).1, at') :: cutF n (at' + (dec (a :: t)).2.toNat) ((a :: t).drop (dec (a :: t)).2.toNat)
def cut (l : List Int) : List (Int × Nat) := cutF l.length 0 l
theorem cutF_more (l : List Int) : ∀ (n m p : Nat), l.length ≤ n → l.length ≤ m → cutF n p l = cutF m p l := by
  intro n
  induction n generalizing l with
  | zero =>
    intro m p h1 h2
    have : l = [] := List.eq_nil_of_length_eq_zero (by omega)
    subst this
    cases m <;> rfl
  | succ n ih =>
    intro m p h1 h2
    cases l with
    | nil => cases m <;> rfl
    | cons a t =>
      cases m with
      | zero => simp at h2
      | succ m =>
        have hd := dec_bd (a :: t) (by simp)
        simp only [cutF]
        rw [ih _ m _ (by simp only [List.length_drop, List.length_cons] at *; omega) (by simp only [List.length_drop, List.length_cons] at *; omega)]
theorem cutF_len (l : List Int) : ∀ (n p : Nat), (cutF n p l).length ≤ l.length := by
  intro n
  induction n generalizing l with
  | zero => intro p; simp [cutF]
  | succ n ih =>
    intro p
    cases l with
    | nil => simp [cutF]
    | cons a t =>
      have hd := dec_bd (a :: t) (by simp)
      simp only [cutF, List.length_cons]
      have := ih ((a :: t).drop (dec (a :: t)).2.toNat) (p + (dec (a :: t)).2.toNat)
      simp only [List.length_drop, List.length_cons] at *
      omega
theorem acc_small (a : Int) (l : List Int) (h0 : 0 ≤ a) (h1 : a < 128) (hl : l.length ≤ 3) : 0 ≤ acc a l ∧ acc a l < 33554432 := by
  have h := acc_bd l a 128 h0 h1
  have hp : (64 : Int) ^ l.length ≤ 262144 := by
    have : ∀ n, n ≤ 3 → (64 : Int) ^ n ≤ 262144 := by decide
    exact this _ hl
  refine ⟨h.1, ?_⟩
  have := h.2
  omega
theorem take_succ' (t : List Int) (k : Nat) (h : k < t.length) : t.take (k + 1) = t.take k ++ [t.getD k 0] := by
  rw [List.take_succ_eq_append_getElem h]
  simp [h]
theorem all_take_succ (t : List Int) (k : Nat) (h : k < t.length) : (t.take (k + 1)).all cont = ((t.take k).all cont && cont (t.getD k 0)) := by
  rw [take_succ' t k h, List.all_append]
  simp
theorem all_take_mono (t : List Int) (j k : Nat) (h : j ≤ k) (ha : (t.take k).all cont = true) : (t.take j).all cont = true := by
  rw [List.all_eq_true] at *
  intro x hx
  have hx' : x ∈ t.take k := (List.take_sublist_take_left h).subset hx
  exact ha x hx'
theorem dec_few (a : Int) (t : List Int) (h : sz a = 0 ∨ (t.length : Int) + 1 < sz a) : dec (a :: t) = (65533, 1) := by
  show decAt a t = _
  unfold decAt
  rw [if_neg]
  simp only [okB, Bool.and_eq_true, decide_eq_true_eq]
  omega
theorem dec_brk (a : Int) (t : List Int) (k : Nat) (hk : k + 1 < (sz a).toNat) (hl : k < t.length) (hc : cont (t.getD k 0) = false) : dec (a :: t) = (65533, 1) := by
  show decAt a t = _
  unfold decAt
  rw [if_neg]
  intro h
  simp only [okB, Bool.and_eq_true] at h
  have h2 := all_take_mono t (k + 1) ((sz a).toNat - 1) (by omega) h.1.1.2
  rw [all_take_succ t k hl, hc] at h2
  simp at h2
theorem dec_end (a : Int) (t : List Int) (h1 : 1 ≤ sz a) (h2 : sz a ≤ (t.length : Int) + 1) (hc : (t.take ((sz a).toNat - 1)).all cont = true) :
    dec (a :: t) = if ls (sz a) ≤ val a t ∧ dom (val a t) = true then (val a t, sz a) else (65533, 1) := by
  show decAt a t = _
  unfold decAt okB
  by_cases h : ls (sz a) ≤ val a t ∧ dom (val a t) = true
  · rw [if_pos h, if_pos]
    simp [h1, h2, hc, h.1, h.2]
  · rw [if_neg h, if_neg]
    intro h'
    simp only [Bool.and_eq_true, decide_eq_true_eq] at h'
    exact h ⟨h'.1.2, h'.2⟩
/-- the runes, and the places -/
def runesOf (G : List (Int × Nat)) : List Int := G.map fun x => x.1
def placesOf (G : List (Int × Nat)) : List Int := G.map fun x => (x.2 : Int)
theorem getD_drop' (l : List Int) (p : Nat) (h : p < l.length) : l.drop p = l.getD p 0 :: l.drop (p + 1) := by
  rw [List.drop_eq_getElem_cons h]
  simp [h]
theorem cut_step (l : List Int) (n p : Nat) (G : List (Int × Nat)) (hn : n = l.length) (hp : p < n) (hG : G ++ cutF n p (l.drop p) = cut l) :
    (G ++ [((dec (l.drop p)).1, p)]) ++ cutF n (p + (dec (l.drop p)).2.toNat) (l.drop (p + (dec (l.drop p)).2.toNat)) = cut l := by
  subst hn
  rw [← hG, List.append_assoc]
  congr 1
  have h1 : cutF l.length p (l.drop p) = cutF (l.length + 1) p (l.drop p) := cutF_more _ _ _ _ (by simp) (by simp; omega)
  rw [h1, getD_drop' l p hp, cutF, ← getD_drop' l p hp, List.drop_drop]
  rfl
theorem cut_done (l : List Int) (n : Nat) (G : List (Int × Nat)) (hn : n = l.length) (hG : G ++ cutF n n (l.drop n) = cut l) : G = cut l := by
  subst hn
  rw [← hG]
  have : cutF l.length l.length (l.drop l.length) = [] := by simp; cases l.length <;> rfl
  rw [this, List.append_nil]
theorem cut_len (l : List Int) : (cut l).length ≤ l.length := cutF_len l _ _
end Go.Mx
