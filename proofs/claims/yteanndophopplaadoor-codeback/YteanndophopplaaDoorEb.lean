/- HELPERS: programs as bytes, in plain words. -/
import Derived.Test.YteanndophopplaaDoorEa
import Derived.Test.YteanndophopplaaDoorSb
import Derived.Test.YteanndophopplaaDoorSe
namespace Go.Proofs.YteanndophopplaaDoor
open Go.RowKit
set_option linter.unusedVariables false
set_option linter.unusedSimpArgs false
/-- a number of sevens, by up to so many bytes -/
def get7 : Nat → Bool → List Nat → Option (Nat × List Nat)
  | 0, _, _ => none
  | _ + 1, _, [] => none
  | f + 1, first, b :: r => if 256 ≤ b then none else if 128 ≤ b then (match get7 f false r with
    | none => none
    | some (n, u) => some (b % 128 + 128 * n, u)) else if b = 0 ∧ first = false then none else some (b, r)
theorem get7_put : ∀ (f : Nat) (n : Nat) (first : Bool) (u : List Nat), n < 128 ^ f → (first = true ∨ n ≠ 0) → 0 < f → get7 f first (put7 n ++ u) = some (n, u) := by
  intro f
  induction f with
  | zero => intro n first u h _ h0; omega
  | succ f ih =>
    intro n first u h hf _
    by_cases hb : 128 ≤ n
    · rw [put7_big hb, List.cons_append]
      unfold get7
      have hp : n / 128 < 128 ^ f := by rw [Nat.pow_succ] at h; omega
      have h0 : 0 < f := by
        rcases Nat.eq_zero_or_pos f with e | e
        · subst e; simp at h; omega
        · exact e
      rw [if_neg (by omega), if_pos (by omega), ih (n / 128) false u hp (.inr (by omega)) h0]
      simp only
      congr 2
      omega
    · rw [put7_small hb]
      show get7 (f + 1) first (n :: u) = _
      unfold get7
      rw [if_neg (by omega), if_neg hb, if_neg (by rcases hf with e | e <;> simp [e])]
theorem get7_sound : ∀ (f : Nat) (first : Bool) (l u : List Nat) (n : Nat), get7 f first l = some (n, u) → l = put7 n ++ u ∧ n < 128 ^ f ∧ (first = true ∨ n ≠ 0) := by
  intro f
  induction f with
  | zero => intro first l u n h; simp [get7] at h
  | succ f ih =>
    intro first l u n h
    cases l with
    | nil => simp [get7] at h
    | cons b r =>
      unfold get7 at h
      split at h
      · simp at h
      rename_i hb
      split at h
      · rename_i h128
        split at h
        · simp at h
        rename_i n2 u2 h2
        simp at h
        obtain ⟨e1, e2, e3⟩ := ih false r u2 n2 h2
        have hn : n2 ≠ 0 := by rcases e3 with e | e; · simp at e
                               · exact e
        have hbig : 128 ≤ n := by omega
        refine ⟨?_, by rw [Nat.pow_succ]; omega, .inr (by omega)⟩
        rw [put7_big hbig, ← h.2, e1, show n / 128 = n2 by omega, List.cons_append, show 128 + n % 128 = b by omega]
      · rename_i h128
        split at h
        · simp at h
        rename_i h0
        simp at h
        have hp : 0 < 128 ^ f := Nat.pos_of_ne_zero (by simp)
        refine ⟨by rw [put7_small (by omega), ← h.1, ← h.2]; rfl, by rw [Nat.pow_succ]; omega, ?_⟩
        cases first
        · right; intro e; exact h0 ⟨by omega, rfl⟩
        · exact .inl rfl
/-- programs' bytes: numbers of up to so many bytes -/
def byteC (f : Nat) (hf : 3 ≤ f) : Codec Nat where
  num := put7
  op := fun n => [n]
  get := get7 f true
  getop := fun l => match l with | [] => none | b :: r => some (b, r)
  top := 128 ^ f - 1
  big := by
    have : 128 ^ 3 ≤ 128 ^ f := Nat.pow_le_pow_right (by omega) hf
    omega
  get_num := fun n u h => by
    have hp : 0 < 128 ^ f := Nat.pos_of_ne_zero (by simp)
    exact get7_put f n true u (by omega) (.inl rfl) (by omega)
  num_get := fun l n u h => by
    obtain ⟨h1, h2, _⟩ := get7_sound f true l u n h
    exact ⟨h1, by omega⟩
  get_op := fun n u _ _ => rfl
  op_get := fun l n u h _ _ => by
    cases l with
    | nil => simp at h
    | cons b r => simp at h; rw [h.1, h.2]; rfl
abbrev headB : List Nat := [72, 82, 80, 71]
def sum4 (s : Nat) : List Nat := [s % 256, s / 256 % 256, s / 65536 % 256, s / 16777216 % 256]
def bodyB (J : List In) (s k : Int) : List Nat := put7 k.toNat ++ (put7 s.toNat ++ (put7 J.length ++ (J.flatMap fun I => I.op.toNat :: I.nums.flatMap put7)))
def coreB (J : List In) (s k : Int) : List Nat := headB ++ bodyB J s k
/-- a program's bytes -/
def fullB (J : List In) (s k : Int) : List Nat := coreB J s k ++ sum4 (crcSum (coreB J s k))
abbrev Pr3 : Type := List In × Int × Int
def restP {α : Type} (C : Codec α) (L M : Nat) (m : List α) : Option (Pr3 × List α) := match C.get m with
  | none => none
  | some (k, m1) => match C.get m1 with
    | none => none
    | some (s, m2) => match C.get m2 with
      | none => none
      | some (n, m3) => if M < n then none else match getN C L n m3 with
        | none => none
        | some (J, m4) => some ((J, (s : Int), (k : Int)), m4)
def bodyP {α : Type} (C : Codec α) (L M : Nat) (m : List α) : Option Pr3 := match restP C L M m with
  | some (p, []) => if mayB p.1 p.2.1 p.2.2 then some p else none
  | _ => none
def innerP (b : List Nat) : Option (List Nat) := if 8 ≤ b.length ∧ b.take 4 = headB ∧ sum4 (crcSum (b.take (b.length - 4))) = b.drop (b.length - 4) then some ((b.take (b.length - 4)).drop 4) else none
/-- what bytes are loaded as -/
def loadP (C : Codec Nat) (L M : Nat) (b : List Nat) : Option Pr3 := (innerP b).bind (bodyP C L M)
theorem body_full {f : Nat} (hf : 3 ≤ f) {L M : Nat} (hL : 5000 ≤ L) (hM : 20000 ≤ M) {J : List In} {s k : Int} (h : mayB J s k = true) (u : List Nat) : restP (byteC f hf) L M (bodyB J s k ++ u) = some ((J, s, k), u) := by
  obtain ⟨h1, h2, h3, h4, h5, h6⟩ := may_fit h
  have hb := (byteC f hf).big
  have e : bodyB J s k ++ u = (byteC f hf).num k.toNat ++ ((byteC f hf).num s.toNat ++ ((byteC f hf).num J.length ++ ((byteC f hf).insts J ++ u))) := by
    show _ = put7 k.toNat ++ (put7 s.toNat ++ (put7 J.length ++ ((J.flatMap fun I => [I.op.toNat] ++ I.nums.flatMap put7) ++ u)))
    simp [bodyB]
  rw [e]
  unfold restP
  rw [(byteC f hf).get_num _ _ (by omega)]
  simp only
  rw [(byteC f hf).get_num _ _ (by omega)]
  simp only
  rw [(byteC f hf).get_num _ _ (by omega)]
  simp only
  rw [if_neg (by omega), getN_full (byteC f hf) hL (by omega) (by omega) J u h6]
  simp only
  rw [Int.toNat_of_nonneg h2, Int.toNat_of_nonneg (by omega : 0 ≤ k)]
theorem rest_sound {f : Nat} (hf : 3 ≤ f) {L M : Nat} {m u : List Nat} {J : List In} {s k : Int} (h : restP (byteC f hf) L M m = some ((J, s, k), u)) : m = bodyB J s k ++ u ∧ J.length ≤ M := by
  unfold restP at h
  split at h
  · simp at h
  rename_i k0 m1 h1
  split at h
  · simp at h
  rename_i s0 m2 h2
  split at h
  · simp at h
  rename_i n0 m3 h3
  split at h
  · simp at h
  split at h
  · simp at h
  rename_i hn J0 m4 h4
  simp at h
  obtain ⟨⟨e1, e2, e3⟩, e4⟩ := h
  obtain ⟨g1, g2⟩ := getN_sound _ _ _ _ _ h4
  subst e1 e2 e3 e4
  refine ⟨?_, by omega⟩
  rw [((byteC f hf).num_get _ _ _ h1).1, ((byteC f hf).num_get _ _ _ h2).1, ((byteC f hf).num_get _ _ _ h3).1, g1]
  show put7 k0 ++ (put7 s0 ++ (put7 n0 ++ ((J0.flatMap fun I => [I.op.toNat] ++ I.nums.flatMap put7) ++ m4))) = _
  rw [← g2]
  simp [bodyB]
theorem bodyP_iff {f : Nat} (hf : 3 ≤ f) {L M : Nat} (hL : 5000 ≤ L) (hM : 20000 ≤ M) (m : List Nat) (J : List In) (s k : Int) : bodyP (byteC f hf) L M m = some (J, s, k) ↔ mayB J s k = true ∧ m = bodyB J s k := by
  constructor
  · intro h
    unfold bodyP at h
    split at h
    · rename_i p hp
      obtain ⟨J1, s1, k1⟩ := p
      split at h
      · rename_i hm
        simp at h
        obtain ⟨e1, e2, e3⟩ := h
        subst e1 e2 e3
        have := (rest_sound hf hp).1
        rw [List.append_nil] at this
        exact ⟨hm, this⟩
      · simp at h
    · simp at h
  · rintro ⟨h, rfl⟩
    have := body_full hf hL hM h []
    rw [List.append_nil] at this
    unfold bodyP
    rw [this]
    simp [h]
theorem inner_iff (b m : List Nat) : innerP b = some m ↔ b = (headB ++ m) ++ sum4 (crcSum (headB ++ m)) := by
  constructor
  · intro h
    unfold innerP at h
    split at h
    · rename_i hc
      simp at h
      obtain ⟨h1, h2, h3⟩ := hc
      have e1 : headB ++ m = b.take (b.length - 4) := by
        have := List.take_append_drop 4 (b.take (b.length - 4))
        rw [h, List.take_take, Nat.min_eq_left (by omega), h2] at this
        exact this
      rw [e1, h3, List.take_append_drop]
    · simp at h
  · intro h
    have hl : b.length = m.length + 8 := by rw [h]; simp [sum4]
    have e1 : b.take (b.length - 4) = headB ++ m := by
      have : b.length - 4 = (headB ++ m).length := by simp; omega
      rw [this]
      conv => lhs; rw [h]
      rw [List.take_left]
    have e2 : b.drop (b.length - 4) = sum4 (crcSum (headB ++ m)) := by
      have : b.length - 4 = (headB ++ m).length := by simp; omega
      rw [this]
      conv => lhs; rw [h]
      rw [List.drop_left]
    unfold innerP
    rw [e1, e2, if_pos ⟨by omega, by rw [h]; simp, rfl⟩]
    simp
theorem loadP_iff {f : Nat} (hf : 3 ≤ f) {L M : Nat} (hL : 5000 ≤ L) (hM : 20000 ≤ M) (b : List Nat) (J : List In) (s k : Int) : loadP (byteC f hf) L M b = some (J, s, k) ↔ mayB J s k = true ∧ b = fullB J s k := by
  unfold loadP
  constructor
  · intro h
    cases hi : innerP b with
    | none => rw [hi] at h; simp at h
    | some m =>
      rw [hi] at h
      obtain ⟨h1, h2⟩ := (bodyP_iff hf hL hM m J s k).1 h
      exact ⟨h1, by rw [(inner_iff b m).1 hi, h2]; rfl⟩
  · rintro ⟨h1, h2⟩
    have hi : innerP b = some (bodyB J s k) := (inner_iff _ _).2 h2
    rw [hi]
    exact (bodyP_iff hf hL hM _ J s k).2 ⟨h1, rfl⟩
/-- whichever way they are read, bytes are the same program's -/
theorem loadP_eq {f g : Nat} (hf : 3 ≤ f) (hg : 3 ≤ g) {L M L' M' : Nat} (hL : 5000 ≤ L) (hM : 20000 ≤ M) (hL' : 5000 ≤ L') (hM' : 20000 ≤ M') (b : List Nat) : loadP (byteC f hf) L M b = loadP (byteC g hg) L' M' b := by
  cases h : loadP (byteC g hg) L' M' b with
  | some p => obtain ⟨J, s, k⟩ := p; exact (loadP_iff hf hL hM b J s k).2 ((loadP_iff hg hL' hM' b J s k).1 h)
  | none =>
    cases h2 : loadP (byteC f hf) L M b with
    | none => rfl
    | some p =>
      obtain ⟨J, s, k⟩ := p
      have := (loadP_iff hg hL' hM' b J s k).2 ((loadP_iff hf hL hM b J s k).1 h2)
      rw [h] at this; simp at this
end Go.Proofs.YteanndophopplaaDoor
