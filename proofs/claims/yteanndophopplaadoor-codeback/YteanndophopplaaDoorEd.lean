/- HELPERS: programs as words, in plain words. -/
import Derived.Test.YteanndophopplaaDoorEa
import Derived.Test.YteanndophopplaaDoorSg
import Derived.Test.YteanndophopplaaDoorEb
namespace Go.Proofs.YteanndophopplaaDoor
open Go.RowKit
set_option linter.unusedVariables false
set_option linter.unusedSimpArgs false
/-- what digits come to -/
def valW (w : List Nat) : Nat := w.foldl (fun n x => 10 * n + (x - 48)) 0
theorem valW_snoc (w : List Nat) (x : Nat) : valW (w ++ [x]) = 10 * valW w + (x - 48) := by simp [valW, List.foldl_append]
def digB (x : Nat) : Bool := decide (48 ≤ x) && decide (x ≤ 57)
/-- is a word a number? -/
def isNumB (w : List Nat) : Bool := decide (1 ≤ w.length) && decide (w.length ≤ 9) && !(w.head? == some 48 && decide (1 < w.length)) && w.all digB
def numW (w : List Nat) : Option Nat := if isNumB w = true then some (valW w) else none
theorem val_dec : ∀ (n : Nat), valW (dec n) = n := by
  intro n
  induction n using Nat.strongRecOn with
  | _ n ih =>
    by_cases h : 10 ≤ n
    · rw [dec_big h, valW_snoc, ih (n / 10) (by omega)]; omega
    · rw [dec_small h]; simp [valW]; omega
theorem dec_ne (n : Nat) : dec n ≠ [] := by
  by_cases h : 10 ≤ n
  · rw [dec_big h]; simp
  · rw [dec_small h]; simp
theorem dec_head : ∀ (n : Nat), 0 < n → (dec n).head? ≠ some 48 := by
  intro n
  induction n using Nat.strongRecOn with
  | _ n ih =>
    intro h0
    by_cases h : 10 ≤ n
    · rw [dec_big h]
      have := ih (n / 10) (by omega) (by omega)
      have hne := dec_ne (n / 10)
      cases hd : dec (n / 10) with
      | nil => exact (hne hd).elim
      | cons a t => rw [hd] at this; simpa using this
    · rw [dec_small h]; simp; omega
theorem dec_size : ∀ (m n : Nat), n < 10 ^ m → 0 < m → (dec n).length ≤ m := by
  intro m
  induction m with
  | zero => intro n _ h; omega
  | succ m ih =>
    intro n h _
    by_cases hb : 10 ≤ n
    · have hm : 0 < m := by
        rcases Nat.eq_zero_or_pos m with e | e
        · subst e; simp at h; omega
        · exact e
      rw [dec_big hb, List.length_append]
      have := ih (n / 10) (by rw [Nat.pow_succ] at h; omega) hm
      simp; omega
    · rw [dec_small hb]; simp
theorem num_dec {n : Nat} (h : n ≤ 999999999) : numW (dec n) = some n := by
  have h1 := dec_size 9 n (by omega) (by omega)
  have h2 : 1 ≤ (dec n).length := by
    have := dec_ne n
    cases hd : dec n with
    | nil => exact (this hd).elim
    | cons a t => simp
  have h3 : (dec n).all digB = true := by
    rw [List.all_eq_true]
    intro x hx
    have := dec_lt n x hx
    simp [digB]; omega
  have h4 : ¬ ((dec n).head? = some 48 ∧ 1 < (dec n).length) := by
    rintro ⟨e1, e2⟩
    by_cases h0 : 0 < n
    · exact dec_head n h0 e1
    · have : n = 0 := by omega
      subst this
      rw [dec_small (by omega)] at e2
      simp at e2
  unfold numW
  rw [if_pos, val_dec]
  simp only [isNumB, h3, Bool.and_true, Bool.and_eq_true, decide_eq_true_eq, Bool.not_eq_true', Bool.and_eq_false_iff]
  refine ⟨⟨h2, h1⟩, ?_⟩
  by_cases e1 : (dec n).head? = some 48
  · right
    rw [decide_eq_false_iff_not]
    exact fun e2 => h4 ⟨e1, e2⟩
  · left
    simpa using e1
theorem dec_val : ∀ (w : List Nat), w ≠ [] → (w.head? = some 48 → w.length ≤ 1) → (∀ x ∈ w, 48 ≤ x ∧ x ≤ 57) → dec (valW w) = w := by
  intro w
  have hrev : ∃ m, w.length = m := ⟨_, rfl⟩
  obtain ⟨m, hm⟩ := hrev
  induction m generalizing w with
  | zero => intro h; exact (h (List.length_eq_zero_iff.1 hm)).elim
  | succ m ih =>
    intro hne hh hd
    obtain ⟨v, x, rfl⟩ : ∃ v x, w = v ++ [x] := ⟨w.dropLast, w.getLast hne, (List.dropLast_concat_getLast hne).symm⟩
    have hx := hd x (by simp)
    rw [valW_snoc]
    by_cases hv : v = []
    · subst hv
      have : 10 * valW [] + (x - 48) = x - 48 := by simp [valW]
      rw [this, dec_small (by omega)]
      simp; omega
    · have hvh : v.head? ≠ some 48 := by
        intro e
        have : (v ++ [x]).head? = some 48 := by cases v with
          | nil => exact (hv rfl).elim
          | cons a t => simpa using e
        have := hh this
        cases v with
        | nil => exact hv rfl
        | cons a t => simp at this
      have e := ih v (by simp at hm; exact hm) hv (fun e => (hvh e).elim) (fun y hy => hd y (by simp [hy]))
      have hpos : 0 < valW v := by
        rcases Nat.eq_zero_or_pos (valW v) with e0 | e0
        · rw [e0, dec_small (by omega)] at e
          rw [← e] at hvh
          simp at hvh
        · exact e0
      rw [dec_big (by omega)]
      have e1 : (10 * valW v + (x - 48)) / 10 = valW v := by omega
      have e2 : 48 + (10 * valW v + (x - 48)) % 10 = x := by omega
      rw [e1, e2, e]
theorem val_lt : ∀ (w : List Nat), (∀ x ∈ w, 48 ≤ x ∧ x ≤ 57) → valW w < 10 ^ w.length := by
  intro w
  obtain ⟨m, hm⟩ : ∃ m, w.length = m := ⟨_, rfl⟩
  induction m generalizing w with
  | zero => intro _; have := List.length_eq_zero_iff.1 hm; subst this; simp [valW]
  | succ m ih =>
    intro hd
    have hne : w ≠ [] := by intro e; rw [e] at hm; simp at hm
    obtain ⟨v, x, rfl⟩ : ∃ v x, w = v ++ [x] := ⟨w.dropLast, w.getLast hne, (List.dropLast_concat_getLast hne).symm⟩
    have hx := hd x (by simp)
    have := ih v (by simp at hm; exact hm) (fun y hy => hd y (by simp [hy]))
    rw [valW_snoc, List.length_append, List.length_singleton, Nat.pow_succ]
    omega
theorem dec_num {w : List Nat} {n : Nat} (h : numW w = some n) : w = dec n ∧ n ≤ 999999999 := by
  unfold numW at h
  split at h
  · rename_i hb
    simp at h
    subst h
    simp only [isNumB, Bool.and_eq_true, decide_eq_true_eq, List.all_eq_true] at hb
    obtain ⟨⟨⟨h1, h2⟩, h3⟩, h4⟩ := hb
    have hd : ∀ x ∈ w, 48 ≤ x ∧ x ≤ 57 := fun x hx => by have := h4 x hx; simpa [digB] using this
    refine ⟨(dec_val w (by intro e; subst e; simp at h1) (fun e => ?_) hd).symm, ?_⟩
    · simp [e] at h3; exact h3
    · have := val_lt w hd
      have h9 : 10 ^ w.length ≤ 10 ^ 9 := Nat.pow_le_pow_right (by omega) h2
      omega
  · simp at h
/-- the operations' words -/
def opW : Nat → List Nat
  | 1 => [114, 117, 110, 101]
  | 2 => [97, 108, 116]
  | 3 => [99, 97, 112]
  | 4 => [97, 115, 115, 101, 114, 116]
  | 5 => [109, 97, 116, 99, 104]
  | 6 => [102, 97, 105, 108]
  | 7 => [110, 111, 112]
  | _ => []
def opOfW (w : List Nat) : Nat := if w = opW 1 then 1 else if w = opW 2 then 2 else if w = opW 3 then 3 else if w = opW 4 then 4 else if w = opW 5 then 5 else if w = opW 6 then 6 else if w = opW 7 then 7 else 0
theorem op_opW {n : Nat} (h1 : 1 ≤ n) (h7 : n ≤ 7) : opOfW (opW n) = n := by
  obtain rfl | rfl | rfl | rfl | rfl | rfl | rfl : n = 1 ∨ n = 2 ∨ n = 3 ∨ n = 4 ∨ n = 5 ∨ n = 6 ∨ n = 7 := by omega
  all_goals rfl
theorem opW_op {w : List Nat} {n : Nat} (h : opOfW w = n) (h1 : 1 ≤ n) : w = opW n := by
  unfold opOfW at h
  repeat' split at h
  all_goals first | (subst h; assumption) | omega
/-- programs' words -/
def wordC : Codec (List Nat) where
  num := fun n => [dec n]
  op := fun n => [opW n]
  get := fun l => match l with | [] => none | w :: r => (numW w).map fun n => (n, r)
  getop := fun l => match l with | [] => none | w :: r => some (opOfW w, r)
  top := 999999999
  big := by omega
  get_num := fun n u h => by simp [num_dec h]
  num_get := fun l n u h => by
    cases l with
    | nil => simp at h
    | cons w r =>
      simp at h
      obtain ⟨m, h1, h2, h3⟩ := h
      subst h2 h3
      obtain ⟨e1, e2⟩ := dec_num h1
      exact ⟨by rw [← e1]; rfl, e2⟩
  get_op := fun n u h1 h7 => by simp [op_opW h1 h7]
  op_get := fun l n u h h1 h7 => by
    cases l with
    | nil => simp at h
    | cons w r =>
      simp at h
      rw [opW_op h.1 h1, h.2]; rfl
/-- instructions, as long as there are words; up to so many -/
def getA {α : Type} (C : Codec α) (L : Nat) : Nat → List α → Option (List In)
  | _, [] => some []
  | 0, _ :: _ => none
  | n + 1, a :: l => match getI C L (a :: l) with
    | none => none
    | some (I, l1) => match getA C L n l1 with
      | none => none
      | some J => some (I :: J)
theorem getA_sound {α : Type} (C : Codec α) {L : Nat} : ∀ (n : Nat) (l : List α) (J : List In), getA C L n l = some J → l = C.insts J ∧ J.length ≤ n := by
  intro n
  induction n with
  | zero => intro l J h; cases l with
    | nil => simp [getA] at h; simp [h, Codec.insts]
    | cons a l => simp [getA] at h
  | succ n ih =>
    intro l J h
    cases l with
    | nil => simp [getA] at h; simp [h, Codec.insts]
    | cons a l =>
      unfold getA at h
      split at h
      · simp at h
      rename_i I l1 h1
      split at h
      · simp at h
      rename_i J2 h2
      simp at h
      obtain ⟨e2, e3⟩ := ih _ _ h2
      rw [← h, getI_sound C h1, e2]
      exact ⟨by simp [Codec.insts], by simp; omega⟩
theorem getA_full {α : Type} (C : Codec α) (hne : ∀ I : In, C.inst I ≠ []) {L : Nat} (hL : 5000 ≤ L) {m k : Int} (hm : m ≤ 20000) (hk : k ≤ 1002) : ∀ (n : Nat) (J : List In), (∀ I ∈ J, Fit m k I) → J.length ≤ n → getA C L n (C.insts J) = some J := by
  intro n
  induction n with
  | zero => intro J _ h; have := List.length_eq_zero_iff.1 (Nat.le_zero.1 h); subst this; rfl
  | succ n ih =>
    intro J h hl
    cases J with
    | nil => rfl
    | cons I J =>
      have e : C.insts (I :: J) = C.inst I ++ C.insts J := by simp [Codec.insts]
      rw [e]
      have hg := getI_full C hL (h I (by simp)) hm hk (C.insts J)
      cases hc : C.inst I ++ C.insts J with
      | nil => exact (hne I (List.append_eq_nil_iff.1 hc).1).elim
      | cons a l =>
        rw [hc] at hg
        unfold getA
        rw [hg]
        simp only
        rw [ih J (fun x hx => h x (by simp [hx])) (by simp at hl; omega)]
abbrev capsW : List Nat := [99, 97, 112, 115]
abbrev startW : List Nat := [115, 116, 97, 114, 116]
/-- a program's words -/
def wordsP (J : List In) (s k : Int) : List (List Nat) := capsW :: dec k.toNat :: startW :: dec s.toNat :: wordC.insts J
/-- what words are read as -/
def readP (L M : Nat) (W : List (List Nat)) : Option Pr3 := match W with
  | c :: kw :: t :: sw :: l => if c = capsW ∧ t = startW then match numW kw with
    | none => none
    | some k => match numW sw with
      | none => none
      | some s => match getA wordC L M l with
        | none => none
        | some J => if mayB J s k then some (J, (s : Int), (k : Int)) else none
    else none
  | _ => none
theorem readP_iff {L M : Nat} (hL : 5000 ≤ L) (W : List (List Nat)) (hM : 20000 ≤ M ∨ W.length ≤ M) (J : List In) (s k : Int) : readP L M W = some (J, s, k) ↔ mayB J s k = true ∧ W = wordsP J s k := by
  constructor
  · intro h
    unfold readP at h
    split at h
    · rename_i c kw t sw l
      split at h
      · rename_i hc
        split at h
        · simp at h
        rename_i k0 h1
        split at h
        · simp at h
        rename_i s0 h2
        split at h
        · simp at h
        rename_i J0 h3
        split at h
        · rename_i hm
          simp at h
          obtain ⟨e1, e2, e3⟩ := h
          subst e1 e2 e3
          refine ⟨hm, ?_⟩
          rw [hc.1, hc.2, (dec_num h1).1, (dec_num h2).1, (getA_sound _ _ _ _ h3).1]
          rfl
        · simp at h
      · simp at h
    · simp at h
  · rintro ⟨h, e⟩
    obtain ⟨h1, h2, h3, h4, h5, h6⟩ := may_fit h
    have hne : ∀ I : In, wordC.inst I ≠ [] := fun I => by simp [Codec.inst, wordC]
    have hJ : J.length ≤ M := by
      rcases hM with hM | hM
      · omega
      · have hl : ∀ J : List In, J.length ≤ (wordC.insts J).length := by
          intro J
          induction J with
          | nil => simp [Codec.insts]
          | cons I J ih =>
            have e : wordC.insts (I :: J) = wordC.inst I ++ wordC.insts J := by simp [Codec.insts]
            rw [e, List.length_append, List.length_cons]
            have := List.length_pos_iff.2 (hne I)
            omega
        have := hl J
        rw [e] at hM
        simp [wordsP] at hM
        omega
    rw [e]
    unfold wordsP readP
    simp only
    rw [if_pos (by simp), num_dec (by omega)]
    simp only
    rw [num_dec (by omega)]
    simp only
    rw [getA_full wordC hne hL (by omega) h5 M J h6 hJ]
    simp only
    rw [Int.toNat_of_nonneg h2, Int.toNat_of_nonneg (by omega : 0 ≤ k), if_pos h]
theorem readP_eq {L M L' M' : Nat} (hL : 5000 ≤ L) (hL' : 5000 ≤ L') (W : List (List Nat)) (hM : 20000 ≤ M ∨ W.length ≤ M) (hM' : 20000 ≤ M' ∨ W.length ≤ M') : readP L M W = readP L' M' W := by
  cases h : readP L' M' W with
  | some p => obtain ⟨J, s, k⟩ := p; exact (readP_iff hL W hM J s k).2 ((readP_iff hL' W hM' J s k).1 h)
  | none =>
    cases h2 : readP L M W with
    | none => rfl
    | some p =>
      obtain ⟨J, s, k⟩ := p
      have := (readP_iff hL' W hM' J s k).2 ((readP_iff hL W hM J s k).1 h2)
      rw [h] at this; simp at this
end Go.Proofs.YteanndophopplaaDoor
