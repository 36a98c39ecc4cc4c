/- HELPERS: programs written down and read, whatever the signs are. -/
import Derived.Test.YteanndophopplaaDoorCc
namespace Go.Proofs.YteanndophopplaaDoor
open Go.RowKit
set_option linter.unusedVariables false
set_option linter.unusedSimpArgs false
/-- how numbers and operations are written and read: with up to so many, and what follows -/
structure Codec (α : Type) where
  num : Nat → List α
  op : Nat → List α
  get : List α → Option (Nat × List α)
  getop : List α → Option (Nat × List α)
  top : Nat
  big : 1114111 ≤ top
  get_num : ∀ n u, n ≤ top → get (num n ++ u) = some (n, u)
  num_get : ∀ l n u, get l = some (n, u) → l = num n ++ u ∧ n ≤ top
  get_op : ∀ n u, 1 ≤ n → n ≤ 7 → getop (op n ++ u) = some (n, u)
  op_get : ∀ l n u, getop l = some (n, u) → 1 ≤ n → n ≤ 7 → l = op n ++ u
/-- an instruction's numbers -/
def rnums (R : List (Int × Int)) : List Nat := R.flatMap fun r => [r.1.toNat, r.2.toNat]
def In.nums (I : In) : List Nat :=
  if I.op = 1 then I.x.toNat :: I.R.length :: rnums I.R
  else if I.op = 2 then [I.x.toNat, I.y.toNat]
  else if I.op = 3 ∨ I.op = 4 then [I.a.toNat, I.x.toNat]
  else if I.op = 5 then [I.a.toNat]
  else if I.op = 7 then [I.x.toNat]
  else []
def Codec.nums {α : Type} (C : Codec α) (l : List Nat) : List α := l.flatMap C.num
def Codec.inst {α : Type} (C : Codec α) (I : In) : List α := C.op I.op.toNat ++ C.nums I.nums
def Codec.insts {α : Type} (C : Codec α) (l : List In) : List α := l.flatMap C.inst
def getR {α : Type} (C : Codec α) : Nat → List α → Option (List (Int × Int) × List α)
  | 0, l => some ([], l)
  | c + 1, l => match C.get l with
    | none => none
    | some (lo, l1) => match C.get l1 with
      | none => none
      | some (hi, l2) => match getR C c l2 with
        | none => none
        | some (R, l3) => some (((lo : Int), (hi : Int)) :: R, l3)
/-- an instruction's fields, behind its operation; up to so many ranges -/
def getF {α : Type} (C : Codec α) (L : Nat) (op : Nat) (l : List α) : Option (In × List α) :=
  if op = 1 then match C.get l with
    | none => none
    | some (x, l1) => match C.get l1 with
      | none => none
      | some (c, l2) => if L < c then none else match getR C c l2 with
        | none => none
        | some (R, l3) => some (⟨1, x, 0, 0, R⟩, l3)
  else if op = 2 then match C.get l with
    | none => none
    | some (x, l1) => match C.get l1 with
      | none => none
      | some (y, l2) => some (⟨2, x, y, 0, []⟩, l2)
  else if op = 3 ∨ op = 4 then match C.get l with
    | none => none
    | some (a, l1) => match C.get l1 with
      | none => none
      | some (x, l2) => some (⟨op, x, 0, a, []⟩, l2)
  else if op = 5 then match C.get l with
    | none => none
    | some (a, l1) => some (⟨5, 0, 0, a, []⟩, l1)
  else if op = 6 then some (⟨6, 0, 0, 0, []⟩, l)
  else if op = 7 then match C.get l with
    | none => none
    | some (x, l1) => some (⟨7, x, 0, 0, []⟩, l1)
  else none
def getI {α : Type} (C : Codec α) (L : Nat) (l : List α) : Option (In × List α) := match C.getop l with
  | none => none
  | some (op, l1) => getF C L op l1
/-- so many instructions -/
def getN {α : Type} (C : Codec α) (L : Nat) : Nat → List α → Option (List In × List α)
  | 0, l => some ([], l)
  | n + 1, l => match getI C L l with
    | none => none
    | some (I, l1) => match getN C L n l1 with
      | none => none
      | some (J, l2) => some (I :: J, l2)
theorem getR_len {α : Type} (C : Codec α) : ∀ (c : Nat) (l : List α) R u, getR C c l = some (R, u) → R.length = c := by
  intro c
  induction c with
  | zero => intro l R u h; simp [getR] at h; simp [h.1]
  | succ c ih =>
    intro l R u h
    unfold getR at h
    split at h
    · simp at h
    · split at h
      · simp at h
      · split at h
        · simp at h
        · rename_i h3; simp at h; rw [← h.1, List.length_cons, ih _ _ _ h3]
theorem getR_sound {α : Type} (C : Codec α) : ∀ (c : Nat) (l : List α) R u, getR C c l = some (R, u) → l = C.nums (rnums R) ++ u := by
  intro c
  induction c with
  | zero => intro l R u h; simp [getR] at h; simp [h.1, h.2, rnums, Codec.nums]
  | succ c ih =>
    intro l R u h
    unfold getR at h
    split at h
    · simp at h
    · rename_i lo l1 h1
      split at h
      · simp at h
      · rename_i hi l2 h2
        split at h
        · simp at h
        · rename_i R3 l3 h3
          simp at h
          have e1 := (C.num_get _ _ _ h1).1
          have e2 := (C.num_get _ _ _ h2).1
          have e3 := ih _ _ _ h3
          rw [← h.1, ← h.2, e1, e2, e3]
          simp [rnums, Codec.nums]
theorem getR_full {α : Type} (C : Codec α) : ∀ (R : List (Int × Int)) (u : List α), (∀ r ∈ R, 0 ≤ r.1 ∧ r.1 ≤ 1114111 ∧ 0 ≤ r.2 ∧ r.2 ≤ 1114111) → getR C R.length (C.nums (rnums R) ++ u) = some (R, u) := by
  intro R
  induction R with
  | nil => intro u _; rfl
  | cons r R ih =>
    intro u h
    have hr := h r (by simp)
    have hb := C.big
    have e : C.nums (rnums (r :: R)) ++ u = C.num r.1.toNat ++ (C.num r.2.toNat ++ (C.nums (rnums R) ++ u)) := by simp [rnums, Codec.nums]
    rw [e, List.length_cons]
    simp only [getR]
    rw [C.get_num _ _ (by omega)]
    simp only
    rw [C.get_num _ _ (by omega)]
    simp only
    rw [ih u (fun x hx => h x (by simp [hx]))]
    simp only
    rw [Int.toNat_of_nonneg hr.1, Int.toNat_of_nonneg hr.2.2.1]
theorem right_mem : ∀ (R : List (Int × Int)) (m : Int), rightFrom m R = true → ∀ r ∈ R, 0 ≤ r.1 ∧ r.1 ≤ 1114111 ∧ 0 ≤ r.2 ∧ r.2 ≤ 1114111 := by
  intro R
  induction R with
  | nil => intro m _ r hr; simp at hr
  | cons a R ih =>
    intro m h r hr
    simp only [rightFrom, Bool.and_eq_true] at h
    rcases List.mem_cons.1 hr with rfl | hr
    · have := h.1
      simp [okG, dom] at this
      omega
    · exact ih _ h.2 r hr
theorem right_ok {R : List (Int × Int)} (h : rightB R = true) : R.length ≤ 5000 ∧ ∀ r ∈ R, 0 ≤ r.1 ∧ r.1 ≤ 1114111 ∧ 0 ≤ r.2 ∧ r.2 ≤ 1114111 := by
  simp only [rightB, Bool.and_eq_true, decide_eq_true_eq] at h
  exact ⟨h.1, right_mem R 0 h.2⟩
/-- what an instruction that may be is like -/
inductive Fit (n k : Int) : In → Prop where
  | rune (x : Int) (R : List (Int × Int)) : 0 ≤ x → x < n → 0 < R.length → rightB R = true → Fit n k ⟨1, x, 0, 0, R⟩
  | alt (x y : Int) : 0 ≤ x → x < n → 0 ≤ y → y < n → Fit n k ⟨2, x, y, 0, []⟩
  | cap (x a : Int) : 0 ≤ x → x < n → 0 ≤ a → a < k → Fit n k ⟨3, x, 0, a, []⟩
  | assert (x a : Int) : 0 ≤ x → x < n → 0 ≤ a → a ≤ 32 → Fit n k ⟨4, x, 0, a, []⟩
  | mtch (a : Int) : 0 ≤ a → a < 100 → Fit n k ⟨5, 0, 0, a, []⟩
  | fail : Fit n k ⟨6, 0, 0, 0, []⟩
  | nop (x : Int) : 0 ≤ x → x < n → Fit n k ⟨7, x, 0, 0, []⟩
theorem fit_of {I : In} {n k : Int} (h : I.okB n k = true) : Fit n k I := by
  obtain ⟨op, x, y, a, R⟩ := I
  simp only [In.okB, Bool.and_eq_true] at h
  obtain ⟨⟨⟨h1, h2⟩, h3⟩, h4⟩ := h
  by_cases e1 : op = 1
  · subst e1
    simp [isTargetB, hasXB, hasYB, isArgB, isRangesB, belowB] at h1 h2 h3 h4
    subst h2; subst h3
    exact Fit.rune x R h1.1 h1.2 (by have := h4.1; cases R <;> simp_all) h4.2
  by_cases e2 : op = 2
  · subst e2
    simp [isTargetB, hasXB, hasYB, isArgB, isRangesB, belowB] at h1 h2 h3 h4
    subst h3; subst h4
    exact Fit.alt x y h1.1 h1.2 h2.1 h2.2
  by_cases e3 : op = 3
  · subst e3
    simp [isTargetB, hasXB, hasYB, isArgB, isRangesB, belowB] at h1 h2 h3 h4
    subst h2; subst h4
    exact Fit.cap x a h1.1 h1.2 h3.1 h3.2
  by_cases e4 : op = 4
  · subst e4
    simp [isTargetB, hasXB, hasYB, isArgB, isRangesB, belowB, assertB] at h1 h2 h3 h4
    subst h2; subst h4
    exact Fit.assert x a h1.1 h1.2 (by omega) (by omega)
  by_cases e5 : op = 5
  · subst e5
    simp [isTargetB, hasXB, hasYB, isArgB, isRangesB, belowB] at h1 h2 h3 h4
    subst h1; subst h2; subst h4
    exact Fit.mtch a h3.1 h3.2
  by_cases e6 : op = 6
  · subst e6
    simp [isTargetB, hasXB, hasYB, isArgB, isRangesB, belowB] at h1 h2 h3 h4
    subst h1; subst h2; subst h3; subst h4
    exact Fit.fail
  by_cases e7 : op = 7
  · subst e7
    simp [isTargetB, hasXB, hasYB, isArgB, isRangesB, belowB] at h1 h2 h3 h4
    subst h2; subst h3; subst h4
    exact Fit.nop x h1.1 h1.2
  simp [isArgB, e1, e2, e3, e4, e5, e6, e7] at h3
theorem getI_full {α : Type} (C : Codec α) {L : Nat} (hL : 5000 ≤ L) {n k : Int} {I : In} (h : Fit n k I) (hn : n ≤ 20000) (hk : k ≤ 1002) (u : List α) : getI C L (C.inst I ++ u) = some (I, u) := by
  have hb := C.big
  unfold getI
  cases h with
  | rune x R h1 h2 h3 h4 =>
    have e : C.inst ⟨1, x, 0, 0, R⟩ ++ u = C.op 1 ++ (C.num x.toNat ++ (C.num R.length ++ (C.nums (rnums R) ++ u))) := by simp [Codec.inst, Codec.nums, In.nums]
    obtain ⟨r1, r2⟩ := right_ok h4
    rw [e, C.get_op _ _ (by omega) (by omega)]
    simp only [getF]
    rw [C.get_num _ _ (by omega)]
    simp only
    rw [C.get_num _ _ (by omega)]
    simp only
    simp [getR_full C R u r2, show ¬ (L < R.length) by omega, Int.toNat_of_nonneg h1]
  | alt x y h1 h2 h3 h4 =>
    have e : C.inst ⟨2, x, y, 0, []⟩ ++ u = C.op 2 ++ (C.num x.toNat ++ (C.num y.toNat ++ u)) := by simp [Codec.inst, Codec.nums, In.nums]
    rw [e, C.get_op _ _ (by omega) (by omega)]
    simp only [getF]
    rw [C.get_num _ _ (by omega)]
    simp only
    rw [C.get_num _ _ (by omega)]
    simp [Int.toNat_of_nonneg h1, Int.toNat_of_nonneg h3]
  | cap x a h1 h2 h3 h4 =>
    have e : C.inst ⟨3, x, 0, a, []⟩ ++ u = C.op 3 ++ (C.num a.toNat ++ (C.num x.toNat ++ u)) := by simp [Codec.inst, Codec.nums, In.nums]
    rw [e, C.get_op _ _ (by omega) (by omega)]
    simp only [getF]
    rw [C.get_num _ _ (by omega)]
    simp only
    rw [C.get_num _ _ (by omega)]
    simp [Int.toNat_of_nonneg h1, Int.toNat_of_nonneg h3]
  | assert x a h1 h2 h3 h4 =>
    have e : C.inst ⟨4, x, 0, a, []⟩ ++ u = C.op 4 ++ (C.num a.toNat ++ (C.num x.toNat ++ u)) := by simp [Codec.inst, Codec.nums, In.nums]
    rw [e, C.get_op _ _ (by omega) (by omega)]
    simp only [getF]
    rw [C.get_num _ _ (by omega)]
    simp only
    rw [C.get_num _ _ (by omega)]
    simp [Int.toNat_of_nonneg h1, Int.toNat_of_nonneg h3]
  | mtch a h1 h2 =>
    have e : C.inst ⟨5, 0, 0, a, []⟩ ++ u = C.op 5 ++ (C.num a.toNat ++ u) := by simp [Codec.inst, Codec.nums, In.nums]
    rw [e, C.get_op _ _ (by omega) (by omega)]
    simp only [getF]
    rw [C.get_num _ _ (by omega)]
    simp [Int.toNat_of_nonneg h1]
  | fail =>
    have e : C.inst ⟨6, 0, 0, 0, []⟩ ++ u = C.op 6 ++ u := by simp [Codec.inst, Codec.nums, In.nums]
    rw [e, C.get_op _ _ (by omega) (by omega)]
    simp [getF]
  | nop x h1 h2 =>
    have e : C.inst ⟨7, x, 0, 0, []⟩ ++ u = C.op 7 ++ (C.num x.toNat ++ u) := by simp [Codec.inst, Codec.nums, In.nums]
    rw [e, C.get_op _ _ (by omega) (by omega)]
    simp only [getF]
    rw [C.get_num _ _ (by omega)]
    simp [Int.toNat_of_nonneg h1]
theorem getI_sound {α : Type} (C : Codec α) {L : Nat} {l u : List α} {I : In} (h : getI C L l = some (I, u)) : l = C.inst I ++ u := by
  unfold getI at h
  split at h
  · simp at h
  rename_i op l1 ho
  unfold getF at h
  by_cases e1 : op = 1
  · subst e1
    have e0 := C.op_get _ _ _ ho (by omega) (by omega)
    simp only [if_true] at h
    split at h
    · simp at h
    rename_i x l2 h1
    split at h
    · simp at h
    rename_i c l3 h2
    split at h
    · simp at h
    split at h
    · simp at h
    rename_i R l4 h3
    simp at h
    rw [← h.1, ← h.2, e0, (C.num_get _ _ _ h1).1, (C.num_get _ _ _ h2).1, getR_sound C _ _ _ _ h3, ← getR_len C _ _ _ _ h3]
    simp [Codec.inst, Codec.nums, In.nums]
  rw [if_neg e1] at h
  by_cases e2 : op = 2
  · subst e2
    have e0 := C.op_get _ _ _ ho (by omega) (by omega)
    simp only [if_true] at h
    split at h
    · simp at h
    rename_i x l2 h1
    split at h
    · simp at h
    rename_i c l3 h2
    simp at h
    rw [← h.1, ← h.2, e0, (C.num_get _ _ _ h1).1, (C.num_get _ _ _ h2).1]
    simp [Codec.inst, Codec.nums, In.nums]
  rw [if_neg e2] at h
  by_cases e3 : op = 3 ∨ op = 4
  · have e0 := C.op_get _ _ _ ho (by omega) (by omega)
    rw [if_pos e3] at h
    split at h
    · simp at h
    rename_i x l2 h1
    split at h
    · simp at h
    rename_i c l3 h2
    simp at h
    rw [← h.1, ← h.2, e0, (C.num_get _ _ _ h1).1, (C.num_get _ _ _ h2).1]
    rcases e3 with rfl | rfl <;> simp [Codec.inst, Codec.nums, In.nums]
  rw [if_neg e3] at h
  by_cases e5 : op = 5
  · subst e5
    have e0 := C.op_get _ _ _ ho (by omega) (by omega)
    simp only [if_true] at h
    split at h
    · simp at h
    rename_i x l2 h1
    simp at h
    rw [← h.1, ← h.2, e0, (C.num_get _ _ _ h1).1]
    simp [Codec.inst, Codec.nums, In.nums]
  rw [if_neg e5] at h
  by_cases e6 : op = 6
  · subst e6
    have e0 := C.op_get _ _ _ ho (by omega) (by omega)
    simp at h
    rw [← h.1, ← h.2, e0]
    simp [Codec.inst, Codec.nums, In.nums]
  rw [if_neg e6] at h
  by_cases e7 : op = 7
  · subst e7
    have e0 := C.op_get _ _ _ ho (by omega) (by omega)
    simp only [if_true] at h
    split at h
    · simp at h
    rename_i x l2 h1
    simp at h
    rw [← h.1, ← h.2, e0, (C.num_get _ _ _ h1).1]
    simp [Codec.inst, Codec.nums, In.nums]
  rw [if_neg e7] at h
  simp at h
theorem getN_sound {α : Type} (C : Codec α) {L : Nat} : ∀ (n : Nat) (l u : List α) (J : List In), getN C L n l = some (J, u) → l = C.insts J ++ u ∧ J.length = n := by
  intro n
  induction n with
  | zero => intro l u J h; simp [getN] at h; simp [h.1, h.2, Codec.insts]
  | succ n ih =>
    intro l u J h
    unfold getN at h
    split at h
    · simp at h
    rename_i I l1 h1
    split at h
    · simp at h
    rename_i J2 l2 h2
    simp at h
    obtain ⟨e2, e3⟩ := ih _ _ _ h2
    rw [← h.1, ← h.2, getI_sound C h1, e2]
    exact ⟨by simp [Codec.insts], by simp [e3]⟩
theorem getN_full {α : Type} (C : Codec α) {L : Nat} (hL : 5000 ≤ L) {m k : Int} (hm : m ≤ 20000) (hk : k ≤ 1002) : ∀ (J : List In) (u : List α), (∀ I ∈ J, Fit m k I) → getN C L J.length (C.insts J ++ u) = some (J, u) := by
  intro J
  induction J with
  | nil => intro u _; rfl
  | cons I J ih =>
    intro u h
    have e : C.insts (I :: J) ++ u = C.inst I ++ (C.insts J ++ u) := by simp [Codec.insts]
    rw [e]
    show (match getI C L (C.inst I ++ (C.insts J ++ u)) with | none => none | some (I, l1) => match getN C L J.length l1 with | none => none | some (J, l2) => some (I :: J, l2)) = _
    rw [getI_full C hL (h I (by simp)) hm hk]
    simp only
    rw [ih u (fun x hx => h x (by simp [hx]))]
theorem may_fit {l : List In} {s k : Int} (h : mayB l s k = true) : l.length ≤ 20000 ∧ 0 ≤ s ∧ s < l.length ∧ 2 ≤ k ∧ k ≤ 1002 ∧ ∀ I ∈ l, Fit (l.length : Int) k I := by
  simp only [mayB, Bool.and_eq_true, decide_eq_true_eq, List.all_eq_true] at h
  obtain ⟨⟨⟨h1, h2⟩, h3⟩, h4⟩ := h
  simp [belowB] at h2
  simp [capsB] at h3
  exact ⟨h1, h2.1, h2.2, by omega, by omega, fun I hI => fit_of (h4 I hI)⟩
end Go.Proofs.YteanndophopplaaDoor
