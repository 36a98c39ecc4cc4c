/- HELPERS: the document's classes: plain mathematics. -/
import Derived.Test.YtjglehklfdhgaaaDoorClassM
namespace Go.Proofs.YtjglehklfdhgaaaDoor
open Go.RowKit Go.Mx
set_option linter.unusedVariables false
set_option linter.unusedSimpArgs false
def eat : Int × Int → List (Int × Int) → (Int × Int) × List (Int × Int)
  | x, [] => (x, [])
  | x, g :: t => if g.1 ≤ x.2 + 1 then eat (min x.1 g.1, max x.2 g.2) t else (x, g :: t)
def layL : List (Int × Int) → Int × Int → List (Int × Int)
  | [], x => [x]
  | g :: t, x => if g.2 < x.1 - 1 then g :: layL t x else (eat x (g :: t)).1 :: (eat x (g :: t)).2
/-- a list that rises, two apart -/
def rise : Int → List (Int × Int) → Prop
  | _, [] => True
  | ls, g :: t => ls ≤ g.1 ∧ g.1 ≤ g.2 ∧ rise (g.2 + 2) t
def up (hi : Int) (L : List (Int × Int)) : Prop := ∀ g ∈ L, g.2 ≤ hi
theorem rise_low {ls ls' : Int} {L : List (Int × Int)} (h : rise ls L) (hl : ls' ≤ ls) : rise ls' L := by
  cases L with
  | nil => trivial
  | cons g t => exact ⟨by have := h.1; omega, h.2⟩
theorem rise_mem {L : List (Int × Int)} : ∀ {ls : Int}, rise ls L → ∀ g ∈ L, ls ≤ g.1 ∧ g.1 ≤ g.2 := by
  induction L with
  | nil => intro ls h g hg; cases hg
  | cons x t ih =>
    intro ls h g hg
    rcases List.mem_cons.1 hg with rfl | hg
    · exact ⟨h.1, h.2.1⟩
    · have := ih h.2.2 g hg
      have := h.1
      have := h.2.1
      omega
theorem in_merge (x g : Int × Int) (r : Int) (h1 : g.1 ≤ x.2 + 1) (h2 : x.1 - 1 ≤ g.2) (h3 : x.1 ≤ x.2) (h4 : g.1 ≤ g.2) : inG (min x.1 g.1, max x.2 g.2) r = (inG x r || inG g r) := by
  rw [Bool.eq_iff_iff]
  simp [inG]
  omega
theorem eat_has (r : Int) (l : List (Int × Int)) : ∀ (x : Int × Int) (ls : Int), x.1 ≤ x.2 → rise ls l → (∀ g ∈ l, x.1 - 1 ≤ g.2) → hasB ((eat x l).1 :: (eat x l).2) r = (inG x r || hasB l r) := by
  induction l with
  | nil => intro x ls h1 h2 h3; rfl
  | cons g t ih =>
    intro x ls h1 h2 h3
    unfold eat
    split
    · rename_i h4
      have h5 := h3 g (by simp)
      have h6 := h2.2.1
      rw [ih (min x.1 g.1, max x.2 g.2) (g.2 + 2) (by simp; omega) h2.2.2 ?_, in_merge x g r h4 h5 h1 h6, hasB_cons, Bool.or_assoc]
      intro k hk
      have := rise_mem h2.2.2 k hk
      simp
      omega
    · rfl
theorem eat_rise (l : List (Int × Int)) : ∀ (x : Int × Int) (ls lo : Int), x.1 ≤ x.2 → rise ls l → lo ≤ x.1 → lo ≤ ls → rise lo ((eat x l).1 :: (eat x l).2) := by
  induction l with
  | nil => intro x ls lo h1 h2 h3 h4; exact ⟨h3, h1, trivial⟩
  | cons g t ih =>
    intro x ls lo h1 h2 h3 h4
    have h5 := h2.1
    have h6 := h2.2.1
    unfold eat
    split
    · exact ih _ (g.2 + 2) lo (by simp; omega) h2.2.2 (by simp; omega) (by omega)
    · rename_i h7
      exact ⟨h3, h1, by show x.2 + 2 ≤ g.1; omega, h6, h2.2.2⟩
theorem eat_up (hi : Int) (l : List (Int × Int)) : ∀ x : Int × Int, x.2 ≤ hi → up hi l → up hi ((eat x l).1 :: (eat x l).2) := by
  induction l with
  | nil => intro x h1 h2 g hg; simp [eat] at hg; rw [hg]; exact h1
  | cons g t ih =>
    intro x h1 h2
    have h3 := h2 g (by simp)
    unfold eat
    split
    · exact ih _ (by simp; omega) (fun k hk => h2 k (by simp [hk]))
    · intro k hk
      rcases List.mem_cons.1 hk with rfl | hk
      · exact h1
      · exact h2 k hk
theorem lay_rise (l : List (Int × Int)) : ∀ (x : Int × Int) (lo : Int), x.1 ≤ x.2 → rise lo l → lo ≤ x.1 → rise lo (layL l x) := by
  induction l with
  | nil => intro x lo h1 h2 h3; exact ⟨h3, h1, trivial⟩
  | cons g t ih =>
    intro x lo h1 h2 h3
    unfold layL
    split
    · exact ⟨h2.1, h2.2.1, ih x (g.2 + 2) h1 h2.2.2 (by omega)⟩
    · exact eat_rise (g :: t) x lo lo h1 h2 h3 (Int.le_refl _)
theorem lay_has (r : Int) (l : List (Int × Int)) : ∀ (x : Int × Int) (lo : Int), x.1 ≤ x.2 → rise lo l → hasB (layL l x) r = (hasB l r || inG x r) := by
  induction l with
  | nil => intro x lo h1 h2; simp [layL, hasB, inG]
  | cons g t ih =>
    intro x lo h1 h2
    unfold layL
    split
    · rw [hasB_cons, ih x (g.2 + 2) h1 h2.2.2, hasB_cons, Bool.or_assoc]
    · rename_i h3
      rw [eat_has r (g :: t) x lo h1 h2 ?_, Bool.or_comm]
      intro k hk
      rcases List.mem_cons.1 hk with rfl | hk
      · omega
      · have := rise_mem h2.2.2 k hk
        have := h2.2.1
        omega
theorem lay_up (hi : Int) (l : List (Int × Int)) : ∀ x : Int × Int, x.2 ≤ hi → up hi l → up hi (layL l x) := by
  induction l with
  | nil => intro x h1 h2 g hg; simp [layL] at hg; rw [hg]; exact h1
  | cons g t ih =>
    intro x h1 h2
    unfold layL
    split
    · intro k hk
      rcases List.mem_cons.1 hk with rfl | hk
      · exact h2 k (by simp)
      · exact ih x h1 (fun k hk => h2 k (by simp [hk])) k hk
    · exact eat_up hi (g :: t) x h1 h2
theorem eat_len (l : List (Int × Int)) : ∀ x : Int × Int, (eat x l).2.length ≤ l.length := by
  induction l with
  | nil => intro x; simp [eat]
  | cons g t ih =>
    intro x
    unfold eat
    split
    · have := ih (min x.1 g.1, max x.2 g.2); simp; omega
    · simp
theorem lay_len (l : List (Int × Int)) (x : Int × Int) : (layL l x).length ≤ l.length + 1 := by
  induction l with
  | nil => simp [layL]
  | cons g t ih =>
    unfold layL
    split
    · simp; omega
    · have := eat_len (g :: t) x; simp at this ⊢; omega
/-- one part of the domain: what a range adds -/
def cstep (a b : Int) (acc : List (Int × Int)) (g : Int × Int) : List (Int × Int) := if max g.1 a ≤ min g.2 b then layL acc (max g.1 a, min g.2 b) else acc
theorem cfold (a b : Int) (L : List (Int × Int)) : ∀ acc, rise a acc → up b acc →
    rise a (L.foldl (cstep a b) acc) ∧ up b (L.foldl (cstep a b) acc) ∧ ∀ r, hasB (L.foldl (cstep a b) acc) r = (hasB acc r || (decide (a ≤ r) && decide (r ≤ b) && hasB L r)) := by
  induction L with
  | nil => intro acc h1 h2; exact ⟨h1, h2, fun r => by simp [hasB]⟩
  | cons g t ih =>
    intro acc h1 h2
    by_cases h3 : max g.1 a ≤ min g.2 b
    · have e : cstep a b acc g = layL acc (max g.1 a, min g.2 b) := by unfold cstep; rw [if_pos h3]
      have h4 := ih (cstep a b acc g) (by rw [e]; exact lay_rise acc _ a h3 h1 (by simp; omega)) (by rw [e]; exact lay_up b acc _ (by simp; omega) h2)
      refine ⟨h4.1, h4.2.1, fun r => ?_⟩
      rw [List.foldl_cons, h4.2.2 r, e, lay_has r acc _ a h3 h1, hasB_cons, Bool.or_assoc]
      congr 1
      rw [Bool.eq_iff_iff]
      simp [inG]
      constructor
      · rintro (h | h)
        · exact ⟨by omega, .inl (by omega)⟩
        · exact ⟨h.1, .inr h.2⟩
      · rintro ⟨h, h' | h'⟩
        · exact .inl (by omega)
        · exact .inr ⟨h, h'⟩
    · have e : cstep a b acc g = acc := by unfold cstep; rw [if_neg h3]
      have h4 := ih acc h1 h2
      rw [List.foldl_cons, e]
      refine ⟨h4.1, h4.2.1, fun r => ?_⟩
      rw [h4.2.2 r, hasB_cons]
      congr 1
      rw [Bool.eq_iff_iff]
      simp [inG]
      intro h5 h6
      omega
theorem cfold_len (a b : Int) (L : List (Int × Int)) : ∀ acc, (L.foldl (cstep a b) acc).length ≤ acc.length + L.length := by
  induction L with
  | nil => intro acc; simp
  | cons g t ih =>
    intro acc
    have h1 := ih (cstep a b acc g)
    have h2 : (cstep a b acc g).length ≤ acc.length + 1 := by
      unfold cstep
      split
      · exact lay_len _ _
      · omega
    simp only [List.foldl_cons, List.length_cons]
    omega
def lowOf (L : List (Int × Int)) : List (Int × Int) := L.foldl (cstep 0 55295) []
def highOf (L : List (Int × Int)) : List (Int × Int) := L.foldl (cstep 57344 1114111) []
theorem high_right (L : List (Int × Int)) : ∀ ls ls' : Int, rise ls L → up 1114111 L → 57344 ≤ ls → ls' ≤ ls → rightFrom ls' L = true := by
  induction L with
  | nil => intro ls ls' _ _ _ _; rfl
  | cons g t ih =>
    intro ls ls' h1 h2 h3 h4
    have h5 := h2 g (by simp)
    have h6 := h1.1
    have h7 := h1.2.1
    show (okG ls' g && rightFrom (g.2 + 2) t) = true
    rw [good_ok (by unfold goodG; omega) (by omega), ih (g.2 + 2) (g.2 + 2) h1.2.2 (fun k hk => h2 k (by simp [hk])) (by omega) (Int.le_refl _)]
    rfl
theorem low_right (H : List (Int × Int)) (hH : rise 57344 H) (hU : up 1114111 H) (L : List (Int × Int)) : ∀ ls ls' : Int, rise ls L → up 55295 L → 0 ≤ ls → ls' ≤ ls → ls ≤ 57344 → rightFrom ls' (L ++ H) = true := by
  induction L with
  | nil => intro ls ls' _ _ _ h4 h5; exact high_right H 57344 ls' hH hU (by omega) (by omega)
  | cons g t ih =>
    intro ls ls' h1 h2 h3 h4 h5
    have h6 := h2 g (by simp)
    have h7 := h1.1
    have h8 := h1.2.1
    show (okG ls' g && rightFrom (g.2 + 2) (t ++ H)) = true
    rw [good_ok (by unfold goodG; omega) (by omega), ih (g.2 + 2) (g.2 + 2) h1.2.2 (fun k hk => h2 k (by simp [hk])) (by omega) (Int.le_refl _) (by omega)]
    rfl
/-- what class answers is right and has the runes of the domain that its ranges have -/
theorem class_means (L : List (Int × Int)) : rightFrom 0 (lowOf L ++ highOf L) = true ∧ ∀ r, hasB (lowOf L ++ highOf L) r = (dom r && hasB L r) := by
  have h1 := cfold 0 55295 L [] trivial (fun g hg => by cases hg)
  have h2 := cfold 57344 1114111 L [] trivial (fun g hg => by cases hg)
  refine ⟨low_right _ h2.1 h2.2.1 _ 0 0 h1.1 h1.2.1 (by omega) (by omega) (by omega), fun r => ?_⟩
  rw [hasB_append]
  unfold lowOf highOf
  rw [h1.2.2 r, h2.2.2 r, Bool.eq_iff_iff]
  simp [hasB_nil, dom]
  constructor
  · rintro (h | h)
    · exact ⟨by omega, h.2⟩
    · exact ⟨by omega, h.2⟩
  · rintro ⟨h | h, h'⟩
    · exact .inl ⟨by omega, h'⟩
    · exact .inr ⟨by omega, h'⟩
/-- one list: gather's and class's -/
theorem class_gather (L D : List (Int × Int)) (h : L.all okR = true) (hp : D.Perm (allParts L)) (hs : D.Pairwise (fun x y => x.1 ≤ y.1)) : mergeL D = lowOf L ++ highOf L := by
  have h1 := gather_means L D h hp hs
  have h2 := class_means L
  exact right_one _ _ 0 0 h1.1 h2.1 (fun r => by rw [h1.2 r, h2.2 r])
end Go.Proofs.YtjglehklfdhgaaaDoor
