/- HELPERS: what the calls on classes answer, told by their runes; the comparison of two lists of ranges. -/
import Derived.Test.YtjglehklfdhgaabDoorMem
import Derived.Test.YtjglehklfdhgaabDoorAwake
namespace Go.Proofs.YtjglehklfdhgaabDoor
open Go.Shelf Go.RowKit Go.Lib Go.Sort Go.Mx
set_option linter.unusedVariables false
set_option linter.unusedSimpArgs false
theorem RowAt.next {w w' : World} {v : Value} {C : List (Int × Int)} (h : RowAt w.heap.size w v C) (hb : Below w.heap.size w w') : RowAt w'.heap.size w' v C := h.below hb (Nat.le_refl _) hb.size
/-- the classes that lie in memory -/
def All (w : World) (S : List (Value × List (Int × Int))) : Prop := ∀ x ∈ S, RowAt w.heap.size w x.1 x.2
theorem All.next {w w' : World} {S : List (Value × List (Int × Int))} (h : All w S) (hb : Below w.heap.size w w') : All w' S := fun x hx => (h x hx).next hb
theorem All.add {w : World} {S : List (Value × List (Int × Int))} {v : Value} {C : List (Int × Int)} (h : All w S) (hc : RowAt w.heap.size w v C) : All w ((v, C) :: S) := by
  intro x hx
  rcases List.mem_cons.1 hx with rfl | hx
  · exact hc
  · exact h x hx
theorem rightB_of {C : List (Int × Int)} (h : rightFrom 0 C = true) (hl : C.length ≤ 5000) : rightB C = true := by unfold rightB; simp [h, hl]
theorem rightB_from {C : List (Int × Int)} (h : rightB C = true) : rightFrom 0 C = true ∧ C.length ≤ 5000 := by
  unfold rightB at h
  simp only [Bool.and_eq_true, decide_eq_true_eq] at h
  exact ⟨h.2, h.1⟩
theorem right_has {C : List (Int × Int)} (h : rightFrom 0 C = true) (r : Int) : (dom r && hasB C r) = hasB C r := by
  cases hc : hasB C r
  · simp
  · simp [right_dom h r hc]
/-- an answer that is a class -/
def Gives (w w' : World) (e : Ending) (C : List (Int × Int)) : Prop :=
  ∃ ad cap, e = .returned (.tuple #[.slice ad C.length cap, .int .i64 0]) ∧ RowAt w'.heap.size w' (.slice ad C.length cap) C ∧ Below w.heap.size w w'
theorem gives_of {N : Nat} {w w' : World} {v : Value} {e : Ending} {C : List (Int × Int)} (he : e = .returned (.tuple #[v, .int .i64 0])) (ho : w'.ownsRow N 44 2 v C.length (fl C)) (hb : Below w.heap.size w w') : Gives w w' e C := by
  have hr := row_own rfl ho
  obtain ⟨ad, cap, rfl, h⟩ := hr
  exact ⟨ad, cap, he, ⟨ad, cap, rfl, h⟩, hb⟩
/-- what gather gives, where the class that it must be is known -/
theorem gather_eq {w w' : World} {e : Ending} {X C : List (Int × Int)} (h : GatherEnd w.heap.size w w' e (allParts X)) (hX : X.all okR = true) (hC : rightFrom 0 C = true) (hl : C.length ≤ 5000) (hr : ∀ r, (dom r && hasB X r) = hasB C r) : Gives w w' e C := by
  obtain ⟨D, hp, hs, hb, hv⟩ := h
  obtain ⟨h1, h2⟩ := gather_means X D hX hp hs
  have hE : mergeL D = C := right_one _ _ 0 0 h1 hC (fun r => by rw [h2, hr])
  rw [hE, if_pos hl] at hv
  obtain ⟨v, he, ho⟩ := hv
  exact gives_of he ho hb
/-- what gather gives, where the parts are few -/
theorem gather_few {w w' : World} {e : Ending} {X : List (Int × Int)} (h : GatherEnd w.heap.size w w' e (allParts X)) (hX : X.all okR = true) (hl : (allParts X).length ≤ 5000) :
    ∃ C, Gives w w' e C ∧ rightFrom 0 C = true ∧ C.length ≤ (allParts X).length ∧ ∀ r, hasB C r = (dom r && hasB X r) := by
  obtain ⟨D, hp, hs, hb, hv⟩ := h
  obtain ⟨h1, h2⟩ := gather_means X D hX hp hs
  have hlen : (mergeL D).length ≤ (allParts X).length := by have := mergeL_len D; rw [hp.length_eq] at this; exact this
  rw [if_pos (by omega)] at hv
  obtain ⟨v, he, ho⟩ := hv
  exact ⟨mergeL D, gives_of he ho hb, h1, hlen, h2⟩
/-- what gather gives at all -/
theorem gather_all {w w' : World} {e : Ending} {X : List (Int × Int)} (h : GatherEnd w.heap.size w w' e (allParts X)) (hX : X.all okR = true) :
    (∃ C, Gives w w' e C ∧ rightFrom 0 C = true ∧ C.length ≤ 5000 ∧ ∀ r, hasB C r = (dom r && hasB X r)) ∨ (e = .returned (.tuple #[.slice none 0 0, .int .i64 3]) ∧ Below w.heap.size w w') := by
  obtain ⟨D, hp, hs, hb, hv⟩ := h
  obtain ⟨h1, h2⟩ := gather_means X D hX hp hs
  by_cases hl : (mergeL D).length ≤ 5000
  · rw [if_pos hl] at hv
    obtain ⟨v, he, ho⟩ := hv
    exact .inl ⟨mergeL D, gives_of he ho hb, h1, hl, h2⟩
  · rw [if_neg hl] at hv
    exact .inr ⟨hv, hb⟩
/-- Norm of any ranges -/
theorem normS (L : List (Int × Int)) (ad : Option Addr) (n cap : Nat) (w : World) (hn : n = L.length) (hS : n ≤ 2199023255552) (hl : RowAt w.heap.size w (.slice ad n cap) L) :
    Calls Tryd.prog 6 #[.slice ad n cap] w fun e w' => (∃ C, L.all okR = true ∧ Gives w w' e C ∧ rightFrom 0 C = true ∧ C.length ≤ 5000 ∧ ∀ r, hasB C r = (dom r && hasB L r)) ∨ (∃ c : Int, 1 ≤ c ∧ e = .returned (.tuple #[.slice none 0 0, .int .i64 c]) ∧ Below w.heap.size w w') := by
  refine (norm26 L ad n cap w hn hS hl).mono fun e w' h => ?_
  unfold NormEnd at h
  split at h
  · rename_i hX
    rcases gather_all h hX with ⟨C, h1, h2, h3, h4⟩ | ⟨h1, h2⟩
    · exact .inl ⟨C, hX, h1, h2, h3, h4⟩
    · exact .inr ⟨3, by omega, h1, h2⟩
  · exact .inr ⟨10, by omega, h.1, h.2⟩
/-- Norm, where the class is known -/
theorem norm_eq (L C : List (Int × Int)) (ad : Option Addr) (n cap : Nat) (w : World) (hn : n = L.length) (hS : n ≤ 2199023255552) (hl : RowAt w.heap.size w (.slice ad n cap) L) (hX : L.all okR = true) (hC : rightFrom 0 C = true) (hlC : C.length ≤ 5000) (hr : ∀ r, (dom r && hasB L r) = hasB C r) :
    Calls Tryd.prog 6 #[.slice ad n cap] w fun e w' => Gives w w' e C := by
  refine (norm26 L ad n cap w hn hS hl).mono fun e w' h => ?_
  unfold NormEnd at h
  rw [if_pos hX] at h
  exact gather_eq h hX hC hlC hr
theorem union_eq (A B C : List (Int × Int)) (aa ab : Option Addr) (na nb ca cb : Nat) (w : World) (hna : na = A.length) (hnb : nb = B.length) (hA : RowAt w.heap.size w (.slice aa na ca) A) (hB : RowAt w.heap.size w (.slice ab nb cb) B)
    (rA : rightFrom 0 A = true) (lA : A.length ≤ 5000) (rB : rightFrom 0 B = true) (lB : B.length ≤ 5000) (hC : rightFrom 0 C = true) (hlC : C.length ≤ 5000) (hr : ∀ r, (hasB A r || hasB B r) = hasB C r) :
    Calls Tryd.prog 7 #[.slice aa na ca, .slice ab nb cb] w fun e w' => Gives w w' e C := by
  refine (union27 A B aa ab na nb ca cb w hna hnb (by omega) (by omega) hA hB).mono fun e w' h => ?_
  unfold UnionEnd at h
  rw [if_pos (by rw [rightB_of rA lA, rightB_of rB lB]; rfl)] at h
  refine gather_eq h ?_ hC hlC (fun r => ?_)
  · rw [List.all_append, right_okR rA, right_okR rB]; rfl
  · rw [hasB_append, hr, right_has hC]
theorem union_few (A B : List (Int × Int)) (aa ab : Option Addr) (na nb ca cb : Nat) (w : World) (hna : na = A.length) (hnb : nb = B.length) (hA : RowAt w.heap.size w (.slice aa na ca) A) (hB : RowAt w.heap.size w (.slice ab nb cb) B)
    (rA : rightFrom 0 A = true) (rB : rightFrom 0 B = true) (lA : A.length ≤ 2000) (lB : B.length ≤ 2000) :
    Calls Tryd.prog 7 #[.slice aa na ca, .slice ab nb cb] w fun e w' => ∃ C, Gives w w' e C ∧ rightFrom 0 C = true ∧ C.length ≤ 5000 ∧ ∀ r, hasB C r = (hasB A r || hasB B r) := by
  refine (union27 A B aa ab na nb ca cb w hna hnb (by omega) (by omega) hA hB).mono fun e w' h => ?_
  unfold UnionEnd at h
  rw [if_pos (by rw [rightB_of rA (by omega), rightB_of rB (by omega)]; rfl)] at h
  have hX : (A ++ B).all okR = true := by rw [List.all_append, right_okR rA, right_okR rB]; rfl
  have hg : ∀ g ∈ A ++ B, goodG g := fun g hg => by
    rcases List.mem_append.1 hg with h | h
    · exact right_good A 0 rA g h
    · exact right_good B 0 rB g h
  have hl := allParts_one (A ++ B) hg
  rw [List.length_append] at hl
  obtain ⟨C, h1, h2, h3, h4⟩ := gather_few h hX (by omega)
  exact ⟨C, h1, h2, by omega, fun r => by rw [h4, hasB_append, Bool.and_or_distrib_left, right_has rA, right_has rB]⟩
theorem neg_few (A : List (Int × Int)) (ad : Option Addr) (n cap : Nat) (w : World) (hn : n = A.length) (hA : RowAt w.heap.size w (.slice ad n cap) A) (rA : rightFrom 0 A = true) (lA : A.length ≤ 2000) :
    Calls Tryd.prog 8 #[.slice ad n cap] w fun e w' => ∃ C, Gives w w' e C ∧ rightFrom 0 C = true ∧ C.length ≤ 5000 ∧ ∀ r, hasB C r = (dom r && !hasB A r) := by
  refine (negate28 A ad n cap w hn (by omega) hA).mono fun e w' h => ?_
  unfold NegEnd at h
  rw [if_pos (rightB_of rA (by omega))] at h
  have hX := neg_okR A 0 0 rA (by omega)
  have h1 := negFrom_len A 0
  have h2 := allParts_len (negFrom 0 A)
  obtain ⟨C, g1, g2, g3, g4⟩ := gather_few h hX (by omega)
  refine ⟨C, g1, g2, by omega, fun r => ?_⟩
  rw [g4, neg_has r A 0 0 rA (by omega)]
  cases hd : dom r
  · simp
  · have : 0 ≤ r ∧ r ≤ 1114111 := by simp [dom] at hd; omega
    simp [this.1, this.2]
theorem neg_eq (A C : List (Int × Int)) (ad : Option Addr) (n cap : Nat) (w : World) (hn : n = A.length) (hA : RowAt w.heap.size w (.slice ad n cap) A) (rA : rightFrom 0 A = true) (lA : A.length ≤ 5000) (hC : rightFrom 0 C = true) (hlC : C.length ≤ 5000) (hr : ∀ r, (dom r && !hasB A r) = hasB C r) :
    Calls Tryd.prog 8 #[.slice ad n cap] w fun e w' => Gives w w' e C := by
  refine (negate28 A ad n cap w hn (by omega) hA).mono fun e w' h => ?_
  unfold NegEnd at h
  rw [if_pos (rightB_of rA lA)] at h
  refine gather_eq h (neg_okR A 0 0 rA (by omega)) hC hlC (fun r => ?_)
  rw [neg_has r A 0 0 rA (by omega), ← hr]
  cases hd : dom r
  · simp
  · have : 0 ≤ r ∧ r ≤ 1114111 := by simp [dom] at hd; omega
    simp [this.1, this.2]
def foldB (A : List (Int × Int)) (r : Int) : Bool := hasB A r || (dom r && hasB A (otherI r))
theorem fold_has {A : List (Int × Int)} (rA : rightFrom 0 A = true) (r : Int) : (dom r && hasB (A ++ allFold A) r) = foldB A r := by
  rw [hasB_append, allFold_has, Bool.and_or_distrib_left, right_has rA]
  unfold foldB
  by_cases ho : otherI r = r
  · simp only [ho, ne_eq, not_true, decide_false, Bool.false_and, Bool.and_false, Bool.or_false]
    cases hc : hasB A r <;> simp
  · simp [ho]
theorem fold_few (A : List (Int × Int)) (ad : Option Addr) (n cap : Nat) (w : World) (hn : n = A.length) (hA : RowAt w.heap.size w (.slice ad n cap) A) (rA : rightFrom 0 A = true) (lA : A.length ≤ 2000) :
    Calls Tryd.prog 9 #[.slice ad n cap] w fun e w' => ∃ C, Gives w w' e C ∧ rightFrom 0 C = true ∧ C.length ≤ 5000 ∧ ∀ r, hasB C r = foldB A r := by
  refine (fold29 A ad n cap w hn (by omega) hA).mono fun e w' h => ?_
  unfold FoldEnd at h
  rw [if_pos (rightB_of rA (by omega))] at h
  have hX : (A ++ allFold A).all okR = true := by rw [List.all_append, right_okR rA, allFold_okR]; rfl
  have h1 := allFold_short A (rightB_of rA (by omega))
  have h2 := allParts_len (A ++ allFold A)
  rw [List.length_append] at h2
  obtain ⟨C, g1, g2, g3, g4⟩ := gather_few h hX (by omega)
  exact ⟨C, g1, g2, by omega, fun r => by rw [g4, fold_has rA]⟩
theorem fold_eq (A C : List (Int × Int)) (ad : Option Addr) (n cap : Nat) (w : World) (hn : n = A.length) (hA : RowAt w.heap.size w (.slice ad n cap) A) (rA : rightFrom 0 A = true) (lA : A.length ≤ 5000) (hC : rightFrom 0 C = true) (hlC : C.length ≤ 5000) (hr : ∀ r, foldB A r = hasB C r) :
    Calls Tryd.prog 9 #[.slice ad n cap] w fun e w' => Gives w w' e C := by
  refine (fold29 A ad n cap w hn (by omega) hA).mono fun e w' h => ?_
  unfold FoldEnd at h
  rw [if_pos (rightB_of rA lA)] at h
  refine gather_eq h ?_ hC hlC (fun r => by rw [fold_has rA, hr])
  rw [List.all_append, right_okR rA, allFold_okR]; rfl
theorem other_other (r : Int) : otherI (otherI r) = r := by unfold otherI; repeat' split <;> omega
theorem other_dom (r : Int) : dom (otherI r) = dom r := by
  unfold dom
  congr 1
  simp only [eq_iff_iff]
  unfold otherI
  split
  · omega
  · split <;> omega
/-- folding twice is folding -/
theorem fold_fold {A P : List (Int × Int)} (hP : ∀ r, hasB P r = foldB A r) (rA : rightFrom 0 A = true) (r : Int) : foldB P r = hasB P r := by
  have h1 := hP r
  have h2 := hP (otherI r)
  unfold foldB at h1 h2 ⊢
  rw [other_other, other_dom] at h2
  rw [h1, h2]
  have h3 := right_has rA r
  cases hasB A r <;> cases hasB A (otherI r) <;> cases hd : dom r <;> simp_all
end Go.Proofs.YtjglehklfdhgaabDoor
