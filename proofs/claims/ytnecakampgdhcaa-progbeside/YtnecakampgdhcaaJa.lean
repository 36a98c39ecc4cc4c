/- HELPERS: programs side by side, in plain words. -/
import Derived.Test.YtnecakampgdhcaaCc
namespace Go.Proofs.Ytnecakampgdhcaa
open Go.RowKit
set_option linter.unusedVariables false
set_option linter.unusedSimpArgs false
/-- a program -/
structure Pg where
  l : List In
  s : Int
  k : Int
instance : Inhabited Pg := ⟨⟨[], 0, 0⟩⟩
/-- an instruction moved, a match bearing its pattern's number -/
def mvI (d which : Int) (I : In) : In := ⟨I.op, if hasXB I.op then I.x + d else I.x, if hasYB I.op then I.y + d else I.y, if I.op = 5 then which else I.a, I.R⟩
def sumL (L : List Pg) (i : Nat) : Nat := ((L.take i).map fun P => P.l.length).sum
/-- so many instructions lie ahead of the i-th program -/
def ahead (L : List Pg) (i : Nat) : Nat := L.length - 1 + sumL L i
def entry (L : List Pg) (i : Nat) : Int := (ahead L i : Int) + (L.getD i default).s
def altI (L : List Pg) (i : Nat) : In := ⟨2, entry L i, if i + 2 = L.length then entry L (i + 1) else (i : Int) + 1, 0, []⟩
def altsL (L : List Pg) (n : Nat) : List In := (List.range n).map (altI L)
def movedL (L : List Pg) (n : Nat) : List In := (List.range n).flatMap fun i => (L.getD i default).l.map (mvI (ahead L i) i)
def joinI (L : List Pg) : List In := altsL L (L.length - 1) ++ movedL L L.length
def joinS (L : List Pg) : Int := if L.length = 1 then (L.getD 0 default).s else 0
def capsTo (L : List Pg) : Nat → Int
  | 0 => 0
  | i + 1 => max (capsTo L i) (L.getD i default).k
def allMay (L : List Pg) : Bool := L.all fun P => mayB P.l P.s P.k
def joinC (L : List Pg) : Int := if L.length < 1 ∨ 100 < L.length then 1 else if allMay L = false then 90 else if 20000 < ahead L L.length then 3 else 0
theorem sumL_succ (L : List Pg) (i : Nat) (hi : i < L.length) : sumL L (i + 1) = sumL L i + (L.getD i default).l.length := by
  unfold sumL
  rw [List.take_succ_eq_append_getElem hi, List.map_append, List.sum_append]
  simp [List.getD_eq_getElem?_getD, List.getElem?_eq_getElem hi]
theorem ahead_succ (L : List Pg) (i : Nat) (hi : i < L.length) : ahead L (i + 1) = ahead L i + (L.getD i default).l.length := by unfold ahead; rw [sumL_succ L i hi]; omega
theorem ahead_zero (L : List Pg) : ahead L 0 = L.length - 1 := by simp [ahead, sumL]
theorem ahead_mono (L : List Pg) : ∀ (j i : Nat), i ≤ j → j ≤ L.length → ahead L i ≤ ahead L j := by
  intro j
  induction j with
  | zero => intro i h _; obtain rfl : i = 0 := Nat.le_zero.1 h; exact Nat.le_refl _
  | succ j ih =>
    intro i h hj
    by_cases e : i = j + 1
    · subst e; exact Nat.le_refl _
    · have := ih i (by omega) (by omega); rw [ahead_succ L j (by omega)]; omega
theorem movedL_succ (L : List Pg) (i : Nat) : movedL L (i + 1) = movedL L i ++ (L.getD i default).l.map (mvI (ahead L i) i) := by
  unfold movedL
  rw [List.range_succ, List.flatMap_append]
  simp
theorem movedL_len (L : List Pg) : ∀ i, i ≤ L.length → (movedL L i).length + (L.length - 1) = ahead L i := by
  intro i
  induction i with
  | zero => intro _; simp [movedL, ahead, sumL]
  | succ i ih => intro h; rw [movedL_succ, ahead_succ L i (by omega)]; have := ih (by omega); simp; omega
theorem altsL_len (L : List Pg) (n : Nat) : (altsL L n).length = n := by simp [altsL]
theorem altsL_succ (L : List Pg) (i : Nat) : altsL L (i + 1) = altsL L i ++ [altI L i] := by simp [altsL, List.range_succ]
theorem joinI_len (L : List Pg) : (joinI L).length = ahead L L.length := by unfold joinI; rw [List.length_append, altsL_len]; have := movedL_len L L.length (Nat.le_refl _); omega
theorem allMay_get {L : List Pg} (h : allMay L = true) (i : Nat) (hi : i < L.length) : mayB (L.getD i default).l (L.getD i default).s (L.getD i default).k = true := by
  unfold allMay at h
  rw [List.all_eq_true] at h
  have := h L[i] (List.getElem_mem hi)
  simpa [List.getD_eq_getElem?_getD, List.getElem?_eq_getElem hi] using this
theorem may_ok {l : List In} {s k : Int} (h : mayB l s k = true) : l.length ≤ 20000 ∧ 0 ≤ s ∧ s < l.length ∧ 2 ≤ k ∧ k ≤ 1002 ∧ ∀ I ∈ l, I.okB l.length k = true := by
  simp only [mayB, belowB, capsB, Bool.and_eq_true, decide_eq_true_eq, List.all_eq_true] at h
  exact ⟨h.1.1.1, h.1.1.2.1, h.1.1.2.2, h.1.2.1.1, h.1.2.1.2, h.2⟩
theorem ok_op {I : In} {n k : Int} (h : I.okB n k = true) : (I.op = 1 ∨ I.op = 2 ∨ I.op = 3 ∨ I.op = 4 ∨ I.op = 5 ∨ I.op = 6 ∨ I.op = 7) := by
  simp only [In.okB, Bool.and_eq_true] at h
  have h3 := h.1.2
  unfold isArgB at h3
  split at h3
  · rename_i e; simp at e; omega
  · split at h3
    · rename_i e; simp at e; omega
    · split at h3
      · rename_i e; simp at e; omega
      · split at h3
        · rename_i e; simp at e; omega
        · cases h3
theorem ok_x {I : In} {n k : Int} (h : I.okB n k = true) : 0 ≤ I.x ∧ (I.x < n ∨ I.x = 0) ∧ 0 ≤ I.y ∧ (I.y < n ∨ I.y = 0) := by
  simp only [In.okB, Bool.and_eq_true, isTargetB] at h
  have h1 := h.1.1.1
  have h2 := h.1.1.2
  split at h1 <;> split at h2 <;> simp [belowB] at h1 h2 <;> omega
theorem ok_len {I : In} {n k : Int} (h : I.okB n k = true) : I.R.length ≤ 5000 := by
  simp only [In.okB, Bool.and_eq_true, isRangesB] at h
  have h2 := h.2
  split at h2
  · simp at h2
    exact rightB_len h2.2
  · simp at h2
    simp [h2]
/-- the programs with a number below i may be -/
def mayTo (L : List Pg) (i : Nat) : Prop := ∀ j, j < i → mayB (L.getD j default).l (L.getD j default).s (L.getD j default).k = true
theorem sumL_le {L : List Pg} : ∀ i, i ≤ L.length → mayTo L i → sumL L i ≤ 20000 * i := by
  intro i
  induction i with
  | zero => intro _ _; simp [sumL]
  | succ i ih =>
    intro h hm
    rw [sumL_succ L i (by omega)]
    have := ih (by omega) (fun j hj => hm j (by omega))
    have := (may_ok (hm i (by omega))).1
    omega
theorem ahead_le {L : List Pg} (i : Nat) (hi : i ≤ L.length) (hL : L.length ≤ 100) (hm : mayTo L i) : ahead L i ≤ 2000100 := by
  unfold ahead
  have := sumL_le i hi hm
  omega
theorem mayTo_all {L : List Pg} (h : allMay L = true) : mayTo L L.length := fun j hj => allMay_get h j hj
theorem all_mayTo {L : List Pg} (h : mayTo L L.length) : allMay L = true := by
  unfold allMay
  rw [List.all_eq_true]
  intro P hP
  obtain ⟨j, hj, rfl⟩ := List.getElem_of_mem hP
  have := h j hj
  simpa [List.getD_eq_getElem?_getD, List.getElem?_eq_getElem hj] using this
theorem not_all {L : List Pg} (i : Nat) (hi : i < L.length) (h : mayB (L.getD i default).l (L.getD i default).s (L.getD i default).k = false) : allMay L = false := by
  cases g : allMay L with
  | false => rfl
  | true => have := allMay_get g i hi; rw [h] at this; cases this
theorem entry_le {L : List Pg} (i : Nat) (hi : i < L.length) (hL : L.length ≤ 100) (hm : mayTo L L.length) : 0 ≤ entry L i ∧ entry L i ≤ 2020100 := by
  have h1 := ahead_le i (by omega) hL (fun j hj => hm j (by omega))
  have h2 := may_ok (hm i hi)
  unfold entry
  omega
end Go.Proofs.Ytnecakampgdhcaa
