/- HELPERS: what an instruction does at a place, for lock step. -/
import Derived.Test.YtodpmmlfdkdemaaVa
import Derived.Test.YtodpmmlfdkdemaaLx
import Derived.Test.YtodpmmlfdkdemaaLh
namespace Go.Proofs.Ytodpmmlfdkdemaa
open Go.RowKit Go.Lk
set_option linter.unusedVariables false
set_option linter.unusedSimpArgs false
theorem wrap_ok (x : Int) (h : -9223372036854775808 ≤ x) (h2 : x < 9223372036854775808) : IntKind.i64.wrap x = x := by simp [IntKind.wrap, IntKind.bits, IntKind.signed]; omega
theorem may_ok {l : List In} {s k : Int} (h : mayB l s k = true) : l.length ≤ 20000 ∧ 0 ≤ s ∧ s < l.length ∧ 2 ≤ k ∧ k ≤ 1002 ∧ ∀ I ∈ l, I.okB l.length k = true := by
  simp only [mayB, belowB, capsB, Bool.and_eq_true, decide_eq_true_eq, List.all_eq_true] at h
  exact ⟨h.1.1.1, h.1.1.2.1, h.1.1.2.2, h.1.2.1.1, h.1.2.1.2, h.2⟩
theorem ok_op {I : In} {n k : Int} (h : I.okB n k = true) : (I.op = 1 ∨ I.op = 2 ∨ I.op = 3 ∨ I.op = 4 ∨ I.op = 5 ∨ I.op = 6 ∨ I.op = 7) := by
  simp only [In.okB, Bool.and_eq_true] at h
  have h3 := h.1.2
  unfold isArgB at h3
  split at h3
  · rename_i e; simp at e; omega
  · split at h3
    · rename_i e; simp at e; omega
    · split at h3
      · rename_i e; simp at e; omega
      · split at h3
        · rename_i e; simp at e; omega
        · cases h3
def actI (tx : List Int) (I : In) (j : Nat) : Ac :=
  if I.op = 2 then .alt I.x.toNat I.y.toNat
  else if I.op = 7 then .go I.x.toNat
  else if I.op = 3 then .cap I.x.toNat I.a.toNat
  else if I.op = 4 then (if holdsB I.a (atP tx j) = true then .go I.x.toNat else .stop)
  else if I.op = 1 then (if (decide (j < tx.length) && hsB I.R (tx.getD j 0)) = true then .rune I.x.toNat else .stop)
  else if I.op = 5 then .fit I.a
  else .stop
def act (l : List In) (tx : List Int) (j i : Nat) : Ac := actI tx (l.getD i default) j
def prOf (l : List In) (tx : List Int) (S K : Nat) : Pr := ⟨act l tx, l.length, S, K⟩
theorem ok_x {I : In} {n k : Int} (h : I.okB n k = true) (hx : hasXB I.op = true) : 0 ≤ I.x ∧ I.x < n := by
  simp only [In.okB, Bool.and_eq_true, isTargetB, hx, if_true, belowB, decide_eq_true_eq] at h
  exact h.1.1.1
theorem ok_y {I : In} {n k : Int} (h : I.okB n k = true) (hy : hasYB I.op = true) : 0 ≤ I.y ∧ I.y < n := by
  simp only [In.okB, Bool.and_eq_true, isTargetB, hy, if_true, belowB, decide_eq_true_eq] at h
  exact h.1.1.2
theorem ok_a {I : In} {n k : Int} (h : I.okB n k = true) (ho : I.op = 3) : 0 ≤ I.a ∧ I.a < k := by
  simp only [In.okB, Bool.and_eq_true, isArgB, ho] at h
  have := h.1.2
  simp [belowB] at this
  exact this
theorem ok_a5 {I : In} {n k : Int} (h : I.okB n k = true) (ho : I.op = 5) : 0 ≤ I.a ∧ I.a < 100 := by
  simp only [In.okB, Bool.and_eq_true, isArgB, ho] at h
  have := h.1.2
  simp [belowB] at this
  exact this
theorem ok_R {I : In} {n k : Int} (h : I.okB n k = true) (ho : I.op = 1) : rightB I.R = true := by
  simp only [In.okB, Bool.and_eq_true, isRangesB, ho] at h
  have := h.2
  simp at this
  exact this.2
theorem ok_R0 {I : In} {n k : Int} (h : I.okB n k = true) (ho : I.op ≠ 1) : I.R = [] := by
  simp only [In.okB, Bool.and_eq_true, isRangesB] at h
  have := h.2
  rw [if_neg (by simpa using ho)] at this
  simpa using this
theorem actI_ok {tx : List Int} {I : In} {n : Nat} {k : Int} {j : Nat} (h : I.okB n k = true) : (actI tx I j).ok n := by
  unfold actI
  split
  · rename_i e
    have h1 := ok_x h (by rw [e]; rfl)
    have h2 := ok_y h (by rw [e]; rfl)
    exact ⟨by omega, by omega⟩
  · split
    · rename_i e
      have h1 := ok_x h (by rw [e]; rfl)
      show _ < _
      omega
    · split
      · rename_i e
        have h1 := ok_x h (by rw [e]; rfl)
        show _ < _
        omega
      · split
        · rename_i e
          split
          · have h1 := ok_x h (by rw [e]; rfl)
            show _ < _
            omega
          · trivial
        · split
          · rename_i e
            split
            · have h1 := ok_x h (by rw [e]; rfl)
              show _ < _
              omega
            · trivial
          · split <;> trivial
theorem getD_in' {l : List In} {i : Nat} (hi : i < l.length) : l.getD i default = l[i] := by simp [List.getD_eq_getElem?_getD, List.getElem?_eq_getElem hi]
theorem act_ok {l : List In} {tx : List Int} {s k : Int} (h : mayB l s k = true) (j i : Nat) (hi : i < l.length) : (act l tx j i).ok l.length := by
  unfold act
  rw [getD_in' hi]
  exact actI_ok ((may_ok h).2.2.2.2.2 _ (List.getElem_mem hi))
theorem pr_ok {l : List In} {tx : List Int} {S K : Nat} (h : mayB l (S : Int) (K : Int) = true) : (prOf l tx S K).Ok := by
  have hm := may_ok h
  exact ⟨fun j i hi => act_ok h j i hi, by show S < l.length; omega⟩
theorem act_end (l : List In) (tx : List Int) (i x : Nat) : act l tx tx.length i ≠ .rune x := by
  unfold act actI
  intro h
  split at h
  · cases h
  · split at h
    · cases h
    · split at h
      · cases h
      · split at h
        · split at h <;> cases h
        · split at h
          · simp at h
          · split at h <;> cases h
end Go.Proofs.Ytodpmmlfdkdemaa
