/- HELPERS: one of the lists grows. -/
import Derived.Test.YtilpkeipjlnogaaLs
namespace Go.Proofs.Ytilpkeipjlnogaa
open Go.RowKit
set_option linter.unusedVariables false
set_option linter.unusedSimpArgs false
theorem range_set (n i : Nat) (hi : i < n) (F : Nat → Value) (v : Value) : ((List.range n).map F).set i v = (List.range n).map (fun j => if j = i then v else F j) := by
  apply List.ext_getElem
  · simp
  · intro j h1 h2
    by_cases e : i = j
    · subst e; simp
    · rw [List.getElem_set_ne e]; simp; intro h; exact absurd h.symm e
theorem ST.growR {w wl w3 : World} {lb n g c : Nat} {v1 : Value} {RV SV : Nat → Value} {ln lm : Nat → Nat} {XR XS : Nat → List Value} {Bd : Nat} (h : ST w lb n (.slice (some ⟨g, 0, none⟩) n c) v1 RV SV ln lm XR XS Bd) (i : Nat) (hi : i < n) (xs : List Value) (v3 : Value)
    (hs : w.heap.size ≤ wl.heap.size) (hk : ∀ b, b < w.heap.size → wl.heap[b]? = w.heap[b]?) (hf : Frm wl w3 (RV i) v3) (hr : w3.ownsRow 0 53 2 v3 (ln i + 1) xs) :
    ST (w3.setCell ⟨g, i, none⟩ v3) lb n (.slice (some ⟨g, 0, none⟩) n c) v1 (fun j => if j = i then v3 else RV j) SV (fun j => if j = i then ln i + 1 else ln j) lm (fun j => if j = i then xs else XR j) XS (Bd + 1) ∧ ∀ p b, p.ok n → bkO lb (.slice (some ⟨g, 0, none⟩) n c) v1 (fun j => if j = i then v3 else RV j) SV p = some b → bkO lb (.slice (some ⟨g, 0, none⟩) n c) v1 RV SV p = some b ∨ w.heap.size ≤ b := by
  have hgl : g < w.heap.size := h.low .a g trivial rfl
  have hor : ∀ p b, p.ok n → bkO lb (.slice (some ⟨g, 0, none⟩) n c) v1 (fun j => if j = i then v3 else RV j) SV p = some b → bkO lb (.slice (some ⟨g, 0, none⟩) n c) v1 RV SV p = some b ∨ (p = .r i ∧ w.heap.size ≤ b) := by
    intro p b hp hb
    cases p with
    | l => exact .inl hb
    | a => exact .inl hb
    | b => exact .inl hb
    | r j =>
      by_cases e : j = i
      · subst e
        simp only [bkO, if_pos] at hb
        rcases hf.own b hb with h1 | h1
        · exact .inl h1
        · exact .inr ⟨rfl, by omega⟩
      · simp only [bkO, if_neg e] at hb
        exact .inl hb
    | s j => exact .inl hb
  have hgi : (RV i).ownBlock ≠ some g := fun e => by have := h.dd .a (.r i) g trivial hi rfl e; cases this
  have hold : ∀ p b, p.ok n → p ≠ .r i → p ≠ .a → bkO lb (.slice (some ⟨g, 0, none⟩) n c) v1 RV SV p = some b → (w3.setCell ⟨g, i, none⟩ v3).heap[b]? = w.heap[b]? := fun p b hp h1 h2 hb => by
    have hbl := h.low p b hp hb
    exact (Below.heap_setCell _ _ _ _ (fun e => h2 (h.dd p .a b hp trivial hb (by rw [e]; rfl)))).trans ((hf.block b (by omega) (fun e => h1 (h.dd p (.r i) b hp hi hb e))).trans (hk b hbl))
  have hv3 : v3.ownBlock ≠ some g := fun e => by
    rcases hf.own g e with h1 | h1
    · exact hgi h1
    · omega
  refine ⟨⟨(hold .l lb trivial (by intro e; cases e) (by intro e; cases e) rfl).trans h.ob, ?_, row_kept h.r1 (fun b hb => hold .b b trivial (by intro e; cases e) (by intro e; cases e) hb), fun j hj => ?_, fun j hj => row_kept (h.ls j hj) (fun b hb => hold (.s j) b hj (by intro e; cases e) (by intro e; cases e) hb), fun p q b hp hq h1 h2 => ?_, fun j hj => ?_⟩, fun p b hp hb => (hor p b hp hb).imp id (fun h => h.2)⟩
  · have hrow := row_setC (row_kept h.r0 (w' := w3) (fun b hb => (by cases hb; exact (hf.block g (by omega) hgi).trans (hk g hgl)))) i v3
    rwa [range_set n i hi] at hrow
  · by_cases e : j = i
    · subst e; simp only [if_pos]; exact own_setCell hr hv3
    · simp only [if_neg e]; exact row_kept (h.lr j hj) (fun b hb => hold (.r j) b hj (by intro e'; cases e'; exact e rfl) (by intro e'; cases e') hb)
  · rcases hor p b hp h1 with u | ⟨u1, u2⟩ <;> rcases hor q b hq h2 with v | ⟨v1, v2⟩
    · exact h.dd p q b hp hq u v
    · have := h.low p b hp u; omega
    · have := h.low q b hq v; omega
    · exact u1.trans v1.symm
  · have := h.bd j hj
    by_cases e : j = i
    · subst e; simp only [if_pos]; omega
    · simp only [if_neg e]; omega
theorem ST.growS {w wl w3 : World} {lb n g c : Nat} {v0 : Value} {RV SV : Nat → Value} {ln lm : Nat → Nat} {XR XS : Nat → List Value} {Bd : Nat} (h : ST w lb n v0 (.slice (some ⟨g, 0, none⟩) n c) RV SV ln lm XR XS Bd) (i : Nat) (hi : i < n) (xs : List Value) (v3 : Value)
    (hs : w.heap.size ≤ wl.heap.size) (hk : ∀ b, b < w.heap.size → wl.heap[b]? = w.heap[b]?) (hf : Frm wl w3 (SV i) v3) (hr : w3.ownsRow 0 25 9 v3 (lm i + 1) xs) :
    ST (w3.setCell ⟨g, i, none⟩ v3) lb n v0 (.slice (some ⟨g, 0, none⟩) n c) RV (fun j => if j = i then v3 else SV j) ln (fun j => if j = i then lm i + 1 else lm j) XR (fun j => if j = i then xs else XS j) (Bd + 1) ∧ ∀ p b, p.ok n → bkO lb v0 (.slice (some ⟨g, 0, none⟩) n c) RV (fun j => if j = i then v3 else SV j) p = some b → bkO lb v0 (.slice (some ⟨g, 0, none⟩) n c) RV SV p = some b ∨ w.heap.size ≤ b := by
  have hgl : g < w.heap.size := h.low .b g trivial rfl
  have hor : ∀ p b, p.ok n → bkO lb v0 (.slice (some ⟨g, 0, none⟩) n c) RV (fun j => if j = i then v3 else SV j) p = some b → bkO lb v0 (.slice (some ⟨g, 0, none⟩) n c) RV SV p = some b ∨ (p = .s i ∧ w.heap.size ≤ b) := by
    intro p b hp hb
    cases p with
    | l => exact .inl hb
    | a => exact .inl hb
    | b => exact .inl hb
    | s j =>
      by_cases e : j = i
      · subst e
        simp only [bkO, if_pos] at hb
        rcases hf.own b hb with h1 | h1
        · exact .inl h1
        · exact .inr ⟨rfl, by omega⟩
      · simp only [bkO, if_neg e] at hb
        exact .inl hb
    | r j => exact .inl hb
  have hgi : (SV i).ownBlock ≠ some g := fun e => by have := h.dd .b (.s i) g trivial hi rfl e; cases this
  have hold : ∀ p b, p.ok n → p ≠ .s i → p ≠ .b → bkO lb v0 (.slice (some ⟨g, 0, none⟩) n c) RV SV p = some b → (w3.setCell ⟨g, i, none⟩ v3).heap[b]? = w.heap[b]? := fun p b hp h1 h2 hb => by
    have hbl := h.low p b hp hb
    exact (Below.heap_setCell _ _ _ _ (fun e => h2 (h.dd p .b b hp trivial hb (by rw [e]; rfl)))).trans ((hf.block b (by omega) (fun e => h1 (h.dd p (.s i) b hp hi hb e))).trans (hk b hbl))
  have hv3 : v3.ownBlock ≠ some g := fun e => by
    rcases hf.own g e with h1 | h1
    · exact hgi h1
    · omega
  refine ⟨⟨(hold .l lb trivial (by intro e; cases e) (by intro e; cases e) rfl).trans h.ob, row_kept h.r0 (fun b hb => hold .a b trivial (by intro e; cases e) (by intro e; cases e) hb), ?_, fun j hj => row_kept (h.lr j hj) (fun b hb => hold (.r j) b hj (by intro e; cases e) (by intro e; cases e) hb), fun j hj => ?_, fun p q b hp hq h1 h2 => ?_, fun j hj => ?_⟩, fun p b hp hb => (hor p b hp hb).imp id (fun h => h.2)⟩
  · have hrow := row_setC (row_kept h.r1 (w' := w3) (fun b hb => (by cases hb; exact (hf.block g (by omega) hgi).trans (hk g hgl)))) i v3
    rwa [range_set n i hi] at hrow
  · by_cases e : j = i
    · subst e; simp only [if_pos]; exact own_setCell hr hv3
    · simp only [if_neg e]; exact row_kept (h.ls j hj) (fun b hb => hold (.s j) b hj (by intro e'; cases e'; exact e rfl) (by intro e'; cases e') hb)
  · rcases hor p b hp h1 with u | ⟨u1, u2⟩ <;> rcases hor q b hq h2 with v | ⟨v1, v2⟩
    · exact h.dd p q b hp hq u v
    · have := h.low p b hp u; omega
    · have := h.low q b hq v; omega
    · exact u1.trans v1.symm
  · have := h.bd j hj
    by_cases e : j = i
    · subst e; simp only [if_pos]; omega
    · simp only [if_neg e]; omega
end Go.Proofs.Ytilpkeipjlnogaa
