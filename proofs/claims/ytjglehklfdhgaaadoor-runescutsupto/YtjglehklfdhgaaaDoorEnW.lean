/- HELPERS: the walk of RunesEncodes. -/
import Derived.Test.YtjglehklfdhgaaaDoorEnL
namespace Go.Proofs.YtjglehklfdhgaaaDoor
open Go.RowKit Go.Mx
set_option linter.unusedVariables false
set_option linter.unusedSimpArgs false
/-- what the walk keeps: the list that came in, the row, two answers -/
structure St5 (W : World) (g n : Nat) (l : List Int) (k : Nat) (Ba Bb : Nat) (va vb : Value) (ma mb : Nat) (X : List Int) (w : World) : Prop where
  bel : Below W.heap.size W w
  row : ∃ l', RowG w g l' ∧ l'.length = n + 2 ∧ ∀ j, k ≤ j → j < n → l'.getD j 0 = l.getD j 0
  oa : w.ownsRow Ba 5 1 va ma (U8 X)
  ob : w.ownsRow Bb 5 1 vb mb (U8 X)
theorem St5.next {W : World} {g n : Nat} {l : List Int} {k Ba Bb : Nat} {va vb : Value} {ma mb : Nat} {X : List Int} {w w' : World} (h : St5 W g n l k Ba Bb va vb ma mb X w) (hb : Below w.heap.size w w') : St5 W g n l k Ba Bb va vb ma mb X w' := by
  refine ⟨h.bel.trans (hb.mono h.bel.size), ?_, own_kept h.oa (fun b hb' => hb.block b (h.oa.lt b hb').2), own_kept h.ob (fun b hb' => hb.block b (h.ob.lt b hb').2)⟩
  obtain ⟨l', h1, h2⟩ := h.row
  exact ⟨l', h1.below hb h1.lt, h2⟩
theorem St5.set {W : World} {g n : Nat} {l : List Int} {k Ba Bb : Nat} {va vb : Value} {ma mb : Nat} {X : List Int} {w : World} (h : St5 W g n l k Ba Bb va vb ma mb X w) (hg : W.heap.size ≤ g) (ha : g < Ba) (hb : g < Bb) (x : Int) : St5 W g n l (k + 1) Ba Bb va vb ma mb X (w.setCell ⟨g, k, none⟩ (.int .i64 x)) := by
  refine ⟨h.bel.setCell hg _, ?_, own_kept h.oa (fun b hb' => heap_setCell_other w ⟨g, k, none⟩ b _ (by have := (h.oa.lt b hb').1; show b ≠ g; omega)), own_kept h.ob (fun b hb' => heap_setCell_other w ⟨g, k, none⟩ b _ (by have := (h.ob.lt b hb').1; show b ≠ g; omega))⟩
  obtain ⟨l', h1, h2, h3⟩ := h.row
  refine ⟨l'.set k x, h1.set k x, by rw [List.length_set]; exact h2, fun j hj hjn => ?_⟩
  rw [← h3 j (by omega) hjn]
  simp [List.getD_eq_getElem?_getD, List.getElem?_set, show ¬ k = j by omega]
theorem St5.drew {W : World} {g n : Nat} {l : List Int} {k Ba Bb : Nat} {va vb : Value} {ma mb : Nat} {X : List Int} {w : World} (h : St5 W g n l k Ba Bb va vb ma mb X w) (q : Nat) : St5 W g n l k Ba Bb va vb ma mb X (w.drewN q) := h.next (below_drewN (Below.refl _ _) q)
def three (a b c : Value) (j : Nat) : Value := if j = 0 then a else if j = 1 then b else c
def threeN (a b c : Nat) (j : Nat) : Nat := if j = 0 then a else if j = 1 then b else c
/-- ownBytes of three rows -/
theorem own_three (base Ba Bb Bc : Nat) (va vb vc : Value) (ma mb mc : Nat) (Xa Xb Xc : List Value) (w : World) (ha : w.ownsRow Ba 5 1 va ma Xa) (hb : w.ownsRow Bb 5 1 vb mb Xb) (hc : w.ownsRow Bc 5 1 vc mc Xc)
    (h1 : base ≤ Ba) (h2 : base ≤ Bb) (h3 : base ≤ Bc) (s1 : ∀ b, va.ownBlock = some b → b < Bb) (s2 : ∀ b, vb.ownBlock = some b → b < Bc) (s3 : ∀ b, va.ownBlock = some b → b < Bc) (hbw : base ≤ w.heap.size)
    (la : ma ≤ 100000000) (lb : mb ≤ 100000000) (lc : mc ≤ 100000000) :
    Calls Tryd.prog 23 #[.slice (some ⟨w.heap.size, 0, none⟩) 3 3] (w.alloc (.cells #[va, vb, vc] 25)) fun e w' => e = .returned (.bool true) ∧ Below base (w.alloc (.cells #[va, vb, vc] 25)) w' := by
  have hsz : (w.alloc (.cells #[va, vb, vc] 25)).heap.size = w.heap.size + 1 := by simp
  have j3 : ∀ j, j < 3 → j = 0 ∨ j = 1 ∨ j = 2 := by intro j hj; omega
  have low : ∀ j, j < 3 → ∀ b, (three va vb vc j).ownBlock = some b → base ≤ b ∧ b < w.heap.size := by
    intro j hj b hb'
    rcases j3 j hj with rfl | rfl | rfl
    · have := ha.lt b hb'; omega
    · have := hb.lt b hb'; omega
    · have := hc.lt b hb'; omega
  have R : Rws 5 25 base w.heap.size 3 (three va vb vc) (threeN ma mb mc) mk8 (w.alloc (.cells #[va, vb, vc] 25)) := by
    refine ⟨by omega, by omega, ?_, ?_, fun j hj b hb' => by have := low j hj b hb'; omega, fun j => rfl⟩
    · intro i j hi hj hij b hbi hbj
      rcases j3 i hi with rfl | rfl | rfl <;> rcases j3 j hj with rfl | rfl | rfl <;> try omega
      · have := s1 b hbi; have := (hb.lt b hbj).1; omega
      · have := s3 b hbi; have := (hc.lt b hbj).1; omega
      · have := s1 b hbj; have := (hb.lt b hbi).1; omega
      · have := s2 b hbi; have := (hc.lt b hbj).1; omega
      · have := s3 b hbj; have := (hc.lt b hbi).1; omega
      · have := s2 b hbj; have := (hc.lt b hbi).1; omega
    · intro j hj e
      have := (low j hj _ e).2
      omega
  refine own23 base w.heap.size 3 (three va vb vc) (threeN ma mb mc) _ (by omega) R ?_ ?_ ?_
  · intro j hj
    rcases j3 j hj with rfl | rfl | rfl
    · exact ⟨Xa, (ha.mono h1).alloc _⟩
    · exact ⟨Xb, (hb.mono h2).alloc _⟩
    · exact ⟨Xc, (hc.mono h3).alloc _⟩
  · intro j hj
    rcases j3 j hj with rfl | rfl | rfl
    · rw [World.cell?_alloc_at _ _ _ _ rfl]; rfl
    · rw [World.cell?_alloc_at _ _ _ _ rfl]; rfl
    · rw [World.cell?_alloc_at _ _ _ _ rfl]; rfl
  · intro j hj
    rcases j3 j hj with rfl | rfl | rfl
    · exact la
    · exact lb
    · exact lc
end Go.Proofs.YtjglehklfdhgaaaDoor
