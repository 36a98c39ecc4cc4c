/- HELPERS: rows of ints that the call makes, as texts; a text read backward. -/
import Derived.Test.YtoicnhcajhgbeaaHo
import Derived.Lib.SmallJoins
namespace Go.Proofs.Ytoicnhcajhgbeaa
open Go.RowKit Go.Lk
set_option linter.unusedVariables false
set_option linter.unusedSimpArgs false
abbrev I64 (l : List Int) : List Value := l.map (Value.int .i64)
theorem info3 : (Try.prog.info? 3).map (fun i => (i.zero, i.size, i.bytes)) = some (some (.int .i64 0), 1, 8) := by kernel_rfl
theorem news_one (w : World) (v : Value) (t : TypeId) (g : Nat) (hg : g = w.heap.size) : ∀ (j : Nat) (u : Value), [v][j]? = some u → (w.alloc (.cells #[v] t)).cell? ((⟨g, 0, none⟩ : Addr).add j) = some u := by
  intro j u h
  match j, h with
  | 0, h =>
    simp at h
    subst h
    exact (World.cell?_alloc_at _ t g 0 hg).trans rfl
theorem one_cell_int (k : IntKind) (r : Int) : ∀ u : Value, u ∈ [Value.int k r] → u.oneCell' = true := by
  intro u hu; simp at hu; subst hu; rfl
theorem one_cell_ints (l : List Int) : ∀ u : Value, u ∈ I64 l → u.oneCell' = true := by
  intro u hu
  simp only [List.mem_map] at hu
  obtain ⟨x, _, rfl⟩ := hu
  rfl
theorem below_app1 {w w1 : World} {base size n : Nat} {e : TypeId} {v : Value} {xs : List Value} {o : Obj} (hown : w.ownsRow base e size v n xs) (hb : base ≤ w.heap.size) (hg : (w.alloc o).grownBy w1 v.ownBlock) : Below base w w1 :=
  ((Below.refl _ _).alloc hb _).grown hg (by simp; omega) (fun k h => (hown.lt k h).1)
theorem below_app0 {w w1 : World} {base size n : Nat} {e : TypeId} {v : Value} {xs : List Value} (hown : w.ownsRow base e size v n xs) (hb : base ≤ w.heap.size) (hg : w.grownBy w1 v.ownBlock) : Below base w w1 :=
  (Below.refl _ _).grown hg (by omega) (fun k h => (hown.lt k h).1)
theorem text_own {w : World} {B n : Nat} {v : Value} {l : List Int} (hn : n = l.length) (hm : n ≤ 35184372088832) (h : w.ownsRow B 3 1 v n (I64 l)) : ∃ ad cap, v = .slice ad n cap ∧ TextAt w.heap.size w ad n l := by
  rcases Joins.ownsRow_forms h with ⟨rfl, h0⟩ | ⟨g, cap, rfl⟩
  · exact ⟨none, 0, by rw [h0], hn, hm, .inl h0⟩
  · refine ⟨_, cap, rfl, hn, hm, .inr ⟨g, 0, rfl, (h.lt _ rfl).2, fun k hk => ?_⟩⟩
    rw [Nat.zero_add, h.cellAt k (by omega)]
    simp [show k < l.length by omega]
/-! a text read backward -/
theorem rev_at (l : List Int) (k : Nat) (hk : k < l.length) : l.reverse.getD k 0 = l.getD (l.length - 1 - k) 0 := by
  simp [List.getD_eq_getElem?_getD, List.getElem?_reverse hk]
theorem flip_sumB (b1 b2 b3 b4 b5 : Bool) : flipI (sumB b1 b2 b3 b4 b5 6) = sumB b2 b1 b4 b3 b5 6 := by
  cases b1 <;> cases b2 <;> cases b3 <;> cases b4 <;> cases b5 <;> decide +kernel
theorem sumB_in (b1 b2 b3 b4 b5 : Bool) : 0 ≤ sumB b1 b2 b3 b4 b5 6 ∧ sumB b1 b2 b3 b4 b5 6 ≤ 63 := by
  cases b1 <;> cases b2 <;> cases b3 <;> cases b4 <;> cases b5 <;> decide +kernel
theorem atN_in (l : List Int) (p : Int) : 0 ≤ atN l p ∧ atN l p ≤ 63 := by
  unfold atN
  split
  · omega
  · exact sumB_in _ _ _ _ _
theorem at_back (l : List Int) (p : Nat) (hp : p ≤ l.length) : atP l p = flipI (atP l.reverse (l.length - p)) := by
  unfold atP
  rw [flip_sumB]
  have e1 : begB p = endB l.reverse (l.length - p) := by
    unfold begB endB; rw [List.length_reverse]; congr 1; simp only [eq_iff_iff]; omega
  have e2 : endB l p = begB (l.length - p) := by
    unfold begB endB; congr 1; simp only [eq_iff_iff]; omega
  have e3 : blB l p = elB l.reverse (l.length - p) := by
    unfold blB elB
    rw [List.length_reverse]
    by_cases h0 : p = 0
    · subst h0; simp
    · have h1 : ¬ l.length - p = l.length := by omega
      simp only [h0, h1, decide_false, Bool.false_or]
      rw [rev_at _ _ (by omega), show l.length - 1 - (l.length - p) = p - 1 by omega]
  have e4 : elB l p = blB l.reverse (l.length - p) := by
    unfold blB elB
    by_cases h0 : p = l.length
    · have h1 : l.length - p = 0 := by omega
      simp [h0]
    · have h1 : ¬ l.length - p = 0 := by omega
      simp only [h0, h1, decide_false, Bool.false_or]
      rw [rev_at _ _ (by omega), show l.length - 1 - (l.length - p - 1) = p by omega]
  have e5 : waB l p = wbB l.reverse (l.length - p) := by
    unfold waB wbB
    rw [List.length_reverse]
    by_cases h0 : p = 0
    · subst h0; simp
    · have h1 : 0 < p := by omega
      have h2 : l.length - p < l.length := by omega
      simp only [h1, h2, decide_true, Bool.true_and]
      rw [rev_at _ _ (by omega), show l.length - 1 - (l.length - p) = p - 1 by omega]
  have e6 : wbB l p = waB l.reverse (l.length - p) := by
    unfold waB wbB
    by_cases h0 : p = l.length
    · simp [h0]
    · have h1 : 0 < l.length - p := by omega
      have h2 : p < l.length := by omega
      simp only [h1, h2, decide_true, Bool.true_and]
      rw [rev_at _ _ (by omega), show l.length - 1 - (l.length - p - 1) = p by omega]
  have e7 : edgeB l p = edgeB l.reverse (l.length - p) := by
    unfold edgeB
    rw [e5, e6]
    cases wbB l.reverse (l.length - p) <;> cases waB l.reverse (l.length - p) <;> rfl
  rw [e1, e2, e3, e4, e7]
end Go.Proofs.Ytoicnhcajhgbeaa
