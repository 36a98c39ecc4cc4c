/- HELPERS: what SparseSets knows at the head of its loop. -/
import Derived.Test.YtlidhjcciglinaaSv
namespace Go.Proofs.Ytlidhjcciglinaa
open Go.RowKit
set_option linter.unusedVariables false
set_option linter.unusedSimpArgs false
/-- all that there is, ahead of a step -/
def No (N : Nat) (w wr : World) (gs gr : Nat) (D : SD) : Prop := ∃ F Pr, St N w wr F Pr ∧ Kn N gs gr F Pr D
section
variable {N : Nat} {w wr w1 : World} {gs gr xb : Nat} {X : Obj} {D : SD}
theorem Nv.no (h : Nv N w wr gs gr xb X D) : No N w wr gs gr D := by
  obtain ⟨F, Pr, h1, h2, _⟩ := h
  exact ⟨F, Pr, h1, h2⟩
theorem No.nv (h : No N w wr gs gr D) (c : Array Value) : Nv N w (wr.alloc (.cells c 32)) gs gr wr.heap.size (.cells c 32 (0, 0)) D := by
  obtain ⟨F, Pr, h1, h2⟩ := h
  exact Nv.anew' F Pr h1 h2 c
theorem No.below (h : No N w wr gs gr D) : Below N w wr := by
  obtain ⟨F, Pr, h1, _⟩ := h
  exact h1.below
theorem No.sz (h : No N w wr gs gr D) : N ≤ wr.heap.size := by
  obtain ⟨F, Pr, h1, _⟩ := h
  exact h1.sz
theorem No.next (h : No N w wr gs gr D) (hb : Below wr.heap.size wr w1) : No N w w1 gs gr D := by
  obtain ⟨F, Pr, h1, h2⟩ := h
  exact ⟨F, Pr, h1.next hb, h2⟩
theorem No.drewN (h : No N w wr gs gr D) (q : Nat) : No N w (wr.drewN q) gs gr D := h.next (Joins.below_draws _ _ _)
theorem No.s (h : No N w wr gs gr D) : wr.heap[gs]? = some (.cells #[ptr (D.p 0), ptr (D.p 1)] 24 (0, 0)) := by
  obtain ⟨F, Pr, h1, h2⟩ := h
  have := h1.pr 1
  rw [h2.k1] at this
  exact this
theorem No.r (h : No N w wr gs gr D) : wr.heap[gr]? = some (.cells #[ptr (D.q 0), ptr (D.q 1)] 27 (0, 0)) := by
  obtain ⟨F, Pr, h1, h2⟩ := h
  have := h1.pr 2
  rw [h2.k2] at this
  exact this
theorem No.ls (h : No N w wr gs gr D) : gs < wr.heap.size := (Array.getElem?_eq_some_iff.1 h.s).1
theorem No.lr (h : No N w wr gs gr D) : gr < wr.heap.size := (Array.getElem?_eq_some_iff.1 h.r).1
theorem No.cs (h : No N w wr gs gr D) (k : Nat) (hk : k < 2) : wr.cell? ⟨gs, k, none⟩ = some (.pointer (some ⟨D.p k, 0, none⟩)) := by
  have c := Joins.cell_of_block h.s k
  have : k = 0 ∨ k = 1 := by omega
  rcases this with rfl | rfl <;> simpa [ptr] using c
theorem No.cr (h : No N w wr gs gr D) (k : Nat) (hk : k < 2) : wr.cell? ⟨gr, k, none⟩ = some (.pointer (some ⟨D.q k, 0, none⟩)) := by
  have c := Joins.cell_of_block h.r k
  have : k = 0 ∨ k = 1 := by omega
  rcases this with rfl | rfl <;> simpa [ptr] using c
theorem Nv.cs (h : Nv N w wr gs gr xb X D) (k : Nat) (hk : k < 2) : wr.cell? ⟨gs, k, none⟩ = some (.pointer (some ⟨D.p k, 0, none⟩)) := by
  have c := Joins.cell_of_block h.s k
  have : k = 0 ∨ k = 1 := by omega
  rcases this with rfl | rfl <;> simpa [ptr] using c
theorem Nv.cr (h : Nv N w wr gs gr xb X D) (k : Nat) (hk : k < 2) : wr.cell? ⟨gr, k, none⟩ = some (.pointer (some ⟨D.q k, 0, none⟩)) := by
  have c := Joins.cell_of_block h.r k
  have : k = 0 ∨ k = 1 := by omega
  rcases this with rfl | rfl <;> simpa [ptr] using c
theorem Nv.fs (h : Nv N w wr gs gr xb X D) (k : Nat) : wr.frozen? ⟨gs, k, none⟩ = false := Joins.unfrozen_of_block h.s k
theorem Nv.fr (h : Nv N w wr gs gr xb X D) (k : Nat) : wr.frozen? ⟨gr, k, none⟩ = false := Joins.unfrozen_of_block h.r k
theorem Na.cr {a : Value} {l : List Int} (h : Na N w wr gs gr xb X D a l) (k : Nat) (hk : k < 2) : wr.cell? ⟨gr, k, none⟩ = some (.pointer (some ⟨D.q k, 0, none⟩)) := by
  have c := Joins.cell_of_block h.r k
  have : k = 0 ∨ k = 1 := by omega
  rcases this with rfl | rfl <;> simpa [ptr] using c
theorem Nb.cs {a b : Value} {l l' : List Int} (h : Nb N w wr gs gr xb X D a b l l') (k : Nat) (hk : k < 2) : wr.cell? ⟨gs, k, none⟩ = some (.pointer (some ⟨D.p k, 0, none⟩)) := by
  have c := Joins.cell_of_block h.s k
  have : k = 0 ∨ k = 1 := by omega
  rcases this with rfl | rfl <;> simpa [ptr] using c
theorem Nb.cr {a b : Value} {l l' : List Int} (h : Nb N w wr gs gr xb X D a b l l') (k : Nat) (hk : k < 2) : wr.cell? ⟨gr, k, none⟩ = some (.pointer (some ⟨D.q k, 0, none⟩)) := by
  have c := Joins.cell_of_block h.r k
  have : k = 0 ∨ k = 1 := by omega
  rcases this with rfl | rfl <;> simpa [ptr] using c
theorem Nv.x2 {a b c : Value} (h : Nv N w wr gs gr xb (.cells #[a, b, c] 32 (0, 0)) D) : wr.cell? ⟨xb, 2, none⟩ = some c := by
  have := Joins.cell_of_block h.step 2
  simpa using this
theorem No.rows (h : No N w wr gs gr D) : wr.ownsRow N 35 1 D.ov D.L.length ((List.range D.L.length).map D.ow) ∧ wr.ownsRow N 35 1 D.wv D.L'.length ((List.range D.L'.length).map D.ww) ∧
    (∀ j, j < D.L.length → wr.ownsRow N 3 1 (D.ow j) (D.L.getD j []).length (I64 (D.L.getD j []))) ∧ (∀ j, j < D.L'.length → wr.ownsRow N 3 1 (D.ww j) (D.L'.getD j []).length (I64 (D.L'.getD j []))) ∧
    (∀ j, j < D.L.length → (D.L.getD j []).length ≤ 1048576) := by
  obtain ⟨F, Pr, h1, h2⟩ := h
  refine ⟨?_, ?_, fun j hj => ?_, fun j hj => ?_, h2.bl⟩
  · have := h1.pr 3; rw [h2.k3] at this; exact this
  · have := h1.pr 4; rw [h2.k4] at this; exact this
  · have := h1.pr (100 + 2 * j); rw [(h2.kl j hj).1] at this; exact this
  · have := h1.pr (101 + 2 * j); rw [(h2.kw j hj).1] at this; exact this
theorem No.rws (h : No N w wr gs gr D) {g : Nat} (hg : D.ov.ownBlock = some g) : Rws 3 35 N g D.L.length D.ow (fun j => (D.L.getD j []).length) mk64 wr := by
  obtain ⟨F, Pr, h1, h2⟩ := h
  have hf : ∀ j, j < D.L.length → ∀ b, (D.ow j).ownBlock = some b → b ∈ F (100 + 2 * j) := fun j hj b hb => by rw [(h2.kl j hj).2]; simp [hb]
  have hg3 : g ∈ F 3 := by rw [h2.f3]; simp [hg]
  refine ⟨(h1.lie 3 g hg3).2, h1.sz, fun i j hi hj hne b hb hb' => ?_, fun j hj hb => ?_, fun j hj b hb => h1.lie _ b (hf j hj b hb), fun j => rfl⟩
  · exact h1.dis (100 + 2 * i) (100 + 2 * j) (by omega) b (hf i hi b hb) (hf j hj b hb')
  · exact h1.dis 3 (100 + 2 * j) (by omega) g hg3 (hf j hj g hb)
theorem St.put {F : Nat → List Nat} {Pr : Nat → World → Prop} (h : St N w wr F Pr) (t : Nat) (hF : F t = []) (F' : List Nat) (P' : World → Prop) (hb : Below wr.heap.size wr w1) (hp : P' w1)
    (hloc : ∀ a b : World, P' a → (∀ k ∈ F', b.heap[k]? = a.heap[k]?) → P' b) (hlow : ∀ k ∈ F', wr.heap.size ≤ k ∧ k < w1.heap.size) : St N w w1 (updF F t F') (updF Pr t P') :=
  h.upd t F' P' (by rw [hF]; exact ⟨hb.os, hb.tape, hb.output, hb.size, fun j hj _ => hb.block j hj, fun j hj => .inr (hlow j hj).1⟩) hp hloc (fun k hk => (hlow k hk).2)
theorem St.block {F : Nat → List Nat} {Pr : Nat → World → Prop} (h : St N w wr F Pr) (t : Nat) (hF : F t = []) (c : Array Value) (ty : TypeId) : St N w (wr.alloc (.cells c ty)) (updF F t [wr.heap.size]) (updF Pr t (fun w => w.heap[wr.heap.size]? = some (.cells c ty (0, 0)))) :=
  h.put t hF [wr.heap.size] _ ((Below.refl _ _).alloc (Nat.le_refl _) _) (heap_alloc_new wr _) (fun a b ha hk => (hk _ (by simp)).trans ha) (fun k hk => by simp at hk; subst hk; simp)
def two {α : Type} (a b : α) (k : Nat) : α := if k = 0 then a else b
def D0 (p0 p1 q0 q1 m0 m1 : Nat) : SD := ⟨two p0 p1, two q0 q1, two m0 m1, fun _ => [], two m0 m1, fun _ => [], .slice none 0 0, .slice none 0 0, [], [], fun _ => undef, fun _ => undef⟩
theorem No.init {w w1 w2 w4 w5 : World} {p0 p1 q0 q1 m0 m1 : Nat} {F0 F1 G0 G1 : List Nat} (hS0 : SetS w.heap.size w1 p0 F0 m0 []) (hb1 : Below w.heap.size w w1) (hS1 : SetS w1.heap.size w2 p1 F1 m1 []) (hb2 : Below w1.heap.size w1 w2)
    (hR0 : RefS (w2.heap.size + 1) w4 q0 G0 m0 []) (hb4 : Below (w2.heap.size + 1) (w2.alloc (.cells #[ptr p0, ptr p1] 24)) w4) (hR1 : RefS w4.heap.size w5 q1 G1 m1 []) (hb5 : Below w4.heap.size w4 w5) :
    No w.heap.size w (w5.alloc (.cells #[ptr q0, ptr q1] 27)) w2.heap.size w5.heap.size (D0 p0 p1 q0 q1 m0 m1) := by
  have z1 := hb1.size
  have z2 := hb2.size
  have z4 : w2.heap.size + 1 ≤ w4.heap.size := by have := hb4.size; simpa using this
  have s0 := St.base w
  have s1 := s0.put 5 rfl F0 (fun x => SetS w.heap.size x p0 F0 m0 []) hb1 hS0 (fun a b ha hk => ha.kept hk) hS0.low
  have s2 := s1.put 6 rfl F1 (fun x => SetS w.heap.size x p1 F1 m1 []) hb2 (hS1.mono z1) (fun a b ha hk => ha.kept hk) hS1.low
  have s3 := s2.block 1 rfl #[ptr p0, ptr p1] 24
  have s4 := s3.put 7 rfl G0 (fun x => RefS w.heap.size x q0 G0 m0 []) (by simpa using hb4) (hR0.mono (by omega)) (fun a b ha hk => ha.kept hk) (by simpa using hR0.low)
  have s5 := s4.put 8 rfl G1 (fun x => RefS w.heap.size x q1 G1 m1 []) hb5 (hR1.mono (by omega)) (fun a b ha hk => ha.kept hk) hR1.low
  have s6 := s5.block 2 rfl #[ptr q0, ptr q1] 27
  have s7 := s6.upd 3 [] (fun x => x.ownsRow w.heap.size 35 1 (.slice none 0 0) 0 []) (Chg.refl _ _) (World.ownsRow_nil _ _ _ _) (fun a b _ _ => World.ownsRow_nil _ _ _ _) (fun k hk => by cases hk)
  have s8 := s7.upd 4 [] (fun x => x.ownsRow w.heap.size 35 1 (.slice none 0 0) 0 []) (Chg.refl _ _) (World.ownsRow_nil _ _ _ _) (fun a b _ _ => World.ownsRow_nil _ _ _ _) (fun k hk => by cases hk)
  refine ⟨_, _, s8, ?_⟩
  constructor
  · rfl
  · rfl
  · rfl
  · rfl
  · rfl
  · rfl
  · rfl
  · rfl
  · intro k hk
    have : k = 0 ∨ k = 1 := by omega
    rcases this with rfl | rfl <;> rfl
  · intro k hk
    have : k = 0 ∨ k = 1 := by omega
    rcases this with rfl | rfl <;> rfl
  · intro j hj; simp [D0] at hj
  · intro j hj; simp [D0] at hj
  · intro j _
    iterate 8 rw [updF_other _ _ (by omega)]
  · intro j _
    iterate 8 rw [updF_other _ _ (by omega)]
  · intro j hj; simp [D0] at hj
/-- the document's sets and lists are as the law's -/
structure Eq2 (D : SD) (n i : Nat) : Prop where
  en : D.n = D.n'
  eA : D.A = D.A'
  eL : D.L = D.L'
  le : D.L.length ≤ i
  any : n < i → 0 < D.L.length
theorem Eq2.next {D : SD} {n i : Nat} (h : Eq2 D n i) (hi : i < n) : Eq2 D n (i + 1) := ⟨h.en, h.eA, h.eL, by have := h.le; omega, fun _ => by omega⟩
theorem Eq2.app {D : SD} {n i : Nat} (h : Eq2 D n i) (hi : i < n) (k : Nat) (X : List Int) : Eq2 { D with A := updF D.A k X, A' := updF D.A' k X } n (i + 1) :=
  ⟨h.en, by show updF D.A k X = updF D.A' k X; rw [h.eA], h.eL, by have := h.le; show D.L.length ≤ _; omega, fun _ => by omega⟩
theorem Eq2.new {D : SD} {n i : Nat} (h : Eq2 D n i) (hi : i < n) (k p q m : Nat) : Eq2 { D with p := updF D.p k p, n := updF D.n k m, A := updF D.A k [], q := updF D.q k q, n' := updF D.n' k m, A' := updF D.A' k [] } n (i + 1) :=
  ⟨by show updF D.n k m = updF D.n' k m; rw [h.en], by show updF D.A k [] = updF D.A' k []; rw [h.eA], h.eL, by have := h.le; show D.L.length ≤ _; omega, fun _ => by omega⟩
theorem Eq2.list {D : SD} {n i : Nat} (h : Eq2 D n i) (a b v u : Value) (l : List Int) : Eq2 { D with ov := v, L := D.L ++ [l], ow := updF D.ow D.L.length a, wv := u, L' := D.L' ++ [l], ww := updF D.ww D.L'.length b } n (i + 1) :=
  ⟨h.en, h.eA, by show D.L ++ [l] = D.L' ++ [l]; rw [h.eL], by have := h.le; show (D.L ++ [l]).length ≤ _; simp; omega, fun _ => by show 0 < (D.L ++ [l]).length; simp⟩
end
end Go.Proofs.Ytlidhjcciglinaa
