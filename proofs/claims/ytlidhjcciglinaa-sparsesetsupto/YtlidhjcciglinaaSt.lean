/- HELPERS: things in memory that have nothing to do with one another. -/
import Derived.Test.YtlidhjcciglinaaRf
import Derived.Test.YtlidhjcciglinaaSy
namespace Go.Proofs.Ytlidhjcciglinaa
open Go.RowKit
set_option linter.unusedVariables false
set_option linter.unusedSimpArgs false
/-- what is known of each thing, and in which blocks it lies -/
structure St (N : Nat) (w wr : World) (F : Nat → List Nat) (Pr : Nat → World → Prop) : Prop where
  pr : ∀ c, Pr c wr
  loc : ∀ c (a b : World), Pr c a → (∀ k ∈ F c, b.heap[k]? = a.heap[k]?) → Pr c b
  lie : ∀ c, ∀ k ∈ F c, N ≤ k ∧ k < wr.heap.size
  dis : ∀ c c', c ≠ c' → ∀ k ∈ F c, k ∉ F c'
  below : Below N w wr
  sz : N ≤ wr.heap.size
theorem St.upd {N : Nat} {w wr w1 : World} {F : Nat → List Nat} {Pr : Nat → World → Prop} (h : St N w wr F Pr) (t : Nat) (F' : List Nat) (P' : World → Prop) (hc : Chg wr w1 (F t) F') (hp : P' w1)
    (hloc : ∀ a b : World, P' a → (∀ k ∈ F', b.heap[k]? = a.heap[k]?) → P' b) (hlt : ∀ k ∈ F', k < w1.heap.size) : St N w w1 (updF F t F') (updF Pr t P') where
  pr := fun c => by
    by_cases e : c = t
    · subst e; rw [updF_same]; exact hp
    · rw [updF_other _ _ e]
      exact h.loc c wr w1 (h.pr c) (fun k hk => hc.block k (h.lie c k hk).2 (h.dis c t e k hk))
  loc := fun c a b => by
    by_cases e : c = t
    · subst e; rw [updF_same, updF_same]; exact hloc a b
    · rw [updF_other _ _ e, updF_other _ _ e]; exact h.loc c a b
  lie := fun c k hk => by
    by_cases e : c = t
    · subst e
      rw [updF_same] at hk
      refine ⟨?_, hlt k hk⟩
      rcases hc.new k hk with h1 | h1
      · exact (h.lie c k h1).1
      · have := h.sz; omega
    · rw [updF_other _ _ e] at hk
      have := h.lie c k hk
      have := hc.size
      omega
  dis := fun c c' hne k hk hk' => by
    by_cases e : c = t
    · subst e
      rw [updF_same] at hk
      rw [updF_other _ _ (fun e => hne e.symm)] at hk'
      rcases hc.new k hk with h1 | h1
      · exact h.dis c c' hne k h1 hk'
      · have := (h.lie c' k hk').2; omega
    · rw [updF_other _ _ e] at hk
      by_cases e' : c' = t
      · subst e'
        rw [updF_same] at hk'
        rcases hc.new k hk' with h1 | h1
        · exact h.dis c c' hne k hk h1
        · have := (h.lie c k hk).2; omega
      · rw [updF_other _ _ e'] at hk'
        exact h.dis c c' hne k hk hk'
  below := h.below.trans (hc.below h.sz (fun k hk => (h.lie t k hk).1))
  sz := Nat.le_trans h.sz hc.size
theorem St.next {N : Nat} {w wr w1 : World} {F : Nat → List Nat} {Pr : Nat → World → Prop} (h : St N w wr F Pr) (hb : Below wr.heap.size wr w1) : St N w w1 F Pr :=
  ⟨fun c => h.loc c wr w1 (h.pr c) (fun k hk => hb.block k (h.lie c k hk).2), h.loc, fun c k hk => by have := h.lie c k hk; have := hb.size; omega, h.dis, h.below.trans (hb.mono h.sz), Nat.le_trans h.sz hb.size⟩
theorem St.drewN {N : Nat} {w wr : World} {F : Nat → List Nat} {Pr : Nat → World → Prop} (h : St N w wr F Pr) (q : Nat) : St N w (wr.drewN q) F Pr := h.next (Joins.below_draws _ _ _)
theorem St.drew {N : Nat} {w wr : World} {F : Nat → List Nat} {Pr : Nat → World → Prop} (h : St N w wr F Pr) : St N w wr.drew F Pr := h.next ((Below.refl _ _).drew)
/-- the data of the law's two sets and the document's two, of the lists that came out -/
structure SD where
  p : Nat → Nat
  q : Nat → Nat
  n : Nat → Nat
  A : Nat → List Int
  n' : Nat → Nat
  A' : Nat → List Int
  ov : Value
  wv : Value
  L : List (List Int)
  L' : List (List Int)
  ow : Nat → Value
  ww : Nat → Value
def ptr (a : Nat) : Value := .pointer (some ⟨a, 0, none⟩)
structure Kn (N gs gr : Nat) (F : Nat → List Nat) (Pr : Nat → World → Prop) (D : SD) : Prop where
  k1 : Pr 1 = fun w => w.heap[gs]? = some (.cells #[ptr (D.p 0), ptr (D.p 1)] 24 (0, 0))
  f1 : F 1 = [gs]
  k2 : Pr 2 = fun w => w.heap[gr]? = some (.cells #[ptr (D.q 0), ptr (D.q 1)] 27 (0, 0))
  f2 : F 2 = [gr]
  k3 : Pr 3 = fun w => w.ownsRow N 35 1 D.ov D.L.length ((List.range D.L.length).map D.ow)
  f3 : F 3 = D.ov.ownBlock.toList
  k4 : Pr 4 = fun w => w.ownsRow N 35 1 D.wv D.L'.length ((List.range D.L'.length).map D.ww)
  f4 : F 4 = D.wv.ownBlock.toList
  ks : ∀ k, k < 2 → Pr (5 + k) = fun w => SetS N w (D.p k) (F (5 + k)) (D.n k) (D.A k)
  kr : ∀ k, k < 2 → Pr (7 + k) = fun w => RefS N w (D.q k) (F (7 + k)) (D.n' k) (D.A' k)
  kl : ∀ j, j < D.L.length → Pr (100 + 2 * j) = (fun w => w.ownsRow N 3 1 (D.ow j) (D.L.getD j []).length (I64 (D.L.getD j []))) ∧ F (100 + 2 * j) = (D.ow j).ownBlock.toList
  kw : ∀ j, j < D.L'.length → Pr (101 + 2 * j) = (fun w => w.ownsRow N 3 1 (D.ww j) (D.L'.getD j []).length (I64 (D.L'.getD j []))) ∧ F (101 + 2 * j) = (D.ww j).ownBlock.toList
  nl : ∀ j, D.L.length ≤ j → F (100 + 2 * j) = []
  nw : ∀ j, D.L'.length ≤ j → F (101 + 2 * j) = []
  bl : ∀ j, j < D.L.length → (D.L.getD j []).length ≤ 1048576
/-- a set turned -/
theorem Kn.set {N gs gr : Nat} {F : Nat → List Nat} {Pr : Nat → World → Prop} {D : SD} (h : Kn N gs gr F Pr D) (k : Nat) (hk : k < 2) (F' : List Nat) (A1 : List Int) :
    Kn N gs gr (updF F (5 + k) F') (updF Pr (5 + k) (fun w => SetS N w (D.p k) F' (D.n k) A1)) { D with A := updF D.A k A1 } where
  k1 := by rw [updF_other _ _ (by omega)]; exact h.k1
  f1 := by rw [updF_other _ _ (by omega)]; exact h.f1
  k2 := by rw [updF_other _ _ (by omega)]; exact h.k2
  f2 := by rw [updF_other _ _ (by omega)]; exact h.f2
  k3 := by rw [updF_other _ _ (by omega)]; exact h.k3
  f3 := by rw [updF_other _ _ (by omega)]; exact h.f3
  k4 := by rw [updF_other _ _ (by omega)]; exact h.k4
  f4 := by rw [updF_other _ _ (by omega)]; exact h.f4
  ks := fun j hj => by
    show updF Pr (5 + k) _ (5 + j) = fun w => SetS N w (D.p j) (updF F (5 + k) F' (5 + j)) (D.n j) (updF D.A k A1 j)
    by_cases e : j = k
    · subst e; simp only [updF_same]
    · rw [updF_other _ _ (show 5 + j ≠ 5 + k by omega), updF_other _ _ (show 5 + j ≠ 5 + k by omega), updF_other _ _ e]; exact h.ks j hj
  kr := fun j hj => by rw [updF_other _ _ (by omega), updF_other _ _ (by omega)]; exact h.kr j hj
  kl := fun j hj => by rw [updF_other _ _ (by omega), updF_other _ _ (by omega)]; exact h.kl j hj
  kw := fun j hj => by rw [updF_other _ _ (by omega), updF_other _ _ (by omega)]; exact h.kw j hj
  nl := fun j hj => by rw [updF_other _ _ (by omega)]; exact h.nl j hj
  nw := fun j hj => by rw [updF_other _ _ (by omega)]; exact h.nw j hj
  bl := h.bl
theorem Kn.ref {N gs gr : Nat} {F : Nat → List Nat} {Pr : Nat → World → Prop} {D : SD} (h : Kn N gs gr F Pr D) (k : Nat) (hk : k < 2) (F' : List Nat) (A1 : List Int) :
    Kn N gs gr (updF F (7 + k) F') (updF Pr (7 + k) (fun w => RefS N w (D.q k) F' (D.n' k) A1)) { D with A' := updF D.A' k A1 } where
  k1 := by rw [updF_other _ _ (by omega)]; exact h.k1
  f1 := by rw [updF_other _ _ (by omega)]; exact h.f1
  k2 := by rw [updF_other _ _ (by omega)]; exact h.k2
  f2 := by rw [updF_other _ _ (by omega)]; exact h.f2
  k3 := by rw [updF_other _ _ (by omega)]; exact h.k3
  f3 := by rw [updF_other _ _ (by omega)]; exact h.f3
  k4 := by rw [updF_other _ _ (by omega)]; exact h.k4
  f4 := by rw [updF_other _ _ (by omega)]; exact h.f4
  ks := fun j hj => by rw [updF_other _ _ (by omega), updF_other _ _ (by omega)]; exact h.ks j hj
  kr := fun j hj => by
    show updF Pr (7 + k) _ (7 + j) = fun w => RefS N w (D.q j) (updF F (7 + k) F' (7 + j)) (D.n' j) (updF D.A' k A1 j)
    by_cases e : j = k
    · subst e; simp only [updF_same]
    · rw [updF_other _ _ (show 7 + j ≠ 7 + k by omega), updF_other _ _ (show 7 + j ≠ 7 + k by omega), updF_other _ _ e]; exact h.kr j hj
  kl := fun j hj => by rw [updF_other _ _ (by omega), updF_other _ _ (by omega)]; exact h.kl j hj
  kw := fun j hj => by rw [updF_other _ _ (by omega), updF_other _ _ (by omega)]; exact h.kw j hj
  nl := fun j hj => by rw [updF_other _ _ (by omega)]; exact h.nl j hj
  nw := fun j hj => by rw [updF_other _ _ (by omega)]; exact h.nw j hj
  bl := h.bl
/-- something else, of which nothing is known here, turned -/
theorem Kn.other {N gs gr : Nat} {F : Nat → List Nat} {Pr : Nat → World → Prop} {D : SD} (h : Kn N gs gr F Pr D) (t : Nat) (ht : 9 ≤ t) (ht2 : t < 100) (F' : List Nat) (P' : World → Prop) : Kn N gs gr (updF F t F') (updF Pr t P') D where
  k1 := by rw [updF_other _ _ (by omega)]; exact h.k1
  f1 := by rw [updF_other _ _ (by omega)]; exact h.f1
  k2 := by rw [updF_other _ _ (by omega)]; exact h.k2
  f2 := by rw [updF_other _ _ (by omega)]; exact h.f2
  k3 := by rw [updF_other _ _ (by omega)]; exact h.k3
  f3 := by rw [updF_other _ _ (by omega)]; exact h.f3
  k4 := by rw [updF_other _ _ (by omega)]; exact h.k4
  f4 := by rw [updF_other _ _ (by omega)]; exact h.f4
  ks := fun j hj => by rw [updF_other _ _ (by omega), updF_other _ _ (by omega)]; exact h.ks j hj
  kr := fun j hj => by rw [updF_other _ _ (by omega), updF_other _ _ (by omega)]; exact h.kr j hj
  kl := fun j hj => by rw [updF_other _ _ (by omega), updF_other _ _ (by omega)]; exact h.kl j hj
  kw := fun j hj => by rw [updF_other _ _ (by omega), updF_other _ _ (by omega)]; exact h.kw j hj
  nl := fun j hj => by rw [updF_other _ _ (by omega)]; exact h.nl j hj
  nw := fun j hj => by rw [updF_other _ _ (by omega)]; exact h.nw j hj
  bl := h.bl
/-- a new set in its place -/
theorem Kn.new {N gs gr : Nat} {F : Nat → List Nat} {Pr : Nat → World → Prop} {D : SD} (h : Kn N gs gr F Pr D) (k : Nat) (hk : k < 2) (F' : List Nat) (p1 m : Nat) :
    Kn N gs gr (updF (updF F (5 + k) F') 1 [gs]) (updF (updF Pr (5 + k) (fun w => SetS N w p1 F' m [])) 1 (fun w => w.heap[gs]? = some (.cells #[ptr (updF D.p k p1 0), ptr (updF D.p k p1 1)] 24 (0, 0)))) { D with p := updF D.p k p1, n := updF D.n k m, A := updF D.A k [] } where
  k1 := updF_same _ _ _
  f1 := updF_same _ _ _
  k2 := by rw [updF_other _ _ (by omega), updF_other _ _ (by omega)]; exact h.k2
  f2 := by rw [updF_other _ _ (by omega), updF_other _ _ (by omega)]; exact h.f2
  k3 := by rw [updF_other _ _ (by omega), updF_other _ _ (by omega)]; exact h.k3
  f3 := by rw [updF_other _ _ (by omega), updF_other _ _ (by omega)]; exact h.f3
  k4 := by rw [updF_other _ _ (by omega), updF_other _ _ (by omega)]; exact h.k4
  f4 := by rw [updF_other _ _ (by omega), updF_other _ _ (by omega)]; exact h.f4
  ks := fun j hj => by
    show updF (updF Pr (5 + k) _) 1 _ (5 + j) = fun w => SetS N w (updF D.p k p1 j) (updF (updF F (5 + k) F') 1 [gs] (5 + j)) (updF D.n k m j) (updF D.A k [] j)
    rw [updF_other _ _ (show 5 + j ≠ 1 by omega), updF_other _ _ (show 5 + j ≠ 1 by omega)]
    by_cases e : j = k
    · subst e; simp only [updF_same]
    · rw [updF_other _ _ (show 5 + j ≠ 5 + k by omega), updF_other _ _ (show 5 + j ≠ 5 + k by omega), updF_other _ _ e, updF_other _ _ e, updF_other _ _ e]; exact h.ks j hj
  kr := fun j hj => by rw [updF_other _ _ (by omega), updF_other _ _ (by omega), updF_other _ _ (by omega), updF_other _ _ (by omega)]; exact h.kr j hj
  kl := fun j hj => by rw [updF_other _ _ (by omega), updF_other _ _ (by omega), updF_other _ _ (by omega), updF_other _ _ (by omega)]; exact h.kl j hj
  kw := fun j hj => by rw [updF_other _ _ (by omega), updF_other _ _ (by omega), updF_other _ _ (by omega), updF_other _ _ (by omega)]; exact h.kw j hj
  nl := fun j hj => by rw [updF_other _ _ (by omega), updF_other _ _ (by omega)]; exact h.nl j hj
  nw := fun j hj => by rw [updF_other _ _ (by omega), updF_other _ _ (by omega)]; exact h.nw j hj
  bl := h.bl
theorem Kn.newR {N gs gr : Nat} {F : Nat → List Nat} {Pr : Nat → World → Prop} {D : SD} (h : Kn N gs gr F Pr D) (k : Nat) (hk : k < 2) (F' : List Nat) (p1 m : Nat) :
    Kn N gs gr (updF (updF F (7 + k) F') 2 [gr]) (updF (updF Pr (7 + k) (fun w => RefS N w p1 F' m [])) 2 (fun w => w.heap[gr]? = some (.cells #[ptr (updF D.q k p1 0), ptr (updF D.q k p1 1)] 27 (0, 0)))) { D with q := updF D.q k p1, n' := updF D.n' k m, A' := updF D.A' k [] } where
  k1 := by rw [updF_other _ _ (by omega), updF_other _ _ (by omega)]; exact h.k1
  f1 := by rw [updF_other _ _ (by omega), updF_other _ _ (by omega)]; exact h.f1
  k2 := updF_same _ _ _
  f2 := updF_same _ _ _
  k3 := by rw [updF_other _ _ (by omega), updF_other _ _ (by omega)]; exact h.k3
  f3 := by rw [updF_other _ _ (by omega), updF_other _ _ (by omega)]; exact h.f3
  k4 := by rw [updF_other _ _ (by omega), updF_other _ _ (by omega)]; exact h.k4
  f4 := by rw [updF_other _ _ (by omega), updF_other _ _ (by omega)]; exact h.f4
  ks := fun j hj => by rw [updF_other _ _ (by omega), updF_other _ _ (by omega), updF_other _ _ (by omega), updF_other _ _ (by omega)]; exact h.ks j hj
  kr := fun j hj => by
    show updF (updF Pr (7 + k) _) 2 _ (7 + j) = fun w => RefS N w (updF D.q k p1 j) (updF (updF F (7 + k) F') 2 [gr] (7 + j)) (updF D.n' k m j) (updF D.A' k [] j)
    rw [updF_other _ _ (show 7 + j ≠ 2 by omega), updF_other _ _ (show 7 + j ≠ 2 by omega)]
    by_cases e : j = k
    · subst e; simp only [updF_same]
    · rw [updF_other _ _ (show 7 + j ≠ 7 + k by omega), updF_other _ _ (show 7 + j ≠ 7 + k by omega), updF_other _ _ e, updF_other _ _ e, updF_other _ _ e]; exact h.kr j hj
  kl := fun j hj => by rw [updF_other _ _ (by omega), updF_other _ _ (by omega), updF_other _ _ (by omega), updF_other _ _ (by omega)]; exact h.kl j hj
  kw := fun j hj => by rw [updF_other _ _ (by omega), updF_other _ _ (by omega), updF_other _ _ (by omega), updF_other _ _ (by omega)]; exact h.kw j hj
  nl := fun j hj => by rw [updF_other _ _ (by omega), updF_other _ _ (by omega)]; exact h.nl j hj
  nw := fun j hj => by rw [updF_other _ _ (by omega), updF_other _ _ (by omega)]; exact h.nw j hj
  bl := h.bl
theorem range_snoc (f : Nat → Value) (n : Nat) (v : Value) : (List.range (n + 1)).map (updF f n v) = (List.range n).map f ++ [v] := by
  rw [List.range_succ, List.map_append]
  congr 1
  · exact List.map_congr_left fun i hi => updF_other _ _ (by have := List.mem_range.1 hi; omega)
  · simp [updF_same]
theorem getD_snoc_lt {α : Type} (L : List α) (l d : α) {j : Nat} (h : j < L.length) : (L ++ [l]).getD j d = L.getD j d := by simp [List.getD, List.getElem?_append_left h]
theorem getD_snoc_at {α : Type} (L : List α) (l d : α) : (L ++ [l]).getD L.length d = l := by simp [List.getD]
/-- a list that came out, put behind the others -/
theorem Kn.out {N gs gr : Nat} {F : Nat → List Nat} {Pr : Nat → World → Prop} {D : SD} (h : Kn N gs gr F Pr D) (a ov' : Value) (l : List Int) (hl : l.length ≤ 1048576) :
    Kn N gs gr (updF (updF F (100 + 2 * D.L.length) a.ownBlock.toList) 3 ov'.ownBlock.toList)
      (updF (updF Pr (100 + 2 * D.L.length) (fun w => w.ownsRow N 3 1 a l.length (I64 l))) 3 (fun w => w.ownsRow N 35 1 ov' (D.L.length + 1) ((List.range D.L.length).map D.ow ++ [a])))
      { D with ov := ov', L := D.L ++ [l], ow := updF D.ow D.L.length a } where
  k1 := by rw [updF_other _ _ (by omega), updF_other _ _ (by omega)]; exact h.k1
  f1 := by rw [updF_other _ _ (by omega), updF_other _ _ (by omega)]; exact h.f1
  k2 := by rw [updF_other _ _ (by omega), updF_other _ _ (by omega)]; exact h.k2
  f2 := by rw [updF_other _ _ (by omega), updF_other _ _ (by omega)]; exact h.f2
  k3 := by
    rw [updF_same]
    show _ = fun w : World => w.ownsRow N 35 1 ov' (D.L ++ [l]).length ((List.range (D.L ++ [l]).length).map (updF D.ow D.L.length a))
    rw [List.length_append, List.length_singleton, range_snoc]
  f3 := updF_same _ _ _
  k4 := by rw [updF_other _ _ (by omega), updF_other _ _ (by omega)]; exact h.k4
  f4 := by rw [updF_other _ _ (by omega), updF_other _ _ (by omega)]; exact h.f4
  ks := fun j hj => by rw [updF_other _ _ (by omega), updF_other _ _ (by omega), updF_other _ _ (by omega), updF_other _ _ (by omega)]; exact h.ks j hj
  kr := fun j hj => by rw [updF_other _ _ (by omega), updF_other _ _ (by omega), updF_other _ _ (by omega), updF_other _ _ (by omega)]; exact h.kr j hj
  kl := fun j hj => by
    show updF (updF Pr _ _) 3 _ (100 + 2 * j) = (fun w => w.ownsRow N 3 1 (updF D.ow D.L.length a j) ((D.L ++ [l]).getD j []).length (I64 ((D.L ++ [l]).getD j []))) ∧ updF (updF F _ _) 3 _ (100 + 2 * j) = (updF D.ow D.L.length a j).ownBlock.toList
    have hj' : j < D.L.length + 1 := by simpa using hj
    rw [updF_other _ _ (show 100 + 2 * j ≠ 3 by omega), updF_other _ _ (show 100 + 2 * j ≠ 3 by omega)]
    by_cases e : j = D.L.length
    · subst e
      rw [updF_same, updF_same, updF_same, getD_snoc_at]
      exact ⟨rfl, rfl⟩
    · rw [updF_other _ _ (show 100 + 2 * j ≠ 100 + 2 * D.L.length by omega), updF_other _ _ (show 100 + 2 * j ≠ 100 + 2 * D.L.length by omega), updF_other _ _ e, getD_snoc_lt _ _ _ (by omega)]
      exact h.kl j (by omega)
  kw := fun j hj => by rw [updF_other _ _ (by omega), updF_other _ _ (by omega), updF_other _ _ (by omega), updF_other _ _ (by omega)]; exact h.kw j hj
  nl := fun j hj => by
    have hj' : D.L.length + 1 ≤ j := by simpa using hj
    rw [updF_other _ _ (by omega), updF_other _ _ (by omega)]; exact h.nl j (by omega)
  nw := fun j hj => by rw [updF_other _ _ (by omega), updF_other _ _ (by omega)]; exact h.nw j hj
  bl := fun j hj => by
    show ((D.L ++ [l]).getD j []).length ≤ 1048576
    have hj' : j < D.L.length + 1 := by simpa using hj
    by_cases e : j = D.L.length
    · subst e; rw [getD_snoc_at]; exact hl
    · rw [getD_snoc_lt _ _ _ (by omega)]; exact h.bl j (by omega)
theorem Kn.were {N gs gr : Nat} {F : Nat → List Nat} {Pr : Nat → World → Prop} {D : SD} (h : Kn N gs gr F Pr D) (a wv' : Value) (l : List Int) :
    Kn N gs gr (updF (updF F (101 + 2 * D.L'.length) a.ownBlock.toList) 4 wv'.ownBlock.toList)
      (updF (updF Pr (101 + 2 * D.L'.length) (fun w => w.ownsRow N 3 1 a l.length (I64 l))) 4 (fun w => w.ownsRow N 35 1 wv' (D.L'.length + 1) ((List.range D.L'.length).map D.ww ++ [a])))
      { D with wv := wv', L' := D.L' ++ [l], ww := updF D.ww D.L'.length a } where
  k1 := by rw [updF_other _ _ (by omega), updF_other _ _ (by omega)]; exact h.k1
  f1 := by rw [updF_other _ _ (by omega), updF_other _ _ (by omega)]; exact h.f1
  k2 := by rw [updF_other _ _ (by omega), updF_other _ _ (by omega)]; exact h.k2
  f2 := by rw [updF_other _ _ (by omega), updF_other _ _ (by omega)]; exact h.f2
  k3 := by rw [updF_other _ _ (by omega), updF_other _ _ (by omega)]; exact h.k3
  f3 := by rw [updF_other _ _ (by omega), updF_other _ _ (by omega)]; exact h.f3
  k4 := by
    rw [updF_same]
    show _ = fun w : World => w.ownsRow N 35 1 wv' (D.L' ++ [l]).length ((List.range (D.L' ++ [l]).length).map (updF D.ww D.L'.length a))
    rw [List.length_append, List.length_singleton, range_snoc]
  f4 := updF_same _ _ _
  ks := fun j hj => by rw [updF_other _ _ (by omega), updF_other _ _ (by omega), updF_other _ _ (by omega), updF_other _ _ (by omega)]; exact h.ks j hj
  kr := fun j hj => by rw [updF_other _ _ (by omega), updF_other _ _ (by omega), updF_other _ _ (by omega), updF_other _ _ (by omega)]; exact h.kr j hj
  kl := fun j hj => by rw [updF_other _ _ (by omega), updF_other _ _ (by omega), updF_other _ _ (by omega), updF_other _ _ (by omega)]; exact h.kl j hj
  kw := fun j hj => by
    show updF (updF Pr _ _) 4 _ (101 + 2 * j) = (fun w => w.ownsRow N 3 1 (updF D.ww D.L'.length a j) ((D.L' ++ [l]).getD j []).length (I64 ((D.L' ++ [l]).getD j []))) ∧ updF (updF F _ _) 4 _ (101 + 2 * j) = (updF D.ww D.L'.length a j).ownBlock.toList
    have hj' : j < D.L'.length + 1 := by simpa using hj
    rw [updF_other _ _ (show 101 + 2 * j ≠ 4 by omega), updF_other _ _ (show 101 + 2 * j ≠ 4 by omega)]
    by_cases e : j = D.L'.length
    · subst e
      rw [updF_same, updF_same, updF_same, getD_snoc_at]
      exact ⟨rfl, rfl⟩
    · rw [updF_other _ _ (show 101 + 2 * j ≠ 101 + 2 * D.L'.length by omega), updF_other _ _ (show 101 + 2 * j ≠ 101 + 2 * D.L'.length by omega), updF_other _ _ e, getD_snoc_lt _ _ _ (by omega)]
      exact h.kw j (by omega)
  nl := fun j hj => by rw [updF_other _ _ (by omega), updF_other _ _ (by omega)]; exact h.nl j hj
  nw := fun j hj => by
    have hj' : D.L'.length + 1 ≤ j := by simpa using hj
    rw [updF_other _ _ (by omega), updF_other _ _ (by omega)]; exact h.nw j (by omega)
  bl := h.bl
theorem St.base (w : World) : St w.heap.size w w (fun _ => []) (fun _ _ => True) :=
  ⟨fun _ => trivial, fun _ _ _ _ _ => trivial, fun c k hk => by simp at hk, fun c c' _ k hk => by simp at hk, Below.refl _ _, Nat.le_refl _⟩
end Go.Proofs.Ytlidhjcciglinaa
