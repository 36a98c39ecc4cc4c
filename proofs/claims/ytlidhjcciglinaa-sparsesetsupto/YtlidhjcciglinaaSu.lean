/- HELPERS: the sets' methods, told of all that there is. -/
import Derived.Test.YtlidhjcciglinaaSt
namespace Go.Proofs.Ytlidhjcciglinaa
open Go.RowKit
set_option linter.unusedVariables false
set_option linter.unusedSimpArgs false
/-- all that there is: the sets, the lists that came out, the step -/
def Nv (N : Nat) (w wr : World) (gs gr xb : Nat) (X : Obj) (D : SD) : Prop :=
  ∃ F Pr, St N w wr F Pr ∧ Kn N gs gr F Pr D ∧ Pr 9 = (fun w => w.heap[xb]? = some X) ∧ F 9 = [xb]
section
variable {N : Nat} {w wr w1 : World} {gs gr xb : Nat} {X : Obj} {D : SD}
theorem Nv.below (h : Nv N w wr gs gr xb X D) : Below N w wr := by
  obtain ⟨F, Pr, h1, _⟩ := h
  exact h1.below
theorem Nv.sz (h : Nv N w wr gs gr xb X D) : N ≤ wr.heap.size := by
  obtain ⟨F, Pr, h1, _⟩ := h
  exact h1.sz
theorem Nv.next (h : Nv N w wr gs gr xb X D) (hb : Below wr.heap.size wr w1) : Nv N w w1 gs gr xb X D := by
  obtain ⟨F, Pr, h1, h2⟩ := h
  exact ⟨F, Pr, h1.next hb, h2⟩
theorem Nv.drewN (h : Nv N w wr gs gr xb X D) (q : Nat) : Nv N w (wr.drewN q) gs gr xb X D := h.next (Joins.below_draws _ _ _)
theorem Nv.drew (h : Nv N w wr gs gr xb X D) : Nv N w wr.drew gs gr xb X D := h.next ((Below.refl _ _).drew)
theorem Nv.step (h : Nv N w wr gs gr xb X D) : wr.heap[xb]? = some X := by
  obtain ⟨F, Pr, h1, h2, h3, h4⟩ := h
  have := h1.pr 9
  rw [h3] at this
  exact this
theorem Nv.s (h : Nv N w wr gs gr xb X D) : wr.heap[gs]? = some (.cells #[ptr (D.p 0), ptr (D.p 1)] 24 (0, 0)) := by
  obtain ⟨F, Pr, h1, h2, h3, h4⟩ := h
  have := h1.pr 1
  rw [h2.k1] at this
  exact this
theorem Nv.r (h : Nv N w wr gs gr xb X D) : wr.heap[gr]? = some (.cells #[ptr (D.q 0), ptr (D.q 1)] 27 (0, 0)) := by
  obtain ⟨F, Pr, h1, h2, h3, h4⟩ := h
  have := h1.pr 2
  rw [h2.k2] at this
  exact this
/-- the step's block made anew -/
theorem Nv.anew (h : Nv N w wr gs gr xb X D) (c : Array Value) : Nv N w (wr.alloc (.cells c 32)) gs gr wr.heap.size (.cells c 32 (0, 0)) D := by
  obtain ⟨F, Pr, h1, h2, h3, h4⟩ := h
  refine ⟨_, _, h1.upd 9 [wr.heap.size] (fun w => w.heap[wr.heap.size]? = some (.cells c 32 (0, 0))) ⟨rfl, rfl, rfl, by simp, fun k hk _ => heap_alloc_old wr _ hk, fun k hk => by simp at hk; subst hk; exact .inr (Nat.le_refl _)⟩ (heap_alloc_new wr _) (fun a b ha hk => (hk _ (by simp)).trans ha) (fun k hk => by simp at hk; subst hk; simp), h2.other 9 (by omega) (by omega) _ _, updF_same _ _ _, updF_same _ _ _⟩
theorem Nv.anew' (F : Nat → List Nat) (Pr : Nat → World → Prop) (h1 : St N w wr F Pr) (h2 : Kn N gs gr F Pr D) (c : Array Value) : Nv N w (wr.alloc (.cells c 32)) gs gr wr.heap.size (.cells c 32 (0, 0)) D :=
  ⟨_, _, h1.upd 9 [wr.heap.size] (fun w => w.heap[wr.heap.size]? = some (.cells c 32 (0, 0))) ⟨rfl, rfl, rfl, by simp, fun k hk _ => heap_alloc_old wr _ hk, fun k hk => by simp at hk; subst hk; exact .inr (Nat.le_refl _)⟩ (heap_alloc_new wr _) (fun a b ha hk => (hk _ (by simp)).trans ha) (fun k hk => by simp at hk; subst hk; simp), h2.other 9 (by omega) (by omega) _ _, updF_same _ _ _, updF_same _ _ _⟩
theorem Nv.set (h : Nv N w wr gs gr xb X D) (k : Nat) (hk : k < 2) : ∃ F, SetS N wr (D.p k) F (D.n k) (D.A k) ∧ ∀ w1 F' A1, SetS N w1 (D.p k) F' (D.n k) A1 → Chg wr w1 F F' → Nv N w w1 gs gr xb X { D with A := updF D.A k A1 } := by
  obtain ⟨F, Pr, h1, h2, h3, h4⟩ := h
  have hp := h1.pr (5 + k)
  rw [h2.ks k hk] at hp
  refine ⟨F (5 + k), hp, fun w1 F' A1 hs hc => ⟨_, _, h1.upd (5 + k) F' (fun w => SetS N w (D.p k) F' (D.n k) A1) hc hs (fun a b ha hk => ha.kept hk) (fun j hj => (hs.low j hj).2), h2.set k hk F' A1, ?_, ?_⟩⟩
  · rw [updF_other _ _ (by omega)]; exact h3
  · rw [updF_other _ _ (by omega)]; exact h4
theorem Nv.ref (h : Nv N w wr gs gr xb X D) (k : Nat) (hk : k < 2) : ∃ F, RefS N wr (D.q k) F (D.n' k) (D.A' k) ∧ ∀ w1 F' A1, RefS N w1 (D.q k) F' (D.n' k) A1 → Chg wr w1 F F' → Nv N w w1 gs gr xb X { D with A' := updF D.A' k A1 } := by
  obtain ⟨F, Pr, h1, h2, h3, h4⟩ := h
  have hp := h1.pr (7 + k)
  rw [h2.kr k hk] at hp
  refine ⟨F (7 + k), hp, fun w1 F' A1 hs hc => ⟨_, _, h1.upd (7 + k) F' (fun w => RefS N w (D.q k) F' (D.n' k) A1) hc hs (fun a b ha hk => ha.kept hk) (fun j hj => (hs.low j hj).2), h2.ref k hk F' A1, ?_, ?_⟩⟩
  · rw [updF_other _ _ (by omega)]; exact h3
  · rw [updF_other _ _ (by omega)]; exact h4
theorem v_add (h : Nv N w wr gs gr xb X D) (k p m : Nat) (hk : k < 2) (hp : D.p k = p) (hm : D.n k = m) (A : List Int) (hA : D.A k = A) (x : Int) (hx : fresh m A x) :
    Calls Try.prog 10 #[.pointer (some ⟨p, 0, none⟩), .int .i64 x] wr fun e w' => e = .returned (.bool true) ∧ Nv N w w' gs gr xb X { D with A := updF D.A k (A ++ [x]) } ∧ A.length < 1048576 := by
  subst hp hm hA
  obtain ⟨F, hs, hn⟩ := h.set k hk
  refine (add10 N (D.p k) F (D.n k) (D.A k) x wr hs hx h.sz).mono ?_
  rintro e w1 ⟨rfl, F', k1, k2⟩
  have := k1.len
  rw [List.length_append, List.length_singleton] at this
  exact ⟨rfl, hn w1 F' _ k1 k2, by omega⟩
theorem updF_self {α : Type} (f : Nat → α) (k : Nat) : updF f k (f k) = f := by
  funext j
  by_cases e : j = k
  · subst e; exact updF_same _ _ _
  · exact updF_other _ _ e
theorem v_add_no (h : Nv N w wr gs gr xb X D) (k p m : Nat) (hk : k < 2) (hp : D.p k = p) (hm : D.n k = m) (A : List Int) (hA : D.A k = A) (x : Int) (hx : ¬ fresh m A x) :
    Calls Try.prog 10 #[.pointer (some ⟨p, 0, none⟩), .int .i64 x] wr fun e w' => e = .returned (.bool false) ∧ Nv N w w' gs gr xb X D := by
  subst hp hm hA
  obtain ⟨F, hs, hn⟩ := h.set k hk
  refine (add10_no N (D.p k) F (D.n k) (D.A k) x wr hs hx).mono ?_
  rintro e w1 ⟨rfl, k1, k2⟩
  have := hn w1 F _ k1 k2
  rw [updF_self] at this
  exact ⟨rfl, this⟩
theorem v_radd (h : Nv N w wr gs gr xb X D) (k p m : Nat) (hk : k < 2) (hp : D.q k = p) (hm : D.n' k = m) (A : List Int) (hA : D.A' k = A) (x : Int) (hx : fresh m A x) (hl : A.length < 1048576) :
    Calls Try.prog 11 #[.pointer (some ⟨p, 0, none⟩), .int .i64 x] wr fun e w' => e = .returned (.bool true) ∧ Nv N w w' gs gr xb X { D with A' := updF D.A' k (A ++ [x]) } := by
  subst hp hm hA
  obtain ⟨F, hs, hn⟩ := h.ref k hk
  refine (add11 N (D.q k) F (D.n' k) (D.A' k) x wr hs hx h.sz hl).mono ?_
  rintro e w1 ⟨rfl, F', k1, k2⟩
  exact ⟨rfl, hn w1 F' _ k1 k2⟩
theorem v_radd_no (h : Nv N w wr gs gr xb X D) (k p m : Nat) (hk : k < 2) (hp : D.q k = p) (hm : D.n' k = m) (A : List Int) (hA : D.A' k = A) (x : Int) (hx : ¬ fresh m A x) :
    Calls Try.prog 11 #[.pointer (some ⟨p, 0, none⟩), .int .i64 x] wr fun e w' => e = .returned (.bool false) ∧ w' = wr := by
  subst hp hm hA
  obtain ⟨F, hs, hn⟩ := h.ref k hk
  exact add11_no N (D.q k) F (D.n' k) (D.A' k) x wr hs hx
theorem v_has (h : Nv N w wr gs gr xb X D) (k p : Nat) (hk : k < 2) (hp : D.p k = p) (A : List Int) (hA : D.A k = A) (x : Int) :
    Calls Try.prog 12 #[.pointer (some ⟨p, 0, none⟩), .int .i64 x] wr fun e w' => e = .returned (.bool (decide (x ∈ A))) ∧ ∃ q, w' = wr.drewN q := by
  subst hp hA
  obtain ⟨F, hs, hn⟩ := h.set k hk
  exact has12 N (D.p k) F (D.n k) (D.A k) x wr hs
theorem v_rhas (h : Nv N w wr gs gr xb X D) (k p : Nat) (hk : k < 2) (hp : D.q k = p) (A : List Int) (hA : D.A' k = A) (x : Int) :
    Calls Try.prog 13 #[.pointer (some ⟨p, 0, none⟩), .int .i64 x] wr fun e w' => e = .returned (.bool (decide (x ∈ A))) ∧ w' = wr := by
  subst hp hA
  obtain ⟨F, hs, hn⟩ := h.ref k hk
  exact has13 N (D.q k) F (D.n' k) (D.A' k) x wr hs
theorem v_len (h : Nv N w wr gs gr xb X D) (k p : Nat) (hk : k < 2) (hp : D.p k = p) (A : List Int) (hA : D.A k = A) :
    Calls Try.prog 14 #[.pointer (some ⟨p, 0, none⟩)] wr fun e w' => e = .returned (.int .i64 (A.length : Int)) ∧ w' = wr := by
  subst hp hA
  obtain ⟨F, hs, hn⟩ := h.set k hk
  exact len14 N (D.p k) F (D.n k) (D.A k) wr hs
theorem v_rlen (h : Nv N w wr gs gr xb X D) (k p : Nat) (hk : k < 2) (hp : D.q k = p) (A : List Int) (hA : D.A' k = A) :
    Calls Try.prog 15 #[.pointer (some ⟨p, 0, none⟩)] wr fun e w' => e = .returned (.int .i64 (A.length : Int)) ∧ w' = wr := by
  subst hp hA
  obtain ⟨F, hs, hn⟩ := h.ref k hk
  exact len15 N (D.q k) F (D.n' k) (D.A' k) wr hs
theorem v_clear (h : Nv N w wr gs gr xb X D) (k p : Nat) (hk : k < 2) (hp : D.p k = p) :
    Calls Try.prog 16 #[.pointer (some ⟨p, 0, none⟩)] wr fun e w' => e = .returned (.tuple #[]) ∧ Nv N w w' gs gr xb X { D with A := updF D.A k [] } := by
  subst hp
  obtain ⟨F, hs, hn⟩ := h.set k hk
  refine (clear16 N (D.p k) F (D.n k) (D.A k) wr hs).mono ?_
  rintro e w1 ⟨rfl, k1, k2⟩
  exact ⟨rfl, hn w1 F _ k1 k2⟩
theorem v_rclear (h : Nv N w wr gs gr xb X D) (k p : Nat) (hk : k < 2) (hp : D.q k = p) :
    Calls Try.prog 17 #[.pointer (some ⟨p, 0, none⟩)] wr fun e w' => e = .returned (.tuple #[]) ∧ Nv N w w' gs gr xb X { D with A' := updF D.A' k [] } := by
  subst hp
  obtain ⟨F, hs, hn⟩ := h.ref k hk
  refine (clear17 N (D.q k) F (D.n' k) (D.A' k) wr hs).mono ?_
  rintro e w1 ⟨rfl, F', k1, k2⟩
  exact ⟨rfl, hn w1 F' _ k1 k2⟩
theorem ptrs_set (f : Nat → Nat) (k p1 : Nat) (hk : k < 2) : (#[ptr (f 0), ptr (f 1)] : Array Value).setIfInBounds k (ptr p1) = #[ptr (updF f k p1 0), ptr (updF f k p1 1)] := by
  have : k = 0 ∨ k = 1 := by omega
  rcases this with rfl | rfl <;> rfl
/-- a new set is put into its place -/
theorem v_new (h : Nv N w wr gs gr xb X D) (k : Nat) (hk : k < 2) {p1 m : Nat} {F' : List Nat} (hs : SetS wr.heap.size w1 p1 F' m []) (hb : Below wr.heap.size wr w1) :
    Nv N w (w1.setCell ⟨gs, k, none⟩ (ptr p1)) gs gr xb X { D with p := updF D.p k p1, n := updF D.n k m, A := updF D.A k [] } := by
  have h0 := h.sz
  obtain ⟨F, Pr, h1, h2, h3, h4⟩ := h
  have hc : Chg wr w1 (F (5 + k)) F' := ⟨hb.os, hb.tape, hb.output, hb.size, fun j hj _ => hb.block j hj, fun j hj => .inr (hs.low j hj).1⟩
  have u1 := h1.upd (5 + k) F' (fun w => SetS N w p1 F' m []) hc (hs.mono h0) (fun a b ha hk => ha.kept hk) (fun j hj => (hs.low j hj).2)
  have e1 : updF F (5 + k) F' 1 = [gs] := by rw [updF_other _ _ (by omega)]; exact h2.f1
  have hg : w1.heap[gs]? = some (.cells #[ptr (D.p 0), ptr (D.p 1)] 24 (0, 0)) := by
    have := u1.pr 1
    rw [updF_other _ _ (by omega), h2.k1] at this
    exact this
  have hg2 := Joins.block_setCell (i := k) hg (ptr p1)
  rw [ptrs_set _ _ _ hk] at hg2
  have hlt : gs < (w1.setCell ⟨gs, k, none⟩ (ptr p1)).heap.size := (Array.getElem?_eq_some_iff.1 hg2).1
  have u2 := u1.upd 1 [gs] (fun w => w.heap[gs]? = some (.cells #[ptr (updF D.p k p1 0), ptr (updF D.p k p1 1)] 24 (0, 0))) (by rw [e1]; exact (Chg.refl w1 [gs]).set (a := ⟨gs, k, none⟩) (ptr p1) (by simp)) hg2 (fun a b ha hk => (hk _ (by simp)).trans ha) (fun j hj => by simp at hj; subst hj; exact hlt)
  refine ⟨_, _, u2, h2.new k hk F' p1 m, ?_, ?_⟩
  · rw [updF_other _ _ (by omega), updF_other _ _ (by omega)]; exact h3
  · rw [updF_other _ _ (by omega), updF_other _ _ (by omega)]; exact h4
theorem v_rnew (h : Nv N w wr gs gr xb X D) (k : Nat) (hk : k < 2) {p1 m : Nat} {F' : List Nat} (hs : RefS wr.heap.size w1 p1 F' m []) (hb : Below wr.heap.size wr w1) :
    Nv N w (w1.setCell ⟨gr, k, none⟩ (ptr p1)) gs gr xb X { D with q := updF D.q k p1, n' := updF D.n' k m, A' := updF D.A' k [] } := by
  have h0 := h.sz
  obtain ⟨F, Pr, h1, h2, h3, h4⟩ := h
  have hc : Chg wr w1 (F (7 + k)) F' := ⟨hb.os, hb.tape, hb.output, hb.size, fun j hj _ => hb.block j hj, fun j hj => .inr (hs.low j hj).1⟩
  have u1 := h1.upd (7 + k) F' (fun w => RefS N w p1 F' m []) hc (hs.mono h0) (fun a b ha hk => ha.kept hk) (fun j hj => (hs.low j hj).2)
  have e1 : updF F (7 + k) F' 2 = [gr] := by rw [updF_other _ _ (by omega)]; exact h2.f2
  have hg : w1.heap[gr]? = some (.cells #[ptr (D.q 0), ptr (D.q 1)] 27 (0, 0)) := by
    have := u1.pr 2
    rw [updF_other _ _ (by omega), h2.k2] at this
    exact this
  have hg2 := Joins.block_setCell (i := k) hg (ptr p1)
  rw [ptrs_set _ _ _ hk] at hg2
  have hlt : gr < (w1.setCell ⟨gr, k, none⟩ (ptr p1)).heap.size := (Array.getElem?_eq_some_iff.1 hg2).1
  have u2 := u1.upd 2 [gr] (fun w => w.heap[gr]? = some (.cells #[ptr (updF D.q k p1 0), ptr (updF D.q k p1 1)] 27 (0, 0))) (by rw [e1]; exact (Chg.refl w1 [gr]).set (a := ⟨gr, k, none⟩) (ptr p1) (by simp)) hg2 (fun a b ha hk => (hk _ (by simp)).trans ha) (fun j hj => by simp at hj; subst hj; exact hlt)
  refine ⟨_, _, u2, h2.newR k hk F' p1 m, ?_, ?_⟩
  · rw [updF_other _ _ (by omega), updF_other _ _ (by omega)]; exact h3
  · rw [updF_other _ _ (by omega), updF_other _ _ (by omega)]; exact h4
end
end Go.Proofs.Ytlidhjcciglinaa
