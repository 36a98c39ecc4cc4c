/- HELPERS: the lists that two sets tell, put behind the others. -/
import Derived.Test.YtlidhjcciglinaaSu
namespace Go.Proofs.Ytlidhjcciglinaa
open Go.RowKit
set_option linter.unusedVariables false
set_option linter.unusedSimpArgs false
theorem updF_comm {α : Type} (f : Nat → α) {a b : Nat} (x y : α) (h : a ≠ b) : updF (updF f a x) b y = updF (updF f b y) a x := by
  funext j
  by_cases e : j = a
  · subst e; rw [updF_other _ _ h, updF_same, updF_same]
  · by_cases e' : j = b
    · subst e'; rw [updF_same, updF_other _ _ e, updF_same]
    · rw [updF_other _ _ e', updF_other _ _ e, updF_other _ _ e, updF_other _ _ e']
/-- all that there is, and one list besides -/
def Na (N : Nat) (w wr : World) (gs gr xb : Nat) (X : Obj) (D : SD) (a : Value) (l : List Int) : Prop :=
  ∃ F Pr, St N w wr (updF F (100 + 2 * D.L.length) a.ownBlock.toList) (updF Pr (100 + 2 * D.L.length) (fun w => w.ownsRow N 3 1 a l.length (I64 l))) ∧ Kn N gs gr F Pr D ∧ Pr 9 = (fun w => w.heap[xb]? = some X) ∧ F 9 = [xb]
/-- .. and two -/
def Nb (N : Nat) (w wr : World) (gs gr xb : Nat) (X : Obj) (D : SD) (a b : Value) (l l' : List Int) : Prop :=
  ∃ F Pr, St N w wr (updF (updF F (100 + 2 * D.L.length) a.ownBlock.toList) (101 + 2 * D.L'.length) b.ownBlock.toList) (updF (updF Pr (100 + 2 * D.L.length) (fun w => w.ownsRow N 3 1 a l.length (I64 l))) (101 + 2 * D.L'.length) (fun w => w.ownsRow N 3 1 b l'.length (I64 l'))) ∧ Kn N gs gr F Pr D ∧ Pr 9 = (fun w => w.heap[xb]? = some X) ∧ F 9 = [xb]
/-- .. and of the two the second -/
def Nc (N : Nat) (w wr : World) (gs gr xb : Nat) (X : Obj) (D : SD) (b : Value) (l' : List Int) : Prop :=
  ∃ F Pr, St N w wr (updF F (101 + 2 * D.L'.length) b.ownBlock.toList) (updF Pr (101 + 2 * D.L'.length) (fun w => w.ownsRow N 3 1 b l'.length (I64 l'))) ∧ Kn N gs gr F Pr D ∧ Pr 9 = (fun w => w.heap[xb]? = some X) ∧ F 9 = [xb]
section
variable {N : Nat} {w wr w1 : World} {gs gr xb : Nat} {X : Obj} {D : SD} {a b : Value} {l l' : List Int}
theorem chg_new {v : Value} {n : Nat} {xs : List Value} {e : TypeId} (hb : Below wr.heap.size wr w1) (ho : w1.ownsRow wr.heap.size e 1 v n xs) : Chg wr w1 [] v.ownBlock.toList :=
  ⟨hb.os, hb.tape, hb.output, hb.size, fun j hj _ => hb.block j hj, fun j hj => .inr (ho.lt j (by simpa using hj)).1⟩
theorem row_loc (N : Nat) (e : TypeId) (v : Value) (n : Nat) (xs : List Value) : ∀ x y : World, x.ownsRow N e 1 v n xs → (∀ k ∈ v.ownBlock.toList, y.heap[k]? = x.heap[k]?) → y.ownsRow N e 1 v n xs :=
  fun x y h hk => row_kept h (fun b hb => hk b (by simp [hb]))
theorem Nv.listed (h : Nv N w wr gs gr xb X D) (ho : w1.ownsRow wr.heap.size 3 1 a l.length (I64 l)) (hb : Below wr.heap.size wr w1) : Na N w w1 gs gr xb X D a l := by
  have h0 := h.sz
  obtain ⟨F, Pr, h1, h2, h3⟩ := h
  exact ⟨F, Pr, h1.upd _ _ (fun w => w.ownsRow N 3 1 a l.length (I64 l)) (by rw [h2.nl _ (Nat.le_refl _)]; exact chg_new hb ho) (Joins.ownsRow_le ho h0) (row_loc _ _ _ _ _) (fun j hj => (ho.lt j (by simpa using hj)).2), h2, h3⟩
theorem Na.listed (h : Na N w wr gs gr xb X D a l) (ho : w1.ownsRow wr.heap.size 3 1 b l'.length (I64 l')) (hb : Below wr.heap.size wr w1) : Nb N w w1 gs gr xb X D a b l l' := by
  obtain ⟨F, Pr, h1, h2, h3⟩ := h
  have h0 := h1.sz
  refine ⟨F, Pr, h1.upd _ _ (fun w => w.ownsRow N 3 1 b l'.length (I64 l')) ?_ (Joins.ownsRow_le ho h0) (row_loc _ _ _ _ _) (fun j hj => (ho.lt j (by simpa using hj)).2), h2, h3⟩
  rw [updF_other _ _ (by omega), h2.nw _ (Nat.le_refl _)]
  exact chg_new hb ho
theorem Na.ref (h : Na N w wr gs gr xb X D a l) (k : Nat) (hk : k < 2) : ∃ F, RefS N wr (D.q k) F (D.n' k) (D.A' k) := by
  obtain ⟨F, Pr, h1, h2, h3⟩ := h
  have hp := h1.pr (7 + k)
  rw [updF_other _ _ (by omega), h2.kr k hk] at hp
  exact ⟨_, hp⟩
theorem Na.r (h : Na N w wr gs gr xb X D a l) : wr.heap[gr]? = some (.cells #[ptr (D.q 0), ptr (D.q 1)] 27 (0, 0)) := by
  obtain ⟨F, Pr, h1, h2, h3, h4⟩ := h
  have := h1.pr 2
  rw [updF_other _ _ (by omega), h2.k2] at this
  exact this
theorem Nb.next (h : Nb N w wr gs gr xb X D a b l l') (hb : Below wr.heap.size wr w1) : Nb N w w1 gs gr xb X D a b l l' := by
  obtain ⟨F, Pr, h1, h2⟩ := h
  exact ⟨F, Pr, h1.next hb, h2⟩
theorem Nb.drewN (h : Nb N w wr gs gr xb X D a b l l') (q : Nat) : Nb N w (wr.drewN q) gs gr xb X D a b l l' := h.next (Joins.below_draws _ _ _)
theorem Nb.sz (h : Nb N w wr gs gr xb X D a b l l') : N ≤ wr.heap.size := by
  obtain ⟨F, Pr, h1, _⟩ := h
  exact h1.sz
theorem Nb.s (h : Nb N w wr gs gr xb X D a b l l') : wr.heap[gs]? = some (.cells #[ptr (D.p 0), ptr (D.p 1)] 24 (0, 0)) := by
  obtain ⟨F, Pr, h1, h2, h3, h4⟩ := h
  have := h1.pr 1
  rw [updF_other _ _ (by omega), updF_other _ _ (by omega), h2.k1] at this
  exact this
theorem Nb.r (h : Nb N w wr gs gr xb X D a b l l') : wr.heap[gr]? = some (.cells #[ptr (D.q 0), ptr (D.q 1)] 27 (0, 0)) := by
  obtain ⟨F, Pr, h1, h2, h3, h4⟩ := h
  have := h1.pr 2
  rw [updF_other _ _ (by omega), updF_other _ _ (by omega), h2.k2] at this
  exact this
theorem Nb.fst (h : Nb N w wr gs gr xb X D a b l l') : wr.ownsRow N 3 1 a l.length (I64 l) := by
  obtain ⟨F, Pr, h1, h2, h3⟩ := h
  have hp := h1.pr (100 + 2 * D.L.length)
  rw [updF_other _ _ (by omega), updF_same] at hp
  exact hp
theorem Nb.snd (h : Nb N w wr gs gr xb X D a b l l') : wr.ownsRow N 3 1 b l'.length (I64 l') := by
  obtain ⟨F, Pr, h1, h2, h3⟩ := h
  have hp := h1.pr (101 + 2 * D.L'.length)
  rw [updF_same] at hp
  exact hp
theorem Nb.len (h : Nb N w wr gs gr xb X D a b l l') (k p : Nat) (hk : k < 2) (hp : D.p k = p) (A : List Int) (hA : D.A k = A) :
    Calls Try.prog 14 #[.pointer (some ⟨p, 0, none⟩)] wr fun e w' => e = .returned (.int .i64 (A.length : Int)) ∧ w' = wr := by
  subst hp hA
  obtain ⟨F, Pr, h1, h2, h3⟩ := h
  have hp := h1.pr (5 + k)
  rw [updF_other _ _ (by omega), updF_other _ _ (by omega), h2.ks k hk] at hp
  exact len14 N (D.p k) _ (D.n k) (D.A k) wr hp
theorem Nb.rlen (h : Nb N w wr gs gr xb X D a b l l') (k p : Nat) (hk : k < 2) (hp : D.q k = p) (A : List Int) (hA : D.A' k = A) :
    Calls Try.prog 15 #[.pointer (some ⟨p, 0, none⟩)] wr fun e w' => e = .returned (.int .i64 (A.length : Int)) ∧ w' = wr := by
  subst hp hA
  obtain ⟨F, Pr, h1, h2, h3⟩ := h
  have hp := h1.pr (7 + k)
  rw [updF_other _ _ (by omega), updF_other _ _ (by omega), h2.kr k hk] at hp
  exact len15 N (D.q k) _ (D.n' k) (D.A' k) wr hp
theorem Nb.row (h : Nb N w wr gs gr xb X D a b l l') : wr.ownsRow N 35 1 D.ov D.L.length ((List.range D.L.length).map D.ow) := by
  obtain ⟨F, Pr, h1, h2, h3⟩ := h
  have hp := h1.pr 3
  rw [updF_other _ _ (by omega), updF_other _ _ (by omega), h2.k3] at hp
  exact hp
theorem Nc.row (h : Nc N w wr gs gr xb X D b l') : wr.ownsRow N 35 1 D.wv D.L'.length ((List.range D.L'.length).map D.ww) := by
  obtain ⟨F, Pr, h1, h2, h3⟩ := h
  have hp := h1.pr 4
  rw [updF_other _ _ (by omega), h2.k4] at hp
  exact hp
theorem Nc.sz (h : Nc N w wr gs gr xb X D b l') : N ≤ wr.heap.size := by
  obtain ⟨F, Pr, h1, _⟩ := h
  exact h1.sz
theorem Nb.out (h : Nb N w wr gs gr xb X D a b l l') (hl : l.length ≤ 1048576) {ov' : Value} {o : Obj} (ho : w1.ownsRow N 35 1 ov' (D.L.length + 1) ((List.range D.L.length).map D.ow ++ [a])) (hm : Moved (wr.alloc o) w1 D.ov ov') :
    Nc N w w1 gs gr xb X { D with ov := ov', L := D.L ++ [l], ow := updF D.ow D.L.length a } b l' := by
  obtain ⟨F, Pr, h1, h2, h3, h4⟩ := h
  have hc := chg_moved hm []
  simp only [List.nil_append] at hc
  have u := h1.upd 3 ov'.ownBlock.toList (fun w => w.ownsRow N 35 1 ov' (D.L.length + 1) ((List.range D.L.length).map D.ow ++ [a])) (by rw [updF_other _ _ (by omega), updF_other _ _ (by omega), h2.f3]; exact hc) ho (row_loc _ _ _ _ _) (fun j hj => (ho.lt j (by simpa using hj)).2)
  rw [updF_comm _ _ _ (show 101 + 2 * D.L'.length ≠ 3 by omega), updF_comm _ _ _ (show 101 + 2 * D.L'.length ≠ 3 by omega)] at u
  refine ⟨_, _, u, h2.out a ov' l hl, ?_, ?_⟩
  · rw [updF_other _ _ (by omega), updF_other _ _ (by omega)]; exact h3
  · rw [updF_other _ _ (by omega), updF_other _ _ (by omega)]; exact h4
theorem Nc.were (h : Nc N w wr gs gr xb X D b l') {wv' : Value} {o : Obj} (ho : w1.ownsRow N 35 1 wv' (D.L'.length + 1) ((List.range D.L'.length).map D.ww ++ [b])) (hm : Moved (wr.alloc o) w1 D.wv wv') :
    Nv N w w1 gs gr xb X { D with wv := wv', L' := D.L' ++ [l'], ww := updF D.ww D.L'.length b } := by
  obtain ⟨F, Pr, h1, h2, h3, h4⟩ := h
  have hc := chg_moved hm []
  simp only [List.nil_append] at hc
  have u := h1.upd 4 wv'.ownBlock.toList (fun w => w.ownsRow N 35 1 wv' (D.L'.length + 1) ((List.range D.L'.length).map D.ww ++ [b])) (by rw [updF_other _ _ (by omega), h2.f4]; exact hc) ho (row_loc _ _ _ _ _) (fun j hj => (ho.lt j (by simpa using hj)).2)
  refine ⟨_, _, u, h2.were b wv' l', ?_, ?_⟩
  · rw [updF_other _ _ (by omega), updF_other _ _ (by omega)]; exact h3
  · rw [updF_other _ _ (by omega), updF_other _ _ (by omega)]; exact h4
/-- what the last loops ask: the rows of lists, and what owned asks -/
theorem Nv.rows (h : Nv N w wr gs gr xb X D) : wr.ownsRow N 35 1 D.ov D.L.length ((List.range D.L.length).map D.ow) ∧ wr.ownsRow N 35 1 D.wv D.L'.length ((List.range D.L'.length).map D.ww) ∧
    (∀ j, j < D.L.length → wr.ownsRow N 3 1 (D.ow j) (D.L.getD j []).length (I64 (D.L.getD j []))) ∧ (∀ j, j < D.L'.length → wr.ownsRow N 3 1 (D.ww j) (D.L'.getD j []).length (I64 (D.L'.getD j []))) ∧
    (∀ j, j < D.L.length → (D.L.getD j []).length ≤ 1048576) := by
  obtain ⟨F, Pr, h1, h2, h3, h4⟩ := h
  refine ⟨?_, ?_, fun j hj => ?_, fun j hj => ?_, h2.bl⟩
  · have := h1.pr 3; rw [h2.k3] at this; exact this
  · have := h1.pr 4; rw [h2.k4] at this; exact this
  · have := h1.pr (100 + 2 * j); rw [(h2.kl j hj).1] at this; exact this
  · have := h1.pr (101 + 2 * j); rw [(h2.kw j hj).1] at this; exact this
theorem Nv.rws (h : Nv N w wr gs gr xb X D) {g : Nat} (hg : D.ov.ownBlock = some g) : Rws 3 35 N g D.L.length D.ow (fun j => (D.L.getD j []).length) mk64 wr := by
  obtain ⟨F, Pr, h1, h2, h3, h4⟩ := h
  have hf : ∀ j, j < D.L.length → ∀ b, (D.ow j).ownBlock = some b → b ∈ F (100 + 2 * j) := fun j hj b hb => by rw [(h2.kl j hj).2]; simp [hb]
  have hg3 : g ∈ F 3 := by rw [h2.f3]; simp [hg]
  refine ⟨(h1.lie 3 g hg3).2, h1.sz, fun i j hi hj hne b hb hb' => ?_, fun j hj hb => ?_, fun j hj b hb => h1.lie _ b (hf j hj b hb), fun j => rfl⟩
  · exact h1.dis (100 + 2 * i) (100 + 2 * j) (by omega) b (hf i hi b hb) (hf j hj b hb')
  · exact h1.dis 3 (100 + 2 * j) (by omega) g hg3 (hf j hj g hb)
end
end Go.Proofs.Ytlidhjcciglinaa
