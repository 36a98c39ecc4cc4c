/- HELPERS: the six stacks by what lies in them; a script of calls. -/
import Derived.Test.YtlidhjcciglinaaSx
namespace Go.Proofs.Ytlidhjcciglinaa
open Go.RowKit
set_option linter.unusedVariables false
set_option linter.unusedSimpArgs false
/-- what is marked stays -/
def Kp (wr w1 : World) (own own' : Nat → Nat) : Prop := wr.heap.size ≤ w1.heap.size ∧ ∀ b, b < wr.heap.size → 20 ≤ own b → own' b = own b ∧ w1.heap[b]? = wr.heap[b]?
theorem Kp.refl (w : World) (own : Nat → Nat) : Kp w w own own := ⟨Nat.le_refl _, fun b hb h => ⟨rfl, rfl⟩⟩
theorem Kp.trans {a b c : World} {o1 o2 o3 : Nat → Nat} (h : Kp a b o1 o2) (k : Kp b c o2 o3) : Kp a c o1 o3 :=
  ⟨Nat.le_trans h.1 k.1, fun x hx hm => by
    have h1 := h.2 x hx hm
    have h2 := k.2 x (Nat.lt_of_lt_of_le hx h.1) (by omega)
    exact ⟨h2.1.trans h1.1, h2.2.trans h1.2⟩⟩
theorem Kp.cell {wr w1 : World} {own own' : Nat → Nat} (h : Kp wr w1 own own') {b j : Nat} {u : Value} (hb : 20 ≤ own b) (hc : wr.cell? ⟨b, j, none⟩ = some u) : w1.cell? ⟨b, j, none⟩ = some u :=
  (World.cell?_of_block (a := ⟨b, j, none⟩) (h.2 b (World.block_lt_of_cell? wr _ hc) hb).2).trans hc
theorem Kp.mark {wr w1 : World} {own own' : Nat → Nat} (h : Kp wr w1 own own') {b : Nat} (hb : 20 ≤ own b) (hl : b < wr.heap.size) : own' b = own b := (h.2 b hl hb).1
def updF {α : Type} (d : Nat → α) (c : Nat) (x : α) : Nat → α := fun j => if j = c then x else d j
theorem updF_same {α : Type} (d : Nat → α) (c : Nat) (x : α) : updF d c x c = x := if_pos rfl
theorem updF_other {α : Type} (d : Nat → α) {c j : Nat} (x : α) (h : j ≠ c) : updF d c x j = d j := if_neg h
def TX (A : List Int) : List Value := A.map fun x => .string (textOf x)
structure Mi (N : Nat) (w wr : World) (G : Gs) (own : Nat → Nat) (L : Nat → List Int) (M : Nat → Nat) : Prop where
  ex : ∃ d, Sx N w wr G own d ∧ (∀ c, c < 4 → (d c).xs = I64 (L c)) ∧ (d 4).xs = TX (L 4) ∧ LB wr own (d 5).xs (L 5) ∧ ∀ c, c < 6 → (d c).m = M c
  sz : N ≤ wr.heap.size
theorem Mi.below {N : Nat} {w wr : World} {G : Gs} {own : Nat → Nat} {L : Nat → List Int} {M : Nat → Nat} (h : Mi N w wr G own L M) : Below N w wr := by
  obtain ⟨d, h1, _⟩ := h.ex
  exact h1.below
theorem Mi.congr {N : Nat} {w wr : World} {G : Gs} {own : Nat → Nat} {L L' : Nat → List Int} {M M' : Nat → Nat} (h : Mi N w wr G own L M) (hL : ∀ c, c < 6 → L c = L' c) (hM : ∀ c, c < 6 → M c = M' c) : Mi N w wr G own L' M' := by
  obtain ⟨d, h1, h2, h3, h4, h5⟩ := h.ex
  exact ⟨⟨d, h1, fun c hc => by rw [h2 c hc, hL c (by omega)], by rw [h3, hL 4 (by omega)], by rw [← hL 5 (by omega)]; exact h4, fun c hc => by rw [h5 c hc, hM c hc]⟩, h.sz⟩
theorem Mi.int {N : Nat} {w wr : World} {G : Gs} {own : Nat → Nat} {L : Nat → List Int} {M : Nat → Nat} (h : Mi N w wr G own L M) (c : Nat) (hc : c < 4) :
    ∃ v, Stk N wr 3 (cb G c) (co c) v (I64 (L c)) (M c) ∧ ∀ w1 v' A' m', Stk N w1 3 (cb G c) (co c) v' (I64 A') m' → Eff wr w1 (cb G c) (co c) v.ownBlock.toList v'.ownBlock.toList →
      ∃ own', Mi N w w1 G own' (updF L c A') (updF M c m') ∧ Kp wr w1 own own' := by
  obtain ⟨d, h1, h2, h3, h4, h5⟩ := h.ex
  have e : ce c = 3 := by
    have : c = 0 ∨ c = 1 ∨ c = 2 ∨ c = 3 := by omega
    rcases this with rfl | rfl | rfl | rfl <;> rfl
  refine ⟨(d c).v, ?_, fun w1 v' A' m' hs he => ?_⟩
  · have := h1.st c (by omega)
    rw [e, h2 c hc, h5 c (by omega)] at this
    exact this
  · obtain ⟨own', k1, k2, k3⟩ := h1.step h.sz c (by omega) (by rw [e]; exact hs) he
    refine ⟨own', ⟨⟨_, k1, fun j hj => ?_, ?_, ?_, fun j hj => ?_⟩, k2⟩, he.size, k3⟩
    · by_cases hjc : j = c
      · subst hjc; rw [upd_same, updF_same]
      · rw [upd_other d _ hjc, updF_other _ _ hjc]; exact h2 j hj
    · rw [upd_other d _ (show 4 ≠ c by omega), updF_other _ _ (show 4 ≠ c by omega)]; exact h3
    · rw [upd_other d _ (show 5 ≠ c by omega), updF_other _ _ (show 5 ≠ c by omega)]
      exact h4.keep he.size k3
    · by_cases hjc : j = c
      · subst hjc; rw [upd_same, updF_same]
      · rw [upd_other d _ hjc, updF_other _ _ hjc]; exact h5 j hj
theorem Mi.text {N : Nat} {w wr : World} {G : Gs} {own : Nat → Nat} {L : Nat → List Int} {M : Nat → Nat} (h : Mi N w wr G own L M) :
    ∃ v, Stk N wr 9 G.t 0 v (TX (L 4)) (M 4) ∧ ∀ w1 v' A' m', Stk N w1 9 G.t 0 v' (TX A') m' → Eff wr w1 G.t 0 v.ownBlock.toList v'.ownBlock.toList →
      ∃ own', Mi N w w1 G own' (updF L 4 A') (updF M 4 m') ∧ Kp wr w1 own own' := by
  obtain ⟨d, h1, h2, h3, h4, h5⟩ := h.ex
  refine ⟨(d 4).v, ?_, fun w1 v' A' m' hs he => ?_⟩
  · have := h1.st 4 (by omega)
    rw [h3, h5 4 (by omega)] at this
    exact this
  · obtain ⟨own', k1, k2, k3⟩ := h1.step h.sz 4 (by omega) hs he
    refine ⟨own', ⟨⟨_, k1, fun j hj => ?_, ?_, ?_, fun j hj => ?_⟩, k2⟩, he.size, k3⟩
    · rw [upd_other d _ (show j ≠ 4 by omega), updF_other _ _ (show j ≠ 4 by omega)]; exact h2 j hj
    · rw [upd_same, updF_same]
    · rw [upd_other d _ (show 5 ≠ 4 by omega), updF_other _ _ (show 5 ≠ 4 by omega)]
      exact h4.keep he.size k3
    · by_cases hjc : j = 4
      · subst hjc; rw [upd_same, updF_same]
      · rw [upd_other d _ hjc, updF_other _ _ hjc]; exact h5 j hj
theorem Mi.list {N : Nat} {w wr : World} {G : Gs} {own : Nat → Nat} {L : Nat → List Int} {M : Nat → Nat} (h : Mi N w wr G own L M) :
    ∃ v xs, Stk N wr 35 G.l 0 v xs (M 5) ∧ LB wr own xs (L 5) ∧ ∀ w1 v' xs' A' m', Stk N w1 35 G.l 0 v' xs' m' → Eff wr w1 G.l 0 v.ownBlock.toList v'.ownBlock.toList → (∀ own', Kp wr w1 own own' → LB w1 own' xs' A') →
      ∃ own', Mi N w w1 G own' (updF L 5 A') (updF M 5 m') ∧ Kp wr w1 own own' := by
  obtain ⟨d, h1, h2, h3, h4, h5⟩ := h.ex
  refine ⟨(d 5).v, (d 5).xs, ?_, h4, fun w1 v' xs' A' m' hs he hl => ?_⟩
  · have := h1.st 5 (by omega)
    rw [h5 5 (by omega)] at this
    exact this
  · obtain ⟨own', k1, k2, k3⟩ := h1.step h.sz 5 (by omega) hs he
    refine ⟨own', ⟨⟨_, k1, fun j hj => ?_, ?_, ?_, fun j hj => ?_⟩, k2⟩, he.size, k3⟩
    · rw [upd_other d _ (show j ≠ 5 by omega), updF_other _ _ (show j ≠ 5 by omega)]; exact h2 j hj
    · rw [upd_other d _ (show 4 ≠ 5 by omega), updF_other _ _ (show 4 ≠ 5 by omega)]; exact h3
    · rw [upd_same, updF_same]
      exact hl own' ⟨he.size, k3⟩
    · by_cases hjc : j = 5
      · subst hjc; rw [upd_same, updF_same]
      · rw [upd_other d _ hjc, updF_other _ _ hjc]; exact h5 j hj
theorem Mi.next {N : Nat} {w wr w1 : World} {G : Gs} {own : Nat → Nat} {L : Nat → List Int} {M : Nat → Nat} (h : Mi N w wr G own L M) (hb : Below wr.heap.size wr w1) : Mi N w w1 G own L M ∧ Kp wr w1 own own := by
  obtain ⟨d, h1, h2, h3, h4, h5⟩ := h.ex
  exact ⟨⟨⟨d, h1.next h.sz hb, h2, h3, h4.keep hb.size (fun b hl _ => ⟨rfl, hb.block b hl⟩), h5⟩, Nat.le_trans h.sz hb.size⟩, hb.size, fun b hl _ => ⟨rfl, hb.block b hl⟩⟩
theorem Mi.drew {N : Nat} {w wr : World} {G : Gs} {own : Nat → Nat} {L : Nat → List Int} {M : Nat → Nat} (h : Mi N w wr G own L M) : Mi N w wr.drew G own L M := (h.next (w1 := wr.drew) ((Below.refl _ _).drew)).1
theorem Mi.alloc {N : Nat} {w wr : World} {G : Gs} {own : Nat → Nat} {L : Nat → List Int} {M : Nat → Nat} (h : Mi N w wr G own L M) (o : Obj) (t : Nat) (ht : 20 ≤ t) :
    ∃ own', Mi N w (wr.alloc o) G own' L M ∧ own' wr.heap.size = t ∧ Kp wr (wr.alloc o) own own' := by
  obtain ⟨d, h1, h2, h3, h4, h5⟩ := h.ex
  obtain ⟨own', k1, k2, k3⟩ := h1.alloc h.sz o t ht
  exact ⟨own', ⟨⟨d, k1, h2, h3, h4.keep (by simp) (fun b hl _ => k3 b hl), h5⟩, by have := h.sz; simp; omega⟩, k2, by simp, fun b hl _ => k3 b hl⟩
/-- the lists: those of the first stacks, those of the second -/
def LL (A B : List Int) : Nat → List Int
  | 1 => B
  | 3 => B
  | _ => A
def MM (m k : Nat) : Nat → Nat
  | 1 => k
  | 3 => k
  | _ => m
theorem six (p : Nat → Prop) (h0 : p 0) (h1 : p 1) (h2 : p 2) (h3 : p 3) (h4 : p 4) (h5 : p 5) : ∀ c, c < 6 → p c := by
  intro c hc
  have : c = 0 ∨ c = 1 ∨ c = 2 ∨ c = 3 ∨ c = 4 ∨ c = 5 := by omega
  rcases this with rfl | rfl | rfl | rfl | rfl | rfl <;> assumption
/-- a script that came in -/
def ScriptAt (N : Nat) (w : World) (ad : Option Addr) (n : Nat) (S : List (Int × Int × Int)) : Prop :=
  n = S.length ∧ (n = 0 ∨ ∃ b off, ad = some ⟨b, off, none⟩ ∧ b < N ∧ ∀ k, k < n → w.cell? ⟨b, off + k * 3, none⟩ = some (.int .i64 (S.getD k (0, 0, 0)).1) ∧ w.cell? ⟨b, off + k * 3 + 1, none⟩ = some (.int .i64 (S.getD k (0, 0, 0)).2.1) ∧ w.cell? ⟨b, off + k * 3 + 2, none⟩ = some (.int .i64 (S.getD k (0, 0, 0)).2.2))
theorem ScriptAt.at {N : Nat} {w w' : World} {ad : Option Addr} {n : Nat} {S : List (Int × Int × Int)} (h : ScriptAt N w ad n S) (hb : Below N w w') (k : Nat) (hk : k < n) :
    ∃ b off d h x, ad = some ⟨b, off, none⟩ ∧ b < N ∧ w'.cell? ⟨b, off + k * 3, none⟩ = some (.int .i64 d) ∧ w'.cell? ⟨b, off + k * 3 + 1, none⟩ = some (.int .i64 h) ∧ w'.cell? ⟨b, off + k * 3 + 2, none⟩ = some (.int .i64 x) := by
  obtain ⟨h1, h | ⟨b, off, ha, hbN, hc⟩⟩ := h
  · omega
  · exact ⟨b, off, _, _, _, ha, hbN, (hb.cell (p := ⟨b, off + k * 3, none⟩) hbN).trans (hc k hk).1, (hb.cell (p := ⟨b, off + k * 3 + 1, none⟩) hbN).trans (hc k hk).2.1, (hb.cell (p := ⟨b, off + k * 3 + 2, none⟩) hbN).trans (hc k hk).2.2⟩
theorem and_one (y : Int) : bits .and .i64 y 1 = 0 ∨ bits .and .i64 y 1 = 1 := by
  have h : bits .and .i64 y 1 = IntKind.i64.wrap (((BitVec.ofInt 64 y &&& BitVec.ofInt 64 1).toNat : Nat) : Int) := rfl
  have h3 : (BitVec.ofInt 64 y &&& BitVec.ofInt 64 1).toNat ≤ 1 := by
    rw [BitVec.toNat_and]
    exact Nat.and_le_right
  rw [h, IntWalk.i64_in _ ⟨by omega, by omega⟩]
  omega
end Go.Proofs.Ytlidhjcciglinaa
