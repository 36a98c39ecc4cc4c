/- HELPERS: six stacks in four blocks, and lists that lie in one of them: none has to do with the others. -/
import Derived.Test.YtlidhjcciglinaaTx
namespace Go.Proofs.Ytlidhjcciglinaa
open Go.RowKit
set_option linter.unusedVariables false
set_option linter.unusedSimpArgs false
structure Sd where
  v : Value
  xs : List Value
  m : Nat
/-- the four blocks -/
structure Gs where
  s : Nat
  r : Nat
  t : Nat
  l : Nat
def cb (G : Gs) : Nat → Nat
  | 0 => G.s
  | 1 => G.s
  | 2 => G.r
  | 3 => G.r
  | 4 => G.t
  | _ => G.l
def co : Nat → Nat
  | 1 => 2
  | 3 => 2
  | _ => 0
def ce : Nat → TypeId
  | 4 => 9
  | 5 => 35
  | _ => 3
def tb : Nat → Nat
  | 0 => 11
  | 1 => 11
  | 2 => 12
  | 3 => 12
  | 4 => 13
  | _ => 14
structure Sx (N : Nat) (w wr : World) (G : Gs) (own : Nat → Nat) (d : Nat → Sd) : Prop where
  st : ∀ c, c < 6 → Stk N wr (ce c) (cb G c) (co c) (d c).v (d c).xs (d c).m
  og : ∀ c, c < 6 → own (cb G c) = tb c
  ov : ∀ c, c < 6 → ∀ b, (d c).v.ownBlock = some b → own b = c + 1
  below : Below N w wr
def upd (d : Nat → Sd) (c : Nat) (x : Sd) : Nat → Sd := fun j => if j = c then x else d j
theorem upd_same (d : Nat → Sd) (c : Nat) (x : Sd) : upd d c x c = x := if_pos rfl
theorem upd_other (d : Nat → Sd) {c j : Nat} (x : Sd) (h : j ≠ c) : upd d c x j = d j := if_neg h
theorem parts (G : Gs) : ∀ c c', c < 6 → c' < 6 → c ≠ c' → tb c ≠ tb c' ∨ (cb G c = cb G c' ∧ co c ≠ co c' ∧ co c ≠ co c' + 1 ∧ co c + 1 ≠ co c') := by
  intro c c' h h' hne
  have e : c = 0 ∨ c = 1 ∨ c = 2 ∨ c = 3 ∨ c = 4 ∨ c = 5 := by omega
  have e' : c' = 0 ∨ c' = 1 ∨ c' = 2 ∨ c' = 3 ∨ c' = 4 ∨ c' = 5 := by omega
  rcases e with rfl | rfl | rfl | rfl | rfl | rfl <;> rcases e' with rfl | rfl | rfl | rfl | rfl | rfl <;> simp [tb, cb, co] at hne ⊢
theorem tb_lt : ∀ c, 11 ≤ tb c ∧ tb c ≤ 14 := by
  intro c
  unfold tb
  split <;> omega
theorem Stk.keep {N : Nat} {w w' : World} {E : TypeId} {g o g' o' : Nat} {v : Value} {xs : List Value} {m : Nat} {F F' : List Nat} (h : Stk N w E g o v xs m) (he : Eff w w' g' o' F F')
    (hgo : g ≠ g' ∨ (o ≠ o' ∧ o ≠ o' + 1 ∧ o + 1 ≠ o')) (hgF : g ∉ F) (hv : ∀ b, v.ownBlock = some b → b ≠ g' ∧ b ∉ F) : Stk N w' E g o v xs m := by
  have hrow : w'.ownsRow N E 1 v xs.length xs := row_kept h.row (fun b hb => he.block b (h.row.lt b hb).2 (hv b hb).1 (hv b hb).2)
  by_cases hg : g = g'
  · subst hg
    rcases hgo with hgo | ⟨h1, h2, h3⟩
    · exact absurd rfl hgo
    · exact ⟨(he.cell o h1 h2).trans h.c0, (he.cell (o + 1) h3 (by omega)).trans h.c1, (he.frozen o).trans h.f0, (he.frozen (o + 1)).trans h.f1, h.ne, h.low, hrow⟩
  · have hb := he.block g h.lt hg hgF
    exact ⟨(World.cell?_of_block (a := ⟨g, o, none⟩) hb).trans h.c0, (World.cell?_of_block (a := ⟨g, o + 1, none⟩) hb).trans h.c1, (World.frozen?_of_block (a := ⟨g, o, none⟩) hb).trans h.f0, (World.frozen?_of_block (a := ⟨g, o + 1, none⟩) hb).trans h.f1, h.ne, h.low, hrow⟩
theorem Stk.next {N : Nat} {w w' : World} {E : TypeId} {g o : Nat} {v : Value} {xs : List Value} {m : Nat} (h : Stk N w E g o v xs m) (hb : Below w.heap.size w w') : Stk N w' E g o v xs m :=
  ⟨(hb.cell (p := ⟨g, o, none⟩) h.lt).trans h.c0, (hb.cell (p := ⟨g, o + 1, none⟩) h.lt).trans h.c1, (hb.frozen (p := ⟨g, o, none⟩) h.lt).trans h.f0, (hb.frozen (p := ⟨g, o + 1, none⟩) h.lt).trans h.f1, h.ne, h.low, row_kept h.row (fun b hk => hb.block b (h.row.lt b hk).2)⟩
theorem Sx.lt {N : Nat} {w wr : World} {G : Gs} {own : Nat → Nat} {d : Nat → Sd} (h : Sx N w wr G own d) (c : Nat) (hc : c < 6) : cb G c < wr.heap.size := (h.st c hc).lt
/-- a call on one stack -/
theorem Sx.step {N : Nat} {w wr w1 : World} {G : Gs} {own : Nat → Nat} {d : Nat → Sd} (h : Sx N w wr G own d) (hN : N ≤ wr.heap.size) (c : Nat) (hc : c < 6) {v' : Value} {xs' : List Value} {m' : Nat}
    (hs : Stk N w1 (ce c) (cb G c) (co c) v' xs' m') (he : Eff wr w1 (cb G c) (co c) (d c).v.ownBlock.toList v'.ownBlock.toList) :
    ∃ own', Sx N w w1 G own' (upd d c ⟨v', xs', m'⟩) ∧ N ≤ w1.heap.size ∧ ∀ b, b < wr.heap.size → 20 ≤ own b → own' b = own b ∧ w1.heap[b]? = wr.heap[b]? := by
  have htb := tb_lt
  have hvb : ∀ b, (d c).v.ownBlock = some b → own b = c + 1 ∧ b < wr.heap.size := fun b hb => ⟨h.ov c hc b hb, ((h.st c hc).row.lt b hb).2⟩
  have hnew : ∀ b, v'.ownBlock = some b → own b = c + 1 ∧ (d c).v.ownBlock = some b ∨ wr.heap.size ≤ b := fun b hb => by
    rcases he.new b (by simp [hb]) with h1 | h1
    · exact .inl ⟨(hvb b (by simpa using h1)).1, by simpa using h1⟩
    · exact .inr h1
  refine ⟨fun b => if v'.ownBlock = some b then c + 1 else own b, ⟨fun j hj => ?_, fun j hj => ?_, fun j hj b hb => ?_, ?_⟩, Nat.le_trans hN he.size, fun b hb hb2 => ⟨?_, ?_⟩⟩
  · by_cases hjc : j = c
    · subst hjc
      rw [upd_same]
      exact hs
    · rw [upd_other d _ hjc]
      refine (h.st j hj).keep he ?_ (fun hm => ?_) (fun b hb => ⟨fun e => ?_, fun hm => ?_⟩)
      · rcases parts G j c hj hc hjc with hp | hp
        · left
          intro e
          have h1 := h.og j hj
          have h2 := h.og c hc
          rw [e, h2] at h1
          exact hp h1.symm
        · exact .inr hp.2
      · have h1 := h.og j hj
        have h2 := h.ov c hc (cb G j) (by simpa using hm)
        have := htb j
        omega
      · have h1 := h.ov j hj b hb
        have h2 := h.og c hc
        have := htb c
        rw [e] at h1
        omega
      · have h1 := h.ov j hj b hb
        have h2 := h.ov c hc b (by simpa using hm)
        omega
  · have hlt := h.lt j hj
    have h1 := h.og j hj
    have := htb j
    show (if v'.ownBlock = some (cb G j) then c + 1 else own (cb G j)) = tb j
    split
    · rename_i hb
      rcases hnew _ hb with h2 | h2
      · omega
      · omega
    · exact h1
  · show (if v'.ownBlock = some b then c + 1 else own b) = j + 1
    by_cases hjc : j = c
    · subst hjc
      rw [upd_same] at hb
      rw [if_pos hb]
    · rw [upd_other d _ hjc] at hb
      have h1 := h.ov j hj b hb
      have h2 := ((h.st j hj).row.lt b hb).2
      split
      · rename_i hb'
        rcases hnew b hb' with h3 | h3 <;> omega
      · exact h1
  · have hlow : N ≤ cb G c := (h.st c hc).low
    refine h.below.trans ⟨he.os, he.tape, he.output, he.size, fun k hk => he.block k (by omega) (by omega) (fun hm => ?_)⟩
    have := ((h.st c hc).row.lt k (by simpa using hm)).1
    omega
  · show (if v'.ownBlock = some b then c + 1 else own b) = own b
    split
    · rename_i hb'
      rcases hnew b hb' with h3 | h3 <;> omega
    · rfl
  · refine he.block b hb (fun e => ?_) (fun hm => ?_)
    · have h1 := h.og c hc
      have := htb c
      rw [e] at hb2
      omega
    · have := (hvb b (by simpa using hm)).1
      omega
/-- a call that turns nothing of what there was -/
theorem Sx.next {N : Nat} {w wr w1 : World} {G : Gs} {own : Nat → Nat} {d : Nat → Sd} (h : Sx N w wr G own d) (hN : N ≤ wr.heap.size) (hb : Below wr.heap.size wr w1) : Sx N w w1 G own d :=
  ⟨fun c hc => (h.st c hc).next hb, h.og, h.ov, h.below.trans (hb.mono hN)⟩
/-- a new block, with its mark -/
theorem Sx.alloc {N : Nat} {w wr : World} {G : Gs} {own : Nat → Nat} {d : Nat → Sd} (h : Sx N w wr G own d) (hN : N ≤ wr.heap.size) (o : Obj) (t : Nat) (ht : 20 ≤ t) :
    ∃ own', Sx N w (wr.alloc o) G own' d ∧ own' wr.heap.size = t ∧ ∀ b, b < wr.heap.size → own' b = own b ∧ (wr.alloc o).heap[b]? = wr.heap[b]? := by
  have hn := h.next hN (w1 := wr.alloc o) ((Below.refl _ _).alloc (Nat.le_refl _) _)
  refine ⟨fun b => if b = wr.heap.size then t else own b, ⟨hn.st, fun c hc => ?_, fun c hc b hb => ?_, hn.below⟩, if_pos rfl, fun b hb => ⟨if_neg (by omega), heap_alloc_old wr _ hb⟩⟩
  · have := h.lt c hc
    show (if cb G c = wr.heap.size then t else own (cb G c)) = tb c
    rw [if_neg (by omega)]
    exact h.og c hc
  · have := ((h.st c hc).row.lt b hb).2
    show (if b = wr.heap.size then t else own b) = c + 1
    rw [if_neg (by omega)]
    exact h.ov c hc b hb
/-- the lists that lie in a stack -/
def LB (wr : World) (own : Nat → Nat) (xs : List Value) (A : List Int) : Prop :=
  xs.length = A.length ∧ ∀ j u, xs[j]? = some u → ∃ b, u = .slice (some ⟨b, 0, none⟩) 2 2 ∧ own b = 20 ∧ b < wr.heap.size ∧ wr.cell? ⟨b, 0, none⟩ = some (.int .i64 (A.getD j 0))
theorem LB.keep {wr w1 : World} {own own' : Nat → Nat} {xs : List Value} {A : List Int} (h : LB wr own xs A) (hs : wr.heap.size ≤ w1.heap.size) (hk : ∀ b, b < wr.heap.size → 20 ≤ own b → own' b = own b ∧ w1.heap[b]? = wr.heap[b]?) : LB w1 own' xs A :=
  ⟨h.1, fun j u hu => by
    obtain ⟨b, h1, h2, h3, h4⟩ := h.2 j u hu
    have := hk b h3 (by omega)
    exact ⟨b, h1, this.1.trans h2, by omega, (World.cell?_of_block (a := ⟨b, 0, none⟩) this.2).trans h4⟩⟩
theorem LB.push {wr : World} {own : Nat → Nat} {xs : List Value} {A : List Int} (h : LB wr own xs A) (b : Nat) (x : Int) (h2 : own b = 20) (h3 : b < wr.heap.size) (h4 : wr.cell? ⟨b, 0, none⟩ = some (.int .i64 x)) : LB wr own (xs ++ [.slice (some ⟨b, 0, none⟩) 2 2]) (A ++ [x]) := by
  refine ⟨by simp [h.1], fun j u hu => ?_⟩
  by_cases hj : j < xs.length
  · rw [List.getElem?_append_left hj] at hu
    obtain ⟨b', k1, k2, k3, k4⟩ := h.2 j u hu
    refine ⟨b', k1, k2, k3, ?_⟩
    rw [k4]
    have := h.1
    simp [List.getD, List.getElem?_append_left (show j < A.length by omega)]
  · have hl : j = xs.length := by
      have := (List.getElem?_eq_some_iff.1 hu).1
      simp at this
      omega
    subst hl
    simp at hu
    refine ⟨b, hu.symm, h2, h3, ?_⟩
    rw [h4, h.1]
    simp [List.getD]
theorem LB.pop {wr : World} {own : Nat → Nat} {xs : List Value} {A : List Int} {x : Int} (h : LB wr own xs (A ++ [x])) : ∃ ys b, xs = ys ++ [.slice (some ⟨b, 0, none⟩) 2 2] ∧ own b = 20 ∧ b < wr.heap.size ∧ wr.cell? ⟨b, 0, none⟩ = some (.int .i64 x) ∧ LB wr own ys A := by
  have hl := h.1
  simp at hl
  rcases List.eq_nil_or_concat xs with rfl | ⟨ys, u, rfl⟩
  · simp at hl
  · rw [List.concat_eq_append] at *
    simp at hl
    obtain ⟨b, h1, h2, h3, h4⟩ := h.2 ys.length u (by simp)
    subst h1
    refine ⟨ys, b, rfl, h2, h3, ?_, hl, fun j v hv => ?_⟩
    · rw [h4, hl]; simp [List.getD]
    · have hj : j < ys.length := (List.getElem?_eq_some_iff.1 hv).1
      obtain ⟨b', k1, k2, k3, k4⟩ := h.2 j v (by rw [List.getElem?_append_left hj]; exact hv)
      refine ⟨b', k1, k2, k3, ?_⟩
      rw [k4]
      simp [List.getD, List.getElem?_append_left (show j < A.length by omega)]
end Go.Proofs.Ytlidhjcciglinaa
