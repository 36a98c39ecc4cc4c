/- HELPERS: a stack at a place of a block; what a call of its methods turns. Made by tools/genstk.py. -/
import Derived.Test.YtlidhjcciglinaaOn
namespace Go.Proofs.Ytlidhjcciglinaa
open Go.RowKit
set_option linter.unusedVariables false
set_option linter.unusedSimpArgs false
structure Stk (N : Nat) (w : World) (E : TypeId) (g o : Nat) (v : Value) (xs : List Value) (m : Nat) : Prop where
  c0 : w.cell? ⟨g, o, none⟩ = some v
  c1 : w.cell? ⟨g, o + 1, none⟩ = some (.int .i64 (m : Int))
  f0 : w.frozen? ⟨g, o, none⟩ = false
  f1 : w.frozen? ⟨g, o + 1, none⟩ = false
  ne : v.ownBlock ≠ some g
  low : N ≤ g
  row : w.ownsRow N E 1 v xs.length xs
theorem Stk.lt {N : Nat} {w : World} {E : TypeId} {g o : Nat} {v : Value} {xs : List Value} {m : Nat} (h : Stk N w E g o v xs m) : g < w.heap.size := World.block_lt_of_cell? w _ h.c0
theorem Stk.drew {N : Nat} {w : World} {E : TypeId} {g o : Nat} {v : Value} {xs : List Value} {m : Nat} (h : Stk N w E g o v xs m) : Stk N w.drew E g o v xs m := ⟨h.c0, h.c1, h.f0, h.f1, h.ne, h.low, h.row⟩
/-- what a call on a stack turned -/
structure Eff (w w' : World) (g o : Nat) (F F' : List Nat) : Prop where
  os : w'.os = w.os
  tape : w'.tape = w.tape
  output : w'.output = w.output
  size : w.heap.size ≤ w'.heap.size
  block : ∀ k, k < w.heap.size → k ≠ g → k ∉ F → w'.heap[k]? = w.heap[k]?
  cell : ∀ j, j ≠ o → j ≠ o + 1 → w'.cell? ⟨g, j, none⟩ = w.cell? ⟨g, j, none⟩
  frozen : ∀ j, w'.frozen? ⟨g, j, none⟩ = w.frozen? ⟨g, j, none⟩
  new : ∀ k, k ∈ F' → k ∈ F ∨ w.heap.size ≤ k
theorem Eff.refl (w : World) (g o : Nat) (F : List Nat) : Eff w w g o F F := ⟨rfl, rfl, rfl, Nat.le_refl _, fun _ _ _ _ => rfl, fun _ _ _ => rfl, fun _ => rfl, fun _ h => .inl h⟩
theorem Eff.drew {w w' : World} {g o : Nat} {F F' : List Nat} (h : Eff w w' g o F F') : Eff w w'.drew g o F F' := ⟨h.os, h.tape, h.output, h.size, h.block, h.cell, h.frozen, h.new⟩
theorem addr_ne {g j o : Nat} (h : j ≠ o) : (⟨g, o, none⟩ : Addr) ≠ ⟨g, j, none⟩ := fun e => h (by injection e with _ e2; exact e2.symm)
theorem Eff.set0 {w w' : World} {g o : Nat} {F F' : List Nat} (h : Eff w w' g o F F') (u : Value) : Eff w (w'.setCell ⟨g, o, none⟩ u) g o F F' :=
  ⟨h.os, h.tape, h.output, by have := h.size; simp [World.setCell]; exact this, fun k hk hg hn => (Below.heap_setCell _ _ _ _ hg).trans (h.block k hk hg hn), fun j h0 h1 => (World.cell?_setCell_other _ _ _ _ (addr_ne h0)).trans (h.cell j h0 h1), fun j => by rw [World.frozen?_setCell]; exact h.frozen j, h.new⟩
theorem Eff.set1 {w w' : World} {g o : Nat} {F F' : List Nat} (h : Eff w w' g o F F') (u : Value) : Eff w (w'.setCell ⟨g, o + 1, none⟩ u) g o F F' :=
  ⟨h.os, h.tape, h.output, by have := h.size; simp [World.setCell]; exact this, fun k hk hg hn => (Below.heap_setCell _ _ _ _ hg).trans (h.block k hk hg hn), fun j h0 h1 => (World.cell?_setCell_other _ _ _ _ (addr_ne h1)).trans (h.cell j h0 h1), fun j => by rw [World.frozen?_setCell]; exact h.frozen j, h.new⟩
theorem Eff.setRow {w w' : World} {g o : Nat} {F F' : List Nat} (h : Eff w w' g o F F') (b j : Nat) (u : Value) (hb : b ∈ F) (hg : b ≠ g) : Eff w (w'.setCell ⟨b, j, none⟩ u) g o F F' :=
  ⟨h.os, h.tape, h.output, by have := h.size; simp [World.setCell]; exact this, fun k hk hg hn => (Below.heap_setCell _ _ _ _ (fun e => hn (by rw [show k = b from e]; exact hb))).trans (h.block k hk hg hn), fun j h0 h1 => (World.cell?_of_block (a := ⟨g, j, none⟩) (Below.heap_setCell _ _ _ _ (fun e => hg e.symm))).trans (h.cell j h0 h1), fun j => by rw [World.frozen?_setCell]; exact h.frozen j, h.new⟩
theorem Eff.setCells {w : World} {g o : Nat} {F F' : List Nat} (b : Nat) (hb : b ∈ F) (hg : b ≠ g) : ∀ (vs : List Value) (j : Nat) (w' : World), Eff w w' g o F F' → Eff w (w'.setCells b j vs) g o F F'
  | [], j, w', h => h
  | v :: vs, j, w', h => Eff.setCells b hb hg vs (j + 1) _ (h.setRow b j v hb hg)
theorem Eff.moved {w w1 : World} {g o : Nat} {ob : Obj} {v v' : Value} (hm : Moved (w.alloc ob) w1 v v') (hg : g < w.heap.size) (hne : v.ownBlock ≠ some g) : Eff w w1 g o v.ownBlock.toList v'.ownBlock.toList := by
  have hc := chg_moved hm []
  simp only [List.nil_append] at hc
  have hb : w1.heap[g]? = w.heap[g]? := hc.block g hg (by simpa using hne)
  exact ⟨hc.os, hc.tape, hc.output, hc.size, fun k hk _ hn => hc.block k hk hn, fun j _ _ => World.cell?_of_block (a := ⟨g, j, none⟩) hb, fun j => World.frozen?_of_block (a := ⟨g, j, none⟩) hb, hc.new⟩
theorem Stk.after {N : Nat} {w w' : World} {E : TypeId} {g o : Nat} {v v' : Value} {xs ys : List Value} {m : Nat} (k : Nat) (h : Stk N w E g o v xs m) (he : ∀ j, (w'.cell? ⟨g, j, none⟩).isSome = (w.cell? ⟨g, j, none⟩).isSome) (hf : ∀ j, w'.frozen? ⟨g, j, none⟩ = w.frozen? ⟨g, j, none⟩)
    (ho : w'.ownsRow N E 1 v' ys.length ys) (hne : v'.ownBlock ≠ some g) : Stk N ((w'.setCell ⟨g, o, none⟩ v').setCell ⟨g, o + 1, none⟩ (.int .i64 (k : Int))) E g o v' ys k where
  c0 := by
    rw [World.cell?_setCell_other _ _ _ _ (addr_ne (by omega)), World.cell?_setCell_same']
    rw [he, h.c0]; rfl
  c1 := by
    rw [World.cell?_setCell_same']
    rw [World.cell?_setCell_other _ _ _ _ (addr_ne (by omega)), he, h.c1]; rfl
  f0 := by rw [World.frozen?_setCell, World.frozen?_setCell, hf]; exact h.f0
  f1 := by rw [World.frozen?_setCell, World.frozen?_setCell, hf]; exact h.f1
  ne := hne
  low := h.low
  row := own_setCell (own_setCell ho hne) hne
theorem Stk.after0 {N : Nat} {w w' : World} {E : TypeId} {g o : Nat} {v v' : Value} {xs ys : List Value} {m : Nat} (h : Stk N w E g o v xs m) (he : ∀ j, w'.cell? ⟨g, j, none⟩ = w.cell? ⟨g, j, none⟩) (hf : ∀ j, w'.frozen? ⟨g, j, none⟩ = w.frozen? ⟨g, j, none⟩)
    (ho : w'.ownsRow N E 1 v' ys.length ys) (hne : v'.ownBlock ≠ some g) : Stk N (w'.setCell ⟨g, o, none⟩ v') E g o v' ys m where
  c0 := by
    rw [World.cell?_setCell_same']
    rw [he, h.c0]; rfl
  c1 := by
    rw [World.cell?_setCell_other _ _ _ _ (addr_ne (by omega)), he]; exact h.c1
  f0 := by rw [World.frozen?_setCell, hf]; exact h.f0
  f1 := by rw [World.frozen?_setCell, hf]; exact h.f1
  ne := hne
  low := h.low
  row := own_setCell ho hne
theorem row_form_any {w : World} {base e n : Nat} {v : Value} {xs : List Value} (h : w.ownsRow base e 1 v n xs) : ∃ ad cap, v = .slice ad n cap ∧ n ≤ cap ∧ cap ≤ 9223372036854775807 := by
  rcases Joins.ownsRow_forms h with ⟨rfl, h0⟩ | ⟨g, cap, rfl⟩
  · exact ⟨none, 0, by rw [h0], by omega, by omega⟩
  · exact ⟨_, cap, rfl, row_cap h⟩
theorem slice_block {ad : Option Addr} {n n' cap : Nat} : (Value.slice ad n cap).ownBlock = (Value.slice ad n' cap).ownBlock := by cases ad <;> rfl
theorem any_emptied {w : World} {base e n cap : Nat} {ad : Option Addr} {xs : List Value} (h : w.ownsRow base e 1 (.slice ad n cap) n xs) : w.ownsRow base e 1 (.slice ad 0 cap) 0 [] := by
  rcases Joins.ownsRow_forms h with ⟨h', _⟩ | ⟨b, c, h'⟩
  · cases h'; exact World.ownsRow_nil _ _ _ _
  · cases h'; exact row_emptied h
end Go.Proofs.Ytlidhjcciglinaa
