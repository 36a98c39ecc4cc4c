/- HELPERS: rows of instructions that came out; what a call leaves. -/
import Derived.Test.YteanndophopplaaDoorCp
import Derived.Lib.MinMax
import Derived.RegionTactic
import Derived.ChangeAlike
namespace Go.Proofs.YteanndophopplaaDoor
open Go.RowKit
set_option linter.unusedVariables false
set_option linter.unusedSimpArgs false
abbrev I6 : Iv := ⟨6, 0, 0, 0, none, 0, 0⟩
theorem size49 : (Tryd.prog.info? 51).map (·.size) = some 2 := by kernel_rfl
theorem size51 : (Tryd.prog.info? 49).map (·.size) = some 5 := by kernel_rfl
theorem Below.two {base g o o' : Nat} {w w' : World} (h : Below base w w') (hg : base ≤ g) (p q : Value) : Below base w ((w'.setCell ⟨g, o, none⟩ p).setCell ⟨g, o', none⟩ q) := (h.setCell (p := ⟨g, o, none⟩) hg p).setCell (p := ⟨g, o', none⟩) hg q
theorem Chs.setCells {A : Nat → Prop} {b : Nat} (hA : A b) : ∀ (vs : List Value) (o : Nat) (w w' : World), Chs A w w' → Chs A w (w'.setCells b o vs)
  | [], _, _, _, h => h
  | v :: vs, o, w, w', h => Chs.setCells hA vs (o + 1) w _ (h.set (a := ⟨b, o, none⟩) hA v)
theorem Chs.two {A : Nat → Prop} {g o o' : Nat} {w w' : World} (h : Chs A w w') (hg : A g) (p q : Value) : Chs A w ((w'.setCell ⟨g, o, none⟩ p).setCell ⟨g, o', none⟩ q) := (h.set (a := ⟨g, o, none⟩) hg p).set (a := ⟨g, o', none⟩) hg q
/-- a row of instructions, each with ranges of its own -/
structure GR (w : World) (base : Nat) (z : Value) (MS : List Iv) (l : List In) : Prop where
  lms : MS.length = l.length
  row : w.ownsRow base 49 5 z l.length (MS.flatMap Iv.cs)
  lo : ∀ j (hj : j < l.length), IOw w base z (MS.getD j default) l[j]
  pw : ∀ j j' b, j < l.length → j' < l.length → j ≠ j' → (MS.getD j default).rv.ownBlock = some b → (MS.getD j' default).rv.ownBlock ≠ some b
theorem GR.low {w : World} {base : Nat} {z : Value} {MS : List Iv} {l : List In} (h : GR w base z MS l) (j b : Nat) (hj : j < l.length) (hb : (MS.getD j default).rv.ownBlock = some b) : base ≤ b ∧ b < w.heap.size := (h.lo j hj).rr.lt b hb
theorem GR.kept {w w' : World} {base : Nat} {z : Value} {MS : List Iv} {l : List In} (h : GR w base z MS l) (hk : ∀ b, base ≤ b → b < w.heap.size → (z.ownBlock = some b ∨ ∃ j, j < l.length ∧ (MS.getD j default).rv.ownBlock = some b) → w'.heap[b]? = w.heap[b]?) : GR w' base z MS l :=
  ⟨h.lms, row_kept h.row (fun b hb => hk b (h.row.lt b hb).1 (h.row.lt b hb).2 (.inl hb)), fun j hj => by
    have hO := h.lo j hj
    exact ⟨hO.op, hO.x, hO.y, hO.a, hO.len, hO.sm, row_kept hO.rr (fun b hb => hk b (hO.rr.lt b hb).1 (hO.rr.lt b hb).2 (.inr ⟨j, hj, hb⟩)), hO.ne⟩, h.pw⟩
theorem GR.below {w w' : World} {base : Nat} {z : Value} {MS : List Iv} {l : List In} (h : GR w base z MS l) (hb : Below w.heap.size w w') : GR w' base z MS l := h.kept (fun b _ hl _ => hb.block b hl)
theorem GR.nil (w : World) (base : Nat) (z : Value) (h : w.ownsRow base 49 5 z 0 []) : GR w base z [] [] := ⟨rfl, h, fun j hj => by simp at hj, fun j j' b hj => by simp at hj⟩
theorem Chs.low {A : Nat → Prop} {base : Nat} {w w' : World} (h : Chs A w w') (hA : ∀ b, A b → base ≤ b) (hb : base ≤ w.heap.size) : Below base w w' := ⟨h.os, h.tape, h.output, h.size, fun b hb' => h.block b (by omega) (fun h' => by have := hA b h'; omega)⟩
theorem range_map_succ {α : Type} (f : Nat → α) (i : Nat) : (List.range (i + 1)).map f = (List.range i).map f ++ [f i] := by simp [List.range_succ]
theorem GR.none (w : World) (base : Nat) : GR w base (.slice none 0 0) [] [] := GR.nil _ _ _ (World.ownsRow_nil _ _ _ _)
theorem GR.mono {w : World} {base base' : Nat} {z : Value} {MS : List Iv} {l : List In} (h : GR w base z MS l) (hb : base' ≤ base) : GR w base' z MS l :=
  ⟨h.lms, h.row.mono hb, fun j hj => by
    have hO := h.lo j hj
    exact ⟨hO.op, hO.x, hO.y, hO.a, hO.len, hO.sm, hO.rr.mono hb, hO.ne⟩, h.pw⟩
end Go.Proofs.YteanndophopplaaDoor
