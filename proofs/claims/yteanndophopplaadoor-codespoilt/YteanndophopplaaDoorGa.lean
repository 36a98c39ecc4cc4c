/- HELPERS: a reader of bytes. -/
import Derived.Test.YteanndophopplaaDoorFe
namespace Go.Proofs.YteanndophopplaaDoor
open Go.RowKit
set_option linter.unusedVariables false
set_option linter.unusedSimpArgs false
/-- what a reader gives up with -/
abbrev Broke : Ending := .panicked [{ v := .iface 77 (.agg #[]), recovered := false }]
/-- nothing that was there has turned but one block -/
structure Mo (w w' : World) (g : Nat) : Prop where
  os : w'.os = w.os
  tape : w'.tape = w.tape
  output : w'.output = w.output
  size : w.heap.size ≤ w'.heap.size
  block : ∀ k, k < w.heap.size → k ≠ g → w'.heap[k]? = w.heap[k]?
theorem Mo.refl (w : World) (g : Nat) : Mo w w g := ⟨rfl, rfl, rfl, Nat.le_refl _, fun _ _ _ => rfl⟩
theorem Mo.trans {w w1 w2 : World} {g : Nat} (h1 : Mo w w1 g) (h2 : Mo w1 w2 g) : Mo w w2 g :=
  ⟨h2.os.trans h1.os, h2.tape.trans h1.tape, h2.output.trans h1.output, Nat.le_trans h1.size h2.size, fun k hk hn => (h2.block k (Nat.lt_of_lt_of_le hk h1.size) hn).trans (h1.block k hk hn)⟩
theorem Mo.of_below {w w' : World} {g : Nat} (h : Below w.heap.size w w') : Mo w w' g := ⟨h.os, h.tape, h.output, h.size, fun k hk _ => h.block k hk⟩
theorem Mo.below {w w' : World} {g N : Nat} (h : Mo w w' g) (hN : N ≤ g) (hs : N ≤ w.heap.size) : Below N w w' := ⟨h.os, h.tape, h.output, h.size, fun k hk => h.block k (by omega) (by omega)⟩
theorem Mo.alloc (w : World) (g : Nat) (o : Obj) : Mo w (w.alloc o) g := ⟨rfl, rfl, rfl, by simp, fun k hk _ => heap_alloc_old w o hk⟩
theorem Mo.drew (w : World) (g : Nat) : Mo w w.drew g := ⟨rfl, rfl, rfl, Nat.le_refl _, fun _ _ _ => rfl⟩
theorem Mo.drewN (w : World) (g q : Nat) : Mo w (w.drewN q) g := ⟨rfl, rfl, rfl, Nat.le_refl _, fun _ _ _ => rfl⟩
theorem Mo.set (w : World) (g i : Nat) (v : Value) : Mo w (w.setCell ⟨g, i, none⟩ v) g := ⟨rfl, rfl, rfl, by simp [World.setCell], fun k hk hn => Below.heap_setCell _ _ _ _ hn⟩
/-- a reader of bytes: what is left of them -/
structure RB (B rb : Nat) (w : World) (l : List Nat) (a : Option Addr) (c : Nat) : Prop where
  box : w.heap[rb]? = some (.cells #[.slice a l.length c] 87 (0, 0))
  ba : BA w B a l
  low : B ≤ rb
  cap : l.length ≤ c
  lt : ∀ x ∈ l, x < 256
  sm : l.length ≤ 8388608
theorem RB.kept {B rb : Nat} {w w' : World} {l : List Nat} {a : Option Addr} {c : Nat} (h : RB B rb w l a c) (hb : w'.heap[rb]? = w.heap[rb]?) (hk : Below B w w') : RB B rb w' l a c :=
  ⟨hb.trans h.box, h.ba.kept hk.block (Nat.le_refl _), h.low, h.cap, h.lt, h.sm⟩
theorem RB.tail {B rb : Nat} {w : World} {x : Nat} {r : List Nat} {a a' : Option Addr} {c c' : Nat} {n : Nat} (h : RB B rb w (x :: r) a c) (hn : n = r.length) (hc : n ≤ c') (hB : BA w B a' r) : RB B rb (w.setCell ⟨rb, 0, none⟩ (.slice a' n c')) r a' c' := by
  subst hn
  refine ⟨Joins.block_setCell h.box _, hB.kept (fun k hk => Below.heap_setCell _ _ _ _ (by have := h.low; simp; omega)) (Nat.le_refl _), h.low, hc, fun y hy => h.lt y (by simp [hy]), ?_⟩
  have := h.sm
  simp at this
  omega
theorem next57_nil {B rb : Nat} {w : World} {a : Option Addr} {c : Nat} (h : RB B rb w [] a c) : Calls Tryd.prog 57 #[pt rb] w fun e w' => e = Broke ∧ w' = w := by
  have c0 := Joins.cell_of_block h.box 0
  simp at c0
  clear h
  go_enter Tryd.func57, Tryd.ntmps57
  go_wp2
  exact ⟨rfl, rfl, rfl⟩
set_option maxHeartbeats 1000000 in
theorem next57_cons {B rb : Nat} {w : World} {x : Nat} {r : List Nat} {a : Option Addr} {c : Nat} (h : RB B rb w (x :: r) a c) :
    Calls Tryd.prog 57 #[pt rb] w fun e w' => e = .returned (.int .u8 (x : Int)) ∧ (∃ a' c', RB B rb w' r a' c') ∧ Mo w w' rb := by
  have c0 := Joins.cell_of_block h.box 0
  have f0 := Joins.unfrozen_of_block h.box 0
  simp at c0
  obtain ⟨b, o, rfl, hb, hc⟩ : ∃ b o, a = some ⟨b, o, none⟩ ∧ b < B ∧ ∀ k (h : k < (x :: r).length), w.cell? ⟨b, o + k, none⟩ = some (.int .u8 ((x :: r)[k] : Int)) := by
    rcases h.ba with e | e
    · cases e
    · exact e
  have m0 := hc 0 (by simp)
  simp at m0
  have hcap := h.cap
  have hsm := h.sm
  simp at hcap hsm
  have HR := hid h
  obtain ⟨n, hn⟩ : ∃ n, n = r.length := ⟨_, rfl⟩
  rw [← hn] at c0 hcap hsm
  have HN := hid hn
  have HC := hid hc
  clear h hc hn
  go_enter Tryd.func57, Tryd.ntmps57
  go_wp2
  all_goals go_ret
  · refine ⟨rfl, ⟨_, _, HR.out.tail (a' := some ⟨b, o, none⟩) (c' := 0) HN.out (by omega) ?_⟩, Mo.set _ _ _ _⟩
    exact .inl (List.length_eq_zero_iff.1 (by rw [← HN.out]; omega))
  · refine ⟨rfl, ⟨_, _, HR.out.tail (a' := some ⟨b, o + 1, none⟩) (c' := c - 1) HN.out (by omega) ?_⟩, Mo.set _ _ _ _⟩
    refine .inr ⟨b, o + 1, rfl, hb, fun k hk => ?_⟩
    have e := HC.out (k + 1) (by simp; exact hk)
    rw [Nat.add_assoc, Nat.add_comm 1 k]
    simpa using e
end Go.Proofs.YteanndophopplaaDoor
