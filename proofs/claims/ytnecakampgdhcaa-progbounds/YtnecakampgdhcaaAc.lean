/- HELPERS: for awake: the maker lays down a class. -/
import Derived.Test.YtnecakampgdhcaaAb
namespace Go.Proofs.Ytnecakampgdhcaa
open Go.RowKit
set_option linter.unusedVariables false
set_option linter.unusedSimpArgs false
def MK (w : World) (m base n : Nat) (xs : List Value) : Prop := ∃ z1 c, BxM w m z1 n c ∧ w.ownsRow base 51 5 (.slice z1 n c) n xs
/-- what the maker leaves -/
structure Fr (base : Nat) (w w' : World) : Prop where
  os : w'.os = w.os
  tape : w'.tape = w.tape
  output : w'.output = w.output
  size : w.heap.size ≤ w'.heap.size
  blk : ∀ (b : Nat) (cs : Array Value) (t : TypeId) (fr : Nat × Nat), w.heap[b]? = some (.cells cs t fr) → t ≠ 51 → t ≠ 64 → w'.heap[b]? = some (.cells cs t fr)
  low : ∀ b, b < base → w'.heap[b]? = w.heap[b]?
theorem Fr.trans {base : Nat} {w w1 w2 : World} (h : Fr base w w1) (h' : Fr base w1 w2) : Fr base w w2 :=
  ⟨h'.os.trans h.os, h'.tape.trans h.tape, h'.output.trans h.output, Nat.le_trans h.size h'.size, fun b cs t fr e h1 h2 => h'.blk b cs t fr (h.blk b cs t fr e h1 h2) h1 h2, fun b hb => (h'.low b hb).trans (h.low b hb)⟩
theorem Fr.of_below {base : Nat} {w w' : World} (h : Below w.heap.size w w') (hb : base ≤ w.heap.size) : Fr base w w' :=
  ⟨h.os, h.tape, h.output, h.size, fun b cs t fr e _ _ => (h.block b (Array.getElem?_eq_some_iff.1 e).1).trans e, fun b hb' => h.block b (by omega)⟩
theorem MK.below {w w' : World} {m base n : Nat} {xs : List Value} (h : MK w m base n xs) (hb : Below w.heap.size w w') : MK w' m base n xs := by
  obtain ⟨z1, c, h1, h2⟩ := h
  exact ⟨z1, c, (hb.block m (Array.getElem?_eq_some_iff.1 h1).1).trans h1, row_kept h2 (fun b hb' => hb.block b (h2.lt b hb').2)⟩
theorem add42' {w : World} {m base n : Nat} {xs : List Value} (N : Iv) (h : MK w m base n xs) (hm : base ≤ m) (hn : n ≤ 20000) (hb : base ≤ w.heap.size) :
    Calls Try.prog 42 #[pt m, N.v] w fun e w' => e = .returned (.tuple #[]) ∧ MK w' m base (n + 1) (xs ++ Iv.cs N) ∧ Fr base w w' := by
  obtain ⟨z1, c, h1, h2⟩ := h
  refine (add42 N h1 h2 hn hb).mono ?_
  rintro e w' ⟨rfl, z1', c', g1, g2, g3, g4⟩
  refine ⟨rfl, ⟨z1', c', g1, g2⟩, ⟨g4.os, g4.tape, g4.output, g4.size, fun b cs t fr e h51 h64 => (g4.block b (Array.getElem?_eq_some_iff.1 e).1 ?_).trans e, fun b hb' => g4.block b (by omega) ?_⟩⟩
  · rintro (rfl | h)
    · rw [h1] at e; cases e; exact h64 rfl
    · exact own_ne h2 e h51 h
  · rintro (rfl | h)
    · omega
    · have := (h2.lt b h).1; omega
set_option maxRecDepth 100000 in
set_option maxHeartbeats 4000000 in
theorem step48 {w : World} {m base n : Nat} {xs : List Value} (op yy aa : Int) (r1 : Option Addr) (r2 r3 : Nat) (h : MK w m base n xs) (hm : base ≤ m) (hn : n ≤ 20000) (hb : base ≤ w.heap.size) :
    Calls Try.prog 48 #[pt m, (⟨op, 0, yy, aa, r1, r2, r3⟩ : Iv).v] w fun e w' => e = .returned (.tuple #[]) ∧ MK w' m base (n + 1) (xs ++ Iv.cs ⟨op, (n : Int) + 1, yy, aa, r1, r2, r3⟩) ∧ Fr base w w' := by
  obtain ⟨U, hU⟩ : ∃ U, U = w.alloc (.cells #[.int .i64 op, .int .i64 0, .int .i64 yy, .int .i64 aa, .slice r1 r2 r3] 51) := ⟨_, rfl⟩
  have hbU : Below w.heap.size w U := by rw [hU]; exact Joins.below_alloc1 w _
  have hQ : U.heap[w.heap.size]? = some (.cells #[.int .i64 op, .int .i64 0, .int .i64 yy, .int .i64 aa, .slice r1 r2 r3] 51 (0, 0)) := by rw [hU]; exact heap_alloc_new w _
  obtain ⟨z1, c, g1, g2⟩ := h.below hbU
  have HN := next65c m 0 z1 n c U (Joins.cell_of_block g1 0)
  have hmw : m < w.heap.size := by obtain ⟨_, _, k1, _⟩ := h; exact (Array.getElem?_eq_some_iff.1 k1).1
  have f1 := Joins.unfrozen_of_block hQ 1
  have ad1 : IntKind.i64.wrap ((n : Int) + 1) = (n : Int) + 1 := by simp [IntKind.wrap, IntKind.bits, IntKind.signed]; omega
  obtain ⟨V, hV⟩ : ∃ V, V = U.setCell ⟨w.heap.size, 1, none⟩ (.int .i64 ((n : Int) + 1)) := ⟨_, rfl⟩
  have hbV : Below w.heap.size w V := by rw [hV]; exact hbU.setCell (p := ⟨w.heap.size, 1, none⟩) (Nat.le_refl _) _
  have hQV : V.heap[w.heap.size]? = some (.cells #[.int .i64 op, .int .i64 ((n : Int) + 1), .int .i64 yy, .int .i64 aa, .slice r1 r2 r3] 51 (0, 0)) := by rw [hV]; exact Joins.block_setCell (i := 1) hQ _
  obtain ⟨d0, d1, d2, d3, d4⟩ := five hQV
  have HA := add42' ⟨op, (n : Int) + 1, yy, aa, r1, r2, r3⟩ (h.below hbV) hm hn (Nat.le_trans hb hbV.size)
  have HF := hid (Fr.of_below hbV hb)
  obtain ⟨c0, c1, c2, c3, c4⟩ := five hQ
  clear h hbU hQ g1 g2 hbV hQV
  obtain ⟨p, hp⟩ : ∃ p, p = w.heap.size := ⟨_, rfl⟩
  go_enter Try.func48, Try.ntmps48
  go_upto_region 1 with fail
  rw [← hU, ← hp]
  rw [← hp] at f1 d0 d1 d2 d3 d4 hV c0 c1 c2 c3 c4
  clear hU hp
  go_upto_region 2 with (go_at_call 65; (with_reducible refine HN.mono ?_); rintro e w2 ⟨rfl, hw⟩; have hw' := hw.symm; clear hw; subst hw'; clear HN)
  rw [← hV]
  clear hV c0 c1 c2 c3 c4 f1
  go_wp2_with (first | (go_at_call 42; (with_reducible refine HA.mono ?_); rintro e w3 ⟨rfl, hM, hf⟩; have HM := hid hM; have HF3 := hid hf; clear hM hf HA))
  go_end0
  exact ⟨rfl, HM.out, HF.out.trans HF3.out⟩
end Go.Proofs.Ytnecakampgdhcaa
