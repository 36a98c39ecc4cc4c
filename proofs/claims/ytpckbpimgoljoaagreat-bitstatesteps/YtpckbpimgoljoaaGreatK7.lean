/- HELPERS: for awake: Simplify of a class. -/
import Derived.Test.YtpckbpimgoljoaaGreatK4
import Derived.Test.YtpckbpimgoljoaaGreatK6
import Derived.Deep.Onto
import Derived.Laws.Rows
/- HELPERS: for awake: the small calls on a node without Subs. -/
namespace Go.Proofs.YtpckbpimgoljoaaGreat
open Go.RowKit
set_option linter.unusedVariables false
set_option linter.unusedSimpArgs false
theorem next65c (m ad : Nat) (z1 : Option Addr) (n c : Nat) (w : World) (h : w.cell? ⟨m, 0, none⟩ = some (.slice z1 n c)) : Calls Tryz.prog 43 #[pt m] w fun e w' => e = .returned (.int .i64 (n : Int)) ∧ w' = w := by
  go_enter Tryz.func43, Tryz.ntmps43
  go_wp2
  all_goals go_ret
  all_goals exact ⟨rfl, rfl⟩
end Go.Proofs.YtpckbpimgoljoaaGreat
/- HELPERS: a program is copied. -/
namespace Go.Proofs.YtpckbpimgoljoaaGreat
open Go.RowKit
set_option linter.unusedVariables false
set_option linter.unusedSimpArgs false
abbrev Iv.rv (N : Iv) : Value := .slice N.r1 N.r2 N.r3
/-- an instruction whose ranges lie in a block by themselves, apart from a row -/
structure IO (w : World) (base : Nat) (z : Value) (N : Iv) (I : In) : Prop where
  op : N.op = I.op
  x : N.x = I.x
  y : N.y = I.y
  a : N.a = I.a
  len : N.r2 = I.R.length
  sm : N.r2 * 16 ≤ 140737488351232
  rr : w.ownsRow base 71 2 N.rv I.R.length (O2 I.R)
  ne : ∀ b, N.rv.ownBlock = some b → z.ownBlock ≠ some b
theorem rowAt_own {w : World} {base n : Nat} {ad : Option Addr} {c : Nat} {R : List (Int × Int)} (h : w.ownsRow base 71 2 (.slice ad n c) R.length (O2 R)) (hn : n = R.length) : RowAt w.heap.size w (.slice ad n c) R := by
  subst hn
  refine ⟨ad, c, rfl, ?_⟩
  rcases h.2 with ⟨_, h0⟩ | ⟨b, cap, cur, e, _⟩
  · exact .inl h0
  · right
    simp only [Value.slice.injEq] at e
    have hb := (h.lt b (by rw [e.1]; rfl)).2
    rw [e.1] at h
    refine ⟨b, 0, e.1, hb, fun k hk => ?_, fun k hk => ?_⟩
    · rw [Nat.zero_add, h.cellAt (k * 2) (by omega), (O2_at R k hk).1]
      simp [List.getD_eq_getElem?_getD, List.getElem?_eq_getElem hk]
    · rw [Nat.zero_add, h.cellAt (k * 2 + 1) (by omega), (O2_at R k hk).2]
      simp [List.getD_eq_getElem?_getD, List.getElem?_eq_getElem hk]
theorem IO.im {w : World} {base : Nat} {z : Value} {N : Iv} {I : In} (h : IO w base z N I) : IM w w.heap.size N I := ⟨h.op, h.x, h.y, h.a, h.len, h.sm, rowAt_own h.rr h.len⟩
theorem RowAt.src {w : World} {B : Nat} {ad : Option Addr} {n c : Nat} {R : List (Int × Int)} (h : RowAt B w (.slice ad n c) R) (hp : 0 < n) (hn : n = R.length) : ∃ b f, ad = some ⟨b, f, none⟩ ∧ ∀ j u, (O2 R)[j]? = some u → w.cell? ⟨b, f + j, none⟩ = some u := by
  obtain ⟨ad', cap, e, h1⟩ := h
  simp only [Value.slice.injEq] at e
  obtain ⟨rfl, _, rfl⟩ := e
  rcases h1 with h0 | ⟨b, off, rfl, _, h2, h3⟩
  · omega
  · refine ⟨b, off, rfl, fun j u hj => ?_⟩
    have hjl : j < (O2 R).length := (List.getElem?_eq_some_iff.1 hj).1
    rw [O2_len] at hjl
    have hk : j / 2 < R.length := by omega
    obtain ⟨o1, o2⟩ := O2_at R (j / 2) hk
    have g : R.getD (j / 2) (0, 0) = R[j / 2] := by simp [List.getD_eq_getElem?_getD, List.getElem?_eq_getElem hk]
    rcases Nat.mod_two_eq_zero_or_one j with h0 | h0
    · have e : j = j / 2 * 2 := by omega
      rw [e] at hj ⊢
      rw [o1] at hj
      rw [h2 (j / 2) hk, g]
      exact hj
    · have e : j = j / 2 * 2 + 1 := by omega
      rw [e] at hj ⊢
      rw [o2] at hj
      rw [← Nat.add_assoc, h3 (j / 2) hk, g]
      exact hj
abbrev Z5 : Value := .agg #[.int .i64 0, .int .i64 0, .int .i64 0, .int .i64 0, .slice none 0 0]
end Go.Proofs.YtpckbpimgoljoaaGreat
/- HELPERS: for awake: an instruction is put behind the others. -/
namespace Go.Proofs.YtpckbpimgoljoaaGreat
open Go.RowKit
set_option linter.unusedVariables false
set_option linter.unusedSimpArgs false
/-- the maker: its row of instructions -/
abbrev BxM (w : World) (m : Nat) (z1 : Option Addr) (n c : Nat) : Prop := w.heap[m]? = some (.cells #[.slice z1 n c] 53 (0, 0))
set_option maxRecDepth 100000 in
set_option maxHeartbeats 4000000 in
theorem add42 {w : World} {m : Nat} {z1 : Option Addr} {n c base : Nat} {xs : List Value} (N : Iv) (hm : BxM w m z1 n c) (hrow : w.ownsRow base 69 5 (.slice z1 n c) n xs) (hn : n ≤ 20000) (hb : base ≤ w.heap.size) :
    Calls Tryz.prog 30 #[pt m, N.v] w fun e w' => e = .returned (.tuple #[]) ∧ ∃ z1' c', BxM w' m z1' (n + 1) c' ∧ w'.ownsRow base 69 5 (.slice z1' (n + 1) c') (n + 1) (xs ++ Iv.cs N) ∧ (∀ b, (Value.slice z1' (n + 1) c').ownBlock = some b → (Value.slice z1 n c).ownBlock = some b ∨ w.heap.size ≤ b) ∧ Chs (fun b => b = m ∨ (Value.slice z1 n c).ownBlock = some b) w w' := by
  obtain ⟨i2, hi2, hz20, hz21, hz22⟩ := info_parts info51
  obtain ⟨op, xx, yy, aa, r1, r2, r3⟩ := N
  have hml : m < w.heap.size := (Array.getElem?_eq_some_iff.1 hm).1
  have hmz : (Value.slice z1 n c).ownBlock ≠ some m := own_ne hrow hm (by decide)
  obtain ⟨U, hU⟩ : ∃ U, U = w.alloc (.cells #[.int .i64 op, .int .i64 xx, .int .i64 yy, .int .i64 aa, .slice r1 r2 r3] 69) := ⟨_, rfl⟩
  have hbU : Below w.heap.size w U := by rw [hU]; exact Joins.below_alloc1 w _
  have hQ : U.heap[w.heap.size]? = some (.cells #[.int .i64 op, .int .i64 xx, .int .i64 yy, .int .i64 aa, .slice r1 r2 r3] 69 (0, 0)) := by rw [hU]; exact heap_alloc_new w _
  have hmU : U.heap[m]? = some (.cells #[.slice z1 n c] 53 (0, 0)) := (hbU.block m hml).trans hm
  have hsU : w.heap.size < U.heap.size := (Array.getElem?_eq_some_iff.1 hQ).1
  have hmlU : m < U.heap.size := by omega
  obtain ⟨d0, d1, d2, d3, d4⟩ := five hQ
  have p0 : U.cell? ⟨m, 0, none⟩ = some (.slice z1 n c) := Joins.cell_of_block hmU 0
  have HRU : Hid (U.ownsRow base 69 5 (.slice z1 n c) n xs) := row_kept hrow (fun b hb' => hbU.block b (hrow.lt b hb').2)
  have HO6 : Hid ((U.drew.alloc (.cells #[.int .i64 op, .int .i64 xx, .int .i64 yy, .int .i64 aa, .slice r1 r2 r3] 69)).ownsRow base 69 5 (.slice z1 n c) n xs) := (HRU.out.drew).alloc _
  have HBU := hid hbU
  have HMU := hid hmU
  have HROW := hid hrow
  obtain ⟨p, hp⟩ : ∃ p, p = w.heap.size := ⟨_, rfl⟩
  clear hbU hQ hmU hm hrow
  go_enter Tryz.func30, Tryz.ntmps30
  go_upto_region 1 with fail
  rw [← hU, ← hp]
  rw [← hp] at d0 d1 d2 d3 d4
  have HPE := hid hp
  have hpU : p < U.heap.size := by omega
  clear hU hp
  refine wp_region_lex 6 10 (fun W => W.cell? ⟨m, 0, none⟩ = some (.slice z1 n c) ∧ W.cell? ⟨p, 0, none⟩ = some (.int .i64 op) ∧ W.cell? ⟨p, 1, none⟩ = some (.int .i64 xx) ∧ W.cell? ⟨p, 2, none⟩ = some (.int .i64 yy) ∧ W.cell? ⟨p, 3, none⟩ = some (.int .i64 aa) ∧ W.cell? ⟨p, 4, none⟩ = some (.slice r1 r2 r3)) (by kernel_rfl) (by kernel_rfl) (by decide) (by kernel_rfl) (by kernel_rfl) ⟨by simpa using p0, by simpa using d0, by simpa using d1, by simpa using d2, by simpa using d3, by simpa using d4⟩ ?_
  simp only [List.take_succ_cons, List.take_zero, List.drop_succ_cons, List.drop_zero]
  iterate 6
    refine lex_cons ?_ rfl (fun W hW => ?_) (fun _ _ _ h => h) ?_
    rotate_left
    · obtain ⟨s0, s1, s2, s3, s4, s5⟩ := hW
      go_simp <;> with_reducible rfl
    simp only [Act.put, List.setIfInBounds_toArray, List.set_cons_zero, List.set_cons_succ]
  refine lex_nil (tail_cons fun K hK => ?_)
  go_simp
  refine hK.out _ _ (fun _ => ⟨by simp [p0, hmlU, World.cell?_alloc_lt], by simp [d0, hpU, World.cell?_alloc_lt], by simp [d1, hpU, World.cell?_alloc_lt], by simp [d2, hpU, World.cell?_alloc_lt], by simp [d3, hpU, World.cell?_alloc_lt], by simp [d4, hpU, World.cell?_alloc_lt]⟩) (tail_cons fun K hK => ?_)
  refine step_append_row rfl (.tmp 8) (.tmp 10) 26 rfl base 69 i2 Z5 5 56 Tryz.underlying26 hi2 hz20 hz21 hz22 rfl (by decide) (.slice z1 n c) n xs (by simp [Act.eval, Act.put]) (by exact HO6.out) U.heap.size 1 1 #[.int .i64 op, .int .i64 xx, .int .i64 yy, .int .i64 aa, .slice r1 r2 r3] 69 (by simp [Act.eval, Act.put]) (by exact heap_alloc_new U.drew _) rfl (by decide) (by simp [Value.oneCell']) (by unfold maxLen; omega) (by omega) (by (try simp) <;> omega) ?_
  intro v3 w3 ho3 hf3
  obtain ⟨y1, y3, rfl, _⟩ := row_shape ho3.out
  have hz3 : U.heap.size + 1 ≤ w3.heap.size := (by have := hf3.out.size; simpa using this)
  have hpz : (Value.slice z1 n c).ownBlock ≠ some p := fun e => by have := (HROW.out.lt p e).2; have := HPE.out; omega
  have e1 : w3.heap[m]? = U.heap[m]? := (hf3.out.block m (by (try simp) <;> omega) hmz).trans (heap_alloc_old _ _ (by (try simp) <;> omega))
  have e2 : w3.heap[p]? = U.heap[p]? := (hf3.out.block p (by (try simp) <;> omega) hpz).trans (heap_alloc_old _ _ (by (try simp) <;> omega))
  have q0 := (cell_eq e1 0).trans p0
  have q1 := (frz_eq e1 0).trans (Joins.unfrozen_of_block HMU.out 0)
  have E1 := hid e1
  have t0 := (cell_eq e2 0).trans d0
  have t1 := (cell_eq e2 1).trans d1
  have t2 := (cell_eq e2 2).trans d2
  have t3 := (cell_eq e2 3).trans d3
  have t4 := (cell_eq e2 4).trans d4
  clear e1 e2
  refine hK.out _ _ (fun _ => ⟨q0, t0, t1, t2, t3, t4⟩) (tail_cons fun K hK => ?_)
  simp only [Act.put, List.setIfInBounds_toArray, List.set_cons_zero, List.set_cons_succ]
  go_simp
  refine hK.out _ _ (fun _ => ⟨q0, t0, t1, t2, t3, t4⟩) (tail_cons fun K hK => ?_)
  simp only [Act.put, List.setIfInBounds_toArray, List.set_cons_zero, List.set_cons_succ]
  go_simp
  refine hK.out _ _ (fun _ => ⟨q0, t0, t1, t2, t3, t4⟩) (tail_cons fun K hK => ?_)
  simp only [Act.put, List.setIfInBounds_toArray, List.set_cons_zero, List.set_cons_succ]
  go_simp
  refine hK.out _ _ (fun h => absurd rfl h) (tail_nil ?_)
  go_wp2_with fail
  go_end0
  have hy1 : ∀ b, (Value.slice y1 (n + 1) y3).ownBlock = some b → (Value.slice z1 n c).ownBlock = some b ∨ U.heap.size ≤ b := fun b hb => (hf3.out.own b hb).imp id (fun h => by (try simp at h) <;> omega)
  have hmy : (Value.slice y1 (n + 1) y3).ownBlock ≠ some m := fun e => by
    rcases hy1 m e with h | h
    · exact hmz h
    · omega
  refine ⟨rfl, y1, y3, ?_, own_setCell ho3.out hmy, fun b hb => (hy1 b hb).imp id (fun h => by omega), ⟨?_, ?_, ?_, ?_, fun b hb hn' => ?_⟩⟩
  · exact Joins.block_setCell (i := 0) (E1.out.trans HMU.out) _
  · exact hf3.out.os.trans HBU.out.os
  · exact hf3.out.tape.trans HBU.out.tape
  · exact hf3.out.output.trans HBU.out.output
  · simp [World.setCell]; omega
  · exact (Below.heap_setCell _ _ _ _ (fun e => hn' (.inl e))).trans ((hf3.out.block b (by (try simp) <;> omega) (fun h => hn' (.inr h))).trans ((heap_alloc_old _ _ (by (try simp) <;> omega)).trans (HBU.out.block b hb)))
end Go.Proofs.YtpckbpimgoljoaaGreat
/- HELPERS: for awake: the maker lays down a class. -/
namespace Go.Proofs.YtpckbpimgoljoaaGreat
open Go.RowKit
set_option linter.unusedVariables false
set_option linter.unusedSimpArgs false
def MK (w : World) (m base n : Nat) (xs : List Value) : Prop := ∃ z1 c, BxM w m z1 n c ∧ w.ownsRow base 69 5 (.slice z1 n c) n xs
/-- what the maker leaves -/
structure Fr (base : Nat) (w w' : World) : Prop where
  os : w'.os = w.os
  tape : w'.tape = w.tape
  output : w'.output = w.output
  size : w.heap.size ≤ w'.heap.size
  blk : ∀ (b : Nat) (cs : Array Value) (t : TypeId) (fr : Nat × Nat), w.heap[b]? = some (.cells cs t fr) → t ≠ 69 → t ≠ 53 → w'.heap[b]? = some (.cells cs t fr)
  low : ∀ b, b < base → w'.heap[b]? = w.heap[b]?
theorem Fr.trans {base : Nat} {w w1 w2 : World} (h : Fr base w w1) (h' : Fr base w1 w2) : Fr base w w2 :=
  ⟨h'.os.trans h.os, h'.tape.trans h.tape, h'.output.trans h.output, Nat.le_trans h.size h'.size, fun b cs t fr e h1 h2 => h'.blk b cs t fr (h.blk b cs t fr e h1 h2) h1 h2, fun b hb => (h'.low b hb).trans (h.low b hb)⟩
theorem Fr.of_below {base : Nat} {w w' : World} (h : Below w.heap.size w w') (hb : base ≤ w.heap.size) : Fr base w w' :=
  ⟨h.os, h.tape, h.output, h.size, fun b cs t fr e _ _ => (h.block b (Array.getElem?_eq_some_iff.1 e).1).trans e, fun b hb' => h.block b (by omega)⟩
theorem MK.below {w w' : World} {m base n : Nat} {xs : List Value} (h : MK w m base n xs) (hb : Below w.heap.size w w') : MK w' m base n xs := by
  obtain ⟨z1, c, h1, h2⟩ := h
  exact ⟨z1, c, (hb.block m (Array.getElem?_eq_some_iff.1 h1).1).trans h1, row_kept h2 (fun b hb' => hb.block b (h2.lt b hb').2)⟩
theorem add42' {w : World} {m base n : Nat} {xs : List Value} (N : Iv) (h : MK w m base n xs) (hm : base ≤ m) (hn : n ≤ 20000) (hb : base ≤ w.heap.size) :
    Calls Tryz.prog 30 #[pt m, N.v] w fun e w' => e = .returned (.tuple #[]) ∧ MK w' m base (n + 1) (xs ++ Iv.cs N) ∧ Fr base w w' := by
  obtain ⟨z1, c, h1, h2⟩ := h
  refine (add42 N h1 h2 hn hb).mono ?_
  rintro e w' ⟨rfl, z1', c', g1, g2, g3, g4⟩
  refine ⟨rfl, ⟨z1', c', g1, g2⟩, ⟨g4.os, g4.tape, g4.output, g4.size, fun b cs t fr e h51 h64 => (g4.block b (Array.getElem?_eq_some_iff.1 e).1 ?_).trans e, fun b hb' => g4.block b (by omega) ?_⟩⟩
  · rintro (rfl | h)
    · rw [h1] at e; cases e; exact h64 rfl
    · exact own_ne h2 e h51 h
  · rintro (rfl | h)
    · omega
    · have := (h2.lt b h).1; omega
set_option maxRecDepth 100000 in
set_option maxHeartbeats 4000000 in
theorem step48 {w : World} {m base n : Nat} {xs : List Value} (op yy aa : Int) (r1 : Option Addr) (r2 r3 : Nat) (h : MK w m base n xs) (hm : base ≤ m) (hn : n ≤ 20000) (hb : base ≤ w.heap.size) :
    Calls Tryz.prog 28 #[pt m, (⟨op, 0, yy, aa, r1, r2, r3⟩ : Iv).v] w fun e w' => e = .returned (.tuple #[]) ∧ MK w' m base (n + 1) (xs ++ Iv.cs ⟨op, (n : Int) + 1, yy, aa, r1, r2, r3⟩) ∧ Fr base w w' := by
  obtain ⟨U, hU⟩ : ∃ U, U = w.alloc (.cells #[.int .i64 op, .int .i64 0, .int .i64 yy, .int .i64 aa, .slice r1 r2 r3] 69) := ⟨_, rfl⟩
  have hbU : Below w.heap.size w U := by rw [hU]; exact Joins.below_alloc1 w _
  have hQ : U.heap[w.heap.size]? = some (.cells #[.int .i64 op, .int .i64 0, .int .i64 yy, .int .i64 aa, .slice r1 r2 r3] 69 (0, 0)) := by rw [hU]; exact heap_alloc_new w _
  obtain ⟨z1, c, g1, g2⟩ := h.below hbU
  have HN := next65c m 0 z1 n c U (Joins.cell_of_block g1 0)
  have hmw : m < w.heap.size := by obtain ⟨_, _, k1, _⟩ := h; exact (Array.getElem?_eq_some_iff.1 k1).1
  have f1 := Joins.unfrozen_of_block hQ 1
  have ad1 : IntKind.i64.wrap ((n : Int) + 1) = (n : Int) + 1 := by simp [IntKind.wrap, IntKind.bits, IntKind.signed]; omega
  obtain ⟨V, hV⟩ : ∃ V, V = U.setCell ⟨w.heap.size, 1, none⟩ (.int .i64 ((n : Int) + 1)) := ⟨_, rfl⟩
  have hbV : Below w.heap.size w V := by rw [hV]; exact hbU.setCell (p := ⟨w.heap.size, 1, none⟩) (Nat.le_refl _) _
  have hQV : V.heap[w.heap.size]? = some (.cells #[.int .i64 op, .int .i64 ((n : Int) + 1), .int .i64 yy, .int .i64 aa, .slice r1 r2 r3] 69 (0, 0)) := by rw [hV]; exact Joins.block_setCell (i := 1) hQ _
  obtain ⟨d0, d1, d2, d3, d4⟩ := five hQV
  have HA := add42' ⟨op, (n : Int) + 1, yy, aa, r1, r2, r3⟩ (h.below hbV) hm hn (Nat.le_trans hb hbV.size)
  have HF := hid (Fr.of_below hbV hb)
  obtain ⟨c0, c1, c2, c3, c4⟩ := five hQ
  clear h hbU hQ g1 g2 hbV hQV
  obtain ⟨p, hp⟩ : ∃ p, p = w.heap.size := ⟨_, rfl⟩
  go_enter Tryz.func28, Tryz.ntmps28
  go_upto_region 1 with fail
  rw [← hU, ← hp]
  rw [← hp] at f1 d0 d1 d2 d3 d4 hV c0 c1 c2 c3 c4
  clear hU hp
  go_upto_region 2 with (go_at_call 43; (with_reducible refine HN.mono ?_); rintro e w2 ⟨rfl, hw⟩; have hw' := hw.symm; clear hw; subst hw'; clear HN)
  rw [← hV]
  clear hV c0 c1 c2 c3 c4 f1
  go_wp2_with (first | (go_at_call 30; (with_reducible refine HA.mono ?_); rintro e w3 ⟨rfl, hM, hf⟩; have HM := hid hM; have HF3 := hid hf; clear hM hf HA))
  go_end0
  exact ⟨rfl, HM.out, HF.out.trans HF3.out⟩
end Go.Proofs.YtpckbpimgoljoaaGreat
/- HELPERS: a program that is lent: two marks behind each list. -/
namespace Go.Proofs.YtpckbpimgoljoaaGreat
open Go.RowKit
set_option linter.unusedVariables false
set_option linter.unusedSimpArgs false
theorem RowAt.kept {w w' : World} {N : Nat} {v : Value} {L : List (Int × Int)} (h : RowAt N w v L) (hk : ∀ b, b < N → w'.heap[b]? = w.heap[b]?) : RowAt N w' v L := by
  obtain ⟨ad, cap, e, h1⟩ := h
  refine ⟨ad, cap, e, h1.imp id ?_⟩
  rintro ⟨b, off, e1, h2, h3, h4⟩
  exact ⟨b, off, e1, h2, fun k hk' => (cell_eq (hk b h2) _).trans (h3 k hk'), fun k hk' => (cell_eq (hk b h2) _).trans (h4 k hk')⟩
theorem make51 (c : Nat) (hc : c * 56 ≤ 140737488355328) (w : World) : (Instr.makeSlice 26 (.int .i64 0) (.int .i64 (c : Int))).run Tryz.prog w = .ok (.slice (some ⟨w.heap.size, 0, none⟩) 0 c) (w.alloc (.cells (madeCells Z5.cells (c * 5)) 69)) := by
  obtain ⟨i0, hi0, hz0, hz1, hz2⟩ := info_parts info51
  have h := run_make (P := Tryz.prog) w 26 69 i0 Z5 Tryz.underlying26 hi0 hz0 .i64 .i64 0 c (by omega) (by omega) (by rw [hz2]; omega) (by omega)
  simp only [Int.toNat_natCast, hz1, Int.toNat_zero] at h
  exact h
theorem made_own51 (c : Nat) (hc : c ≤ maxLen) (base : Nat) (w : World) (hb : base ≤ w.heap.size) : (w.alloc (.cells (madeCells Z5.cells (c * 5)) 69)).ownsRow base 69 5 (.slice (some ⟨w.heap.size, 0, none⟩) 0 c) 0 [] :=
  ⟨rfl, .inr ⟨w.heap.size, c, _, rfl, hb, heap_alloc_new w _, Nat.zero_le _, hc, size_madeCells _ _, by simp⟩⟩
end Go.Proofs.YtpckbpimgoljoaaGreat
/- HELPERS: for awake: the maker lays down the program of a class. -/
namespace Go.Proofs.YtpckbpimgoljoaaGreat
open Go.RowKit
set_option linter.unusedVariables false
set_option linter.unusedSimpArgs false
end Go.Proofs.YtpckbpimgoljoaaGreat
/- HELPERS: for awake: the whole program of a class; a new row. -/
namespace Go.Proofs.YtpckbpimgoljoaaGreat
open Go.RowKit
set_option linter.unusedVariables false
set_option linter.unusedSimpArgs false
end Go.Proofs.YtpckbpimgoljoaaGreat
/- HELPERS: for awake: the simple form of a class. -/
namespace Go.Proofs.YtpckbpimgoljoaaGreat
open Go.RowKit
set_option linter.unusedVariables false
set_option linter.unusedSimpArgs false
end Go.Proofs.YtpckbpimgoljoaaGreat
namespace Go.Proofs.YtpckbpimgoljoaaGreat
open Go.RowKit
set_option linter.unusedVariables false
set_option linter.unusedSimpArgs false
theorem results_cell_tmp {P : Program} {fn : Func} {p u : Tmp} {ty : TypeId} (h : fn.results = #[.cell p ty, .tmp u]) (tmps : Array Value) (w : World) (g : Nat) (t : TypeId) (cs : Array Value) (fr : Nat × Nat) (d : TypeDesc)
    (hp : tmps.getD p undef = .pointer (some ⟨g, 0, none⟩)) (hg : w.heap[g]? = some (.cells cs t fr))
    (hu : P.underlying ty = some d) (hd : (match d with | .struct _ | .array _ _ => true | _ => false) = true) (hi : (P.info? ty).map (·.size) = some cs.size) :
    (results fn tmps).run P w = .ok (.tuple #[.agg cs, tmps.getD u undef]) w := by
  have hp' : tmps[p]?.getD undef = .pointer (some ⟨g, 0, none⟩) := by simpa using hp
  simp [results, h, hp', asAddr, run_loadVar_row w g t ty cs fr d hg hu hd hi]
end Go.Proofs.YtpckbpimgoljoaaGreat
