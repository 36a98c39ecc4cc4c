/- HELPERS: for awake: an instruction is put behind the others. -/
import Derived.Test.YtnecakampgdhcaaAa
import Derived.Test.YtnecakampgdhcaaCp
namespace Go.Proofs.Ytnecakampgdhcaa
open Go.RowKit
set_option linter.unusedVariables false
set_option linter.unusedSimpArgs false
/-- the maker: its row of instructions -/
abbrev BxM (w : World) (m : Nat) (z1 : Option Addr) (n c : Nat) : Prop := w.heap[m]? = some (.cells #[.slice z1 n c] 64 (0, 0))
set_option maxRecDepth 100000 in
set_option maxHeartbeats 4000000 in
theorem add42 {w : World} {m : Nat} {z1 : Option Addr} {n c base : Nat} {xs : List Value} (N : Iv) (hm : BxM w m z1 n c) (hrow : w.ownsRow base 51 5 (.slice z1 n c) n xs) (hn : n ≤ 20000) (hb : base ≤ w.heap.size) :
    Calls Try.prog 42 #[pt m, N.v] w fun e w' => e = .returned (.tuple #[]) ∧ ∃ z1' c', BxM w' m z1' (n + 1) c' ∧ w'.ownsRow base 51 5 (.slice z1' (n + 1) c') (n + 1) (xs ++ Iv.cs N) ∧ (∀ b, (Value.slice z1' (n + 1) c').ownBlock = some b → (Value.slice z1 n c).ownBlock = some b ∨ w.heap.size ≤ b) ∧ Chs (fun b => b = m ∨ (Value.slice z1 n c).ownBlock = some b) w w' := by
  obtain ⟨i2, hi2, hz20, hz21, hz22⟩ := info_parts info51
  obtain ⟨op, xx, yy, aa, r1, r2, r3⟩ := N
  have hml : m < w.heap.size := (Array.getElem?_eq_some_iff.1 hm).1
  have hmz : (Value.slice z1 n c).ownBlock ≠ some m := own_ne hrow hm (by decide)
  obtain ⟨U, hU⟩ : ∃ U, U = w.alloc (.cells #[.int .i64 op, .int .i64 xx, .int .i64 yy, .int .i64 aa, .slice r1 r2 r3] 51) := ⟨_, rfl⟩
  have hbU : Below w.heap.size w U := by rw [hU]; exact Joins.below_alloc1 w _
  have hQ : U.heap[w.heap.size]? = some (.cells #[.int .i64 op, .int .i64 xx, .int .i64 yy, .int .i64 aa, .slice r1 r2 r3] 51 (0, 0)) := by rw [hU]; exact heap_alloc_new w _
  have hmU : U.heap[m]? = some (.cells #[.slice z1 n c] 64 (0, 0)) := (hbU.block m hml).trans hm
  have hsU : w.heap.size < U.heap.size := (Array.getElem?_eq_some_iff.1 hQ).1
  have hmlU : m < U.heap.size := by omega
  obtain ⟨d0, d1, d2, d3, d4⟩ := five hQ
  have p0 : U.cell? ⟨m, 0, none⟩ = some (.slice z1 n c) := Joins.cell_of_block hmU 0
  have HRU : Hid (U.ownsRow base 51 5 (.slice z1 n c) n xs) := row_kept hrow (fun b hb' => hbU.block b (hrow.lt b hb').2)
  have HO6 : Hid ((U.drew.alloc (.cells #[.int .i64 op, .int .i64 xx, .int .i64 yy, .int .i64 aa, .slice r1 r2 r3] 51)).ownsRow base 51 5 (.slice z1 n c) n xs) := (HRU.out.drew).alloc _
  have HBU := hid hbU
  have HMU := hid hmU
  have HROW := hid hrow
  obtain ⟨p, hp⟩ : ∃ p, p = w.heap.size := ⟨_, rfl⟩
  clear hbU hQ hmU hm hrow
  go_enter Try.func42, Try.ntmps42
  go_upto_region 1 with fail
  rw [← hU, ← hp]
  rw [← hp] at d0 d1 d2 d3 d4
  have HPE := hid hp
  have hpU : p < U.heap.size := by omega
  clear hU hp
  refine wp_region_lex 6 10 (fun W => W.cell? ⟨m, 0, none⟩ = some (.slice z1 n c) ∧ W.cell? ⟨p, 0, none⟩ = some (.int .i64 op) ∧ W.cell? ⟨p, 1, none⟩ = some (.int .i64 xx) ∧ W.cell? ⟨p, 2, none⟩ = some (.int .i64 yy) ∧ W.cell? ⟨p, 3, none⟩ = some (.int .i64 aa) ∧ W.cell? ⟨p, 4, none⟩ = some (.slice r1 r2 r3)) (by kernel_rfl) (by kernel_rfl) (by decide) (by kernel_rfl) (by kernel_rfl) ⟨by simpa using p0, by simpa using d0, by simpa using d1, by simpa using d2, by simpa using d3, by simpa using d4⟩ ?_
  simp only [List.take_succ_cons, List.take_zero, List.drop_succ_cons, List.drop_zero]
  iterate 6
    refine lex_cons ?_ rfl (fun W hW => ?_) (fun _ _ _ h => h) ?_
    rotate_left
    · obtain ⟨s0, s1, s2, s3, s4, s5⟩ := hW
      go_simp <;> with_reducible rfl
    simp only [Act.put, List.setIfInBounds_toArray, List.set_cons_zero, List.set_cons_succ]
  refine lex_nil (tail_cons fun K hK => ?_)
  go_simp
  refine hK.out _ _ (fun _ => ⟨by simp [p0, hmlU, World.cell?_alloc_lt], by simp [d0, hpU, World.cell?_alloc_lt], by simp [d1, hpU, World.cell?_alloc_lt], by simp [d2, hpU, World.cell?_alloc_lt], by simp [d3, hpU, World.cell?_alloc_lt], by simp [d4, hpU, World.cell?_alloc_lt]⟩) (tail_cons fun K hK => ?_)
  refine step_append_row rfl (.tmp 8) (.tmp 10) 22 rfl base 51 i2 Z5 5 56 Try.underlying22 hi2 hz20 hz21 hz22 rfl (by decide) (.slice z1 n c) n xs (by simp [Act.eval, Act.put]) (by exact HO6.out) U.heap.size 1 1 #[.int .i64 op, .int .i64 xx, .int .i64 yy, .int .i64 aa, .slice r1 r2 r3] 51 (by simp [Act.eval, Act.put]) (by exact heap_alloc_new U.drew _) rfl (by decide) (by simp [Value.oneCell']) (by unfold maxLen; omega) (by omega) (by (try simp) <;> omega) ?_
  intro v3 w3 ho3 hf3
  obtain ⟨y1, y3, rfl, _⟩ := row_shape ho3.out
  have hz3 : U.heap.size + 1 ≤ w3.heap.size := (by have := hf3.out.size; simpa using this)
  have hpz : (Value.slice z1 n c).ownBlock ≠ some p := fun e => by have := (HROW.out.lt p e).2; have := HPE.out; omega
  have e1 : w3.heap[m]? = U.heap[m]? := (hf3.out.block m (by (try simp) <;> omega) hmz).trans (heap_alloc_old _ _ (by (try simp) <;> omega))
  have e2 : w3.heap[p]? = U.heap[p]? := (hf3.out.block p (by (try simp) <;> omega) hpz).trans (heap_alloc_old _ _ (by (try simp) <;> omega))
  have q0 := (cell_eq e1 0).trans p0
  have q1 := (frz_eq e1 0).trans (Joins.unfrozen_of_block HMU.out 0)
  have E1 := hid e1
  have t0 := (cell_eq e2 0).trans d0
  have t1 := (cell_eq e2 1).trans d1
  have t2 := (cell_eq e2 2).trans d2
  have t3 := (cell_eq e2 3).trans d3
  have t4 := (cell_eq e2 4).trans d4
  clear e1 e2
  refine hK.out _ _ (fun _ => ⟨q0, t0, t1, t2, t3, t4⟩) (tail_cons fun K hK => ?_)
  simp only [Act.put, List.setIfInBounds_toArray, List.set_cons_zero, List.set_cons_succ]
  go_simp
  refine hK.out _ _ (fun _ => ⟨q0, t0, t1, t2, t3, t4⟩) (tail_cons fun K hK => ?_)
  simp only [Act.put, List.setIfInBounds_toArray, List.set_cons_zero, List.set_cons_succ]
  go_simp
  refine hK.out _ _ (fun _ => ⟨q0, t0, t1, t2, t3, t4⟩) (tail_cons fun K hK => ?_)
  simp only [Act.put, List.setIfInBounds_toArray, List.set_cons_zero, List.set_cons_succ]
  go_simp
  refine hK.out _ _ (fun h => absurd rfl h) (tail_nil ?_)
  go_wp2_with fail
  go_end0
  have hy1 : ∀ b, (Value.slice y1 (n + 1) y3).ownBlock = some b → (Value.slice z1 n c).ownBlock = some b ∨ U.heap.size ≤ b := fun b hb => (hf3.out.own b hb).imp id (fun h => by (try simp at h) <;> omega)
  have hmy : (Value.slice y1 (n + 1) y3).ownBlock ≠ some m := fun e => by
    rcases hy1 m e with h | h
    · exact hmz h
    · omega
  refine ⟨rfl, y1, y3, ?_, own_setCell ho3.out hmy, fun b hb => (hy1 b hb).imp id (fun h => by omega), ⟨?_, ?_, ?_, ?_, fun b hb hn' => ?_⟩⟩
  · exact Joins.block_setCell (i := 0) (E1.out.trans HMU.out) _
  · exact hf3.out.os.trans HBU.out.os
  · exact hf3.out.tape.trans HBU.out.tape
  · exact hf3.out.output.trans HBU.out.output
  · simp [World.setCell]; omega
  · exact (Below.heap_setCell _ _ _ _ (fun e => hn' (.inl e))).trans ((hf3.out.block b (by (try simp) <;> omega) (fun h => hn' (.inr h))).trans ((heap_alloc_old _ _ (by (try simp) <;> omega)).trans (HBU.out.block b hb)))
end Go.Proofs.Ytnecakampgdhcaa
