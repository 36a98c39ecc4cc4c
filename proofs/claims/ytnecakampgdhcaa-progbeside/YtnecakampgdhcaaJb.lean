/- HELPERS: a row of programs in memory; a row of instructions that grows, each with ranges of its own. -/
import Derived.Test.YtnecakampgdhcaaJa
import Derived.Test.YtnecakampgdhcaaCp
namespace Go.Proofs.Ytnecakampgdhcaa
open Go.RowKit
set_option linter.unusedVariables false
set_option linter.unusedSimpArgs false
abbrev BxR (w : World) (m : Nat) (t : TypeId) (z1 : Option Addr) (n c : Nat) : Prop := w.heap[m]? = some (.cells #[.slice z1 n c] t (0, 0))
set_option maxRecDepth 100000 in
set_option maxHeartbeats 4000000 in
theorem add42g {t : TypeId} (ht : t ≠ 51) {w : World} {m : Nat} {z1 : Option Addr} {n c base : Nat} {xs : List Value} (N : Iv) (hm : BxR w m t z1 n c) (hrow : w.ownsRow base 51 5 (.slice z1 n c) n xs) (hn : n ≤ 20000) (hb : base ≤ w.heap.size) :
    Calls Try.prog 42 #[pt m, N.v] w fun e w' => e = .returned (.tuple #[]) ∧ ∃ z1' c', BxR w' m t z1' (n + 1) c' ∧ w'.ownsRow base 51 5 (.slice z1' (n + 1) c') (n + 1) (xs ++ Iv.cs N) ∧ (∀ b, (Value.slice z1' (n + 1) c').ownBlock = some b → (Value.slice z1 n c).ownBlock = some b ∨ w.heap.size ≤ b) ∧ Chs (fun b => b = m ∨ (Value.slice z1 n c).ownBlock = some b) w w' := by
  obtain ⟨i2, hi2, hz20, hz21, hz22⟩ := info_parts info51
  obtain ⟨op, xx, yy, aa, r1, r2, r3⟩ := N
  have hml : m < w.heap.size := (Array.getElem?_eq_some_iff.1 hm).1
  have hmz : (Value.slice z1 n c).ownBlock ≠ some m := own_ne hrow hm ht
  obtain ⟨U, hU⟩ : ∃ U, U = w.alloc (.cells #[.int .i64 op, .int .i64 xx, .int .i64 yy, .int .i64 aa, .slice r1 r2 r3] 51) := ⟨_, rfl⟩
  have hbU : Below w.heap.size w U := by rw [hU]; exact Joins.below_alloc1 w _
  have hQ : U.heap[w.heap.size]? = some (.cells #[.int .i64 op, .int .i64 xx, .int .i64 yy, .int .i64 aa, .slice r1 r2 r3] 51 (0, 0)) := by rw [hU]; exact heap_alloc_new w _
  have hmU : U.heap[m]? = some (.cells #[.slice z1 n c] t (0, 0)) := (hbU.block m hml).trans hm
  have hsU : w.heap.size < U.heap.size := (Array.getElem?_eq_some_iff.1 hQ).1
  have hmlU : m < U.heap.size := by omega
  obtain ⟨d0, d1, d2, d3, d4⟩ := five hQ
  have p0 : U.cell? ⟨m, 0, none⟩ = some (.slice z1 n c) := Joins.cell_of_block hmU 0
  have HRU : Hid (U.ownsRow base 51 5 (.slice z1 n c) n xs) := row_kept hrow (fun b hb' => hbU.block b (hrow.lt b hb').2)
  have HO6 : Hid ((U.drew.alloc (.cells #[.int .i64 op, .int .i64 xx, .int .i64 yy, .int .i64 aa, .slice r1 r2 r3] 51)).ownsRow base 51 5 (.slice z1 n c) n xs) := (HRU.out.drew).alloc _
  have HBU := hid hbU
  have HMU := hid hmU
  have HROW := hid hrow
  obtain ⟨p, hp⟩ : ∃ p, p = w.heap.size := ⟨_, rfl⟩
  clear hbU hQ hmU hm hrow
  go_enter Try.func42, Try.ntmps42
  go_upto_region 1 with fail
  rw [← hU, ← hp]
  rw [← hp] at d0 d1 d2 d3 d4
  have HPE := hid hp
  have hpU : p < U.heap.size := by omega
  clear hU hp
  refine wp_region_lex 6 10 (fun W => W.cell? ⟨m, 0, none⟩ = some (.slice z1 n c) ∧ W.cell? ⟨p, 0, none⟩ = some (.int .i64 op) ∧ W.cell? ⟨p, 1, none⟩ = some (.int .i64 xx) ∧ W.cell? ⟨p, 2, none⟩ = some (.int .i64 yy) ∧ W.cell? ⟨p, 3, none⟩ = some (.int .i64 aa) ∧ W.cell? ⟨p, 4, none⟩ = some (.slice r1 r2 r3)) (by kernel_rfl) (by kernel_rfl) (by decide) (by kernel_rfl) (by kernel_rfl) ⟨by simpa using p0, by simpa using d0, by simpa using d1, by simpa using d2, by simpa using d3, by simpa using d4⟩ ?_
  simp only [List.take_succ_cons, List.take_zero, List.drop_succ_cons, List.drop_zero]
  iterate 6
    refine lex_cons ?_ rfl (fun W hW => ?_) (fun _ _ _ h => h) ?_
    rotate_left
    · obtain ⟨s0, s1, s2, s3, s4, s5⟩ := hW
      go_simp <;> with_reducible rfl
    simp only [Act.put, List.setIfInBounds_toArray, List.set_cons_zero, List.set_cons_succ]
  refine lex_nil (tail_cons fun K hK => ?_)
  go_simp
  refine hK.out _ _ (fun _ => ⟨by simp [p0, hmlU, World.cell?_alloc_lt], by simp [d0, hpU, World.cell?_alloc_lt], by simp [d1, hpU, World.cell?_alloc_lt], by simp [d2, hpU, World.cell?_alloc_lt], by simp [d3, hpU, World.cell?_alloc_lt], by simp [d4, hpU, World.cell?_alloc_lt]⟩) (tail_cons fun K hK => ?_)
  refine step_append_row rfl (.tmp 8) (.tmp 10) 22 rfl base 51 i2 Z5 5 56 Try.underlying22 hi2 hz20 hz21 hz22 rfl (by decide) (.slice z1 n c) n xs (by simp [Act.eval, Act.put]) (by exact HO6.out) U.heap.size 1 1 #[.int .i64 op, .int .i64 xx, .int .i64 yy, .int .i64 aa, .slice r1 r2 r3] 51 (by simp [Act.eval, Act.put]) (by exact heap_alloc_new U.drew _) rfl (by decide) (by simp [Value.oneCell']) (by unfold maxLen; omega) (by omega) (by (try simp) <;> omega) ?_
  intro v3 w3 ho3 hf3
  obtain ⟨y1, y3, rfl, _⟩ := row_shape ho3.out
  have hz3 : U.heap.size + 1 ≤ w3.heap.size := (by have := hf3.out.size; simpa using this)
  have hpz : (Value.slice z1 n c).ownBlock ≠ some p := fun e => by have := (HROW.out.lt p e).2; have := HPE.out; omega
  have e1 : w3.heap[m]? = U.heap[m]? := (hf3.out.block m (by (try simp) <;> omega) hmz).trans (heap_alloc_old _ _ (by (try simp) <;> omega))
  have e2 : w3.heap[p]? = U.heap[p]? := (hf3.out.block p (by (try simp) <;> omega) hpz).trans (heap_alloc_old _ _ (by (try simp) <;> omega))
  have q0 := (cell_eq e1 0).trans p0
  have q1 := (frz_eq e1 0).trans (Joins.unfrozen_of_block HMU.out 0)
  have E1 := hid e1
  have t0 := (cell_eq e2 0).trans d0
  have t1 := (cell_eq e2 1).trans d1
  have t2 := (cell_eq e2 2).trans d2
  have t3 := (cell_eq e2 3).trans d3
  have t4 := (cell_eq e2 4).trans d4
  clear e1 e2
  refine hK.out _ _ (fun _ => ⟨q0, t0, t1, t2, t3, t4⟩) (tail_cons fun K hK => ?_)
  simp only [Act.put, List.setIfInBounds_toArray, List.set_cons_zero, List.set_cons_succ]
  go_simp
  refine hK.out _ _ (fun _ => ⟨q0, t0, t1, t2, t3, t4⟩) (tail_cons fun K hK => ?_)
  simp only [Act.put, List.setIfInBounds_toArray, List.set_cons_zero, List.set_cons_succ]
  go_simp
  refine hK.out _ _ (fun _ => ⟨q0, t0, t1, t2, t3, t4⟩) (tail_cons fun K hK => ?_)
  simp only [Act.put, List.setIfInBounds_toArray, List.set_cons_zero, List.set_cons_succ]
  go_simp
  refine hK.out _ _ (fun h => absurd rfl h) (tail_nil ?_)
  go_wp2_with fail
  go_end0
  have hy1 : ∀ b, (Value.slice y1 (n + 1) y3).ownBlock = some b → (Value.slice z1 n c).ownBlock = some b ∨ U.heap.size ≤ b := fun b hb => (hf3.out.own b hb).imp id (fun h => by (try simp at h) <;> omega)
  have hmy : (Value.slice y1 (n + 1) y3).ownBlock ≠ some m := fun e => by
    rcases hy1 m e with h | h
    · exact hmz h
    · omega
  refine ⟨rfl, y1, y3, ?_, own_setCell ho3.out hmy, fun b hb => (hy1 b hb).imp id (fun h => by omega), ⟨?_, ?_, ?_, ?_, fun b hb hn' => ?_⟩⟩
  · exact Joins.block_setCell (i := 0) (E1.out.trans HMU.out) _
  · exact hf3.out.os.trans HBU.out.os
  · exact hf3.out.tape.trans HBU.out.tape
  · exact hf3.out.output.trans HBU.out.output
  · simp [World.setCell]; omega
  · exact (Below.heap_setCell _ _ _ _ (fun e => hn' (.inl e))).trans ((hf3.out.block b (by (try simp) <;> omega) (fun h => hn' (.inr h))).trans ((heap_alloc_old _ _ (by (try simp) <;> omega)).trans (HBU.out.block b hb)))
/-- the three cells of the i-th program of a row -/
def P3 (w : World) (b o i : Nat) (a : Option Addr) (n c : Nat) (s k : Int) : Prop := w.cell? ⟨b, o + i * 3, none⟩ = some (.slice a n c) ∧ w.cell? ⟨b, o + i * 3 + 1, none⟩ = some (.int .i64 s) ∧ w.cell? ⟨b, o + i * 3 + 2, none⟩ = some (.int .i64 k)
theorem P3.kept {w w' : World} {b o i : Nat} {a : Option Addr} {n c : Nat} {s k : Int} (h : P3 w b o i a n c s k) (hk : w'.heap[b]? = w.heap[b]?) : P3 w' b o i a n c s k :=
  ⟨(cell_eq hk _).trans h.1, (cell_eq hk _).trans h.2.1, (cell_eq hk _).trans h.2.2⟩
/-- a row of programs in memory -/
structure LP (w : World) (B : Nat) (ad : Option Addr) (n : Nat) (L : List Pg) : Prop where
  len : n = L.length
  mem : 0 < n → ∃ (b o : Nat) (PA : Nat → Option Addr) (PN PC : Nat → Nat), ad = some ⟨b, o, none⟩ ∧ b < B ∧ ∀ i, i < n → P3 w b o i (PA i) (PN i) (PC i) (L.getD i default).s (L.getD i default).k ∧ PI w B (PA i) (PN i) (L.getD i default).l ∧ PN i * 56 ≤ 140737488351232
theorem LP.kept {w w' : World} {B B' : Nat} {ad : Option Addr} {n : Nat} {L : List Pg} (h : LP w B ad n L) (hb : Below B w w') (hB : B ≤ B') : LP w' B' ad n L := by
  refine ⟨h.len, fun hp => ?_⟩
  obtain ⟨b, o, PA, PN, PC, e, h1, h2⟩ := h.mem hp
  exact ⟨b, o, PA, PN, PC, e, by omega, fun i hi => ⟨(h2 i hi).1.kept (hb.block b h1), (h2 i hi).2.1.kept hb hB, (h2 i hi).2.2⟩⟩
/-- a row of instructions, each with ranges of its own -/
structure GR (w : World) (base : Nat) (z : Value) (MS : List Iv) (l : List In) : Prop where
  lms : MS.length = l.length
  row : w.ownsRow base 51 5 z l.length (MS.flatMap Iv.cs)
  lo : ∀ j (hj : j < l.length), IO w base z (MS.getD j default) l[j]
  pw : ∀ j j' b, j < l.length → j' < l.length → j ≠ j' → (MS.getD j default).rv.ownBlock = some b → (MS.getD j' default).rv.ownBlock ≠ some b
theorem GR.low {w : World} {base : Nat} {z : Value} {MS : List Iv} {l : List In} (h : GR w base z MS l) (j b : Nat) (hj : j < l.length) (hb : (MS.getD j default).rv.ownBlock = some b) : base ≤ b ∧ b < w.heap.size := (h.lo j hj).rr.lt b hb
theorem GR.kept {w w' : World} {base : Nat} {z : Value} {MS : List Iv} {l : List In} (h : GR w base z MS l) (hk : ∀ b, base ≤ b → b < w.heap.size → (z.ownBlock = some b ∨ ∃ j, j < l.length ∧ (MS.getD j default).rv.ownBlock = some b) → w'.heap[b]? = w.heap[b]?) : GR w' base z MS l :=
  ⟨h.lms, row_kept h.row (fun b hb => hk b (h.row.lt b hb).1 (h.row.lt b hb).2 (.inl hb)), fun j hj => by
    have hO := h.lo j hj
    exact ⟨hO.op, hO.x, hO.y, hO.a, hO.len, hO.sm, row_kept hO.rr (fun b hb => hk b (hO.rr.lt b hb).1 (hO.rr.lt b hb).2 (.inr ⟨j, hj, hb⟩)), hO.ne⟩, h.pw⟩
theorem GR.below {w w' : World} {base : Nat} {z : Value} {MS : List Iv} {l : List In} (h : GR w base z MS l) (hb : Below w.heap.size w w') : GR w' base z MS l := h.kept (fun b _ hl _ => hb.block b hl)
theorem GR.nil (w : World) (base : Nat) (z : Value) (h : w.ownsRow base 51 5 z 0 []) : GR w base z [] [] := ⟨rfl, h, fun j hj => by simp at hj, fun j j' b hj => by simp at hj⟩
theorem GR.push {w V w7 : World} {base m : Nat} {z v7 : Value} {MS : List Iv} {l : List In} {M : Iv} {I : In} (h : GR w base z MS l) (hb : base ≤ w.heap.size) (hs : w.heap.size ≤ V.heap.size) (hk : ∀ b, b < w.heap.size → b ≠ m → V.heap[b]? = w.heap[b]?) (hm : ∀ b (R : List Value) n, V.ownsRow 0 49 2 b n R → b.ownBlock ≠ some m)
    (hop : M.op = I.op) (hx : M.x = I.x) (hy : M.y = I.y) (ha : M.a = I.a) (hlen : M.r2 = I.R.length) (hsm : M.r2 * 16 ≤ 140737488351232) (hr : V.ownsRow w.heap.size 49 2 M.rv I.R.length (O2 I.R))
    (hzm : z.ownBlock ≠ some m) (hmw : ∀ b (R : List Value) n, w.ownsRow 0 49 2 b n R → b.ownBlock ≠ some m)
    (hkeep : ∀ b, b < V.heap.size → z.ownBlock ≠ some b → b ≠ m → w7.heap[b]? = V.heap[b]?) (hown : ∀ b, v7.ownBlock = some b → z.ownBlock = some b ∨ V.heap.size ≤ b) (ho : w7.ownsRow base 51 5 v7 (l.length + 1) (MS.flatMap Iv.cs ++ Iv.cs M)) : GR w7 base v7 (MS ++ [M]) (l ++ [I]) := by
  have hz : ∀ b, z.ownBlock = some b → b < w.heap.size := fun b hb' => (h.row.lt b hb').2
  have hMb : ∀ b, M.rv.ownBlock = some b → w.heap.size ≤ b ∧ b < V.heap.size := fun b hb' => hr.lt b hb'
  have hne : ∀ j (hj : j < l.length) b, (MS.getD j default).rv.ownBlock = some b → b ≠ m := fun j hj b hb' e => by
    subst e
    exact hmw _ _ _ ((h.lo j hj).rr.mono (Nat.zero_le _)) hb'
  have hMm : ∀ b, M.rv.ownBlock = some b → b ≠ m := fun b hb' e => by
    subst e
    exact hm _ _ _ (hr.mono (Nat.zero_le _)) hb'
  refine ⟨by simp [h.lms], ?_, fun j hj => ?_, fun j j' b hj hj' hjj h1 h2 => ?_⟩
  · rw [List.flatMap_append, List.length_append]
    simpa using ho
  · simp only [List.length_append, List.length_cons, List.length_nil] at hj
    rw [snoc_getD MS M j l.length h.lms hj]
    by_cases e : j = l.length
    · subst e
      rw [if_pos rfl, List.getElem_append_right (Nat.le_refl _)]
      simp only [Nat.sub_self, List.getElem_cons_zero]
      refine ⟨hop, hx, hy, ha, hlen, hsm, ?_, fun b hb' h' => ?_⟩
      · have := row_kept hr (w' := w7) (fun b hb' => hkeep b (hMb b hb').2 (fun h' => by have := hz b h'; have := (hMb b hb').1; omega) (hMm b hb'))
        exact this.mono hb
      · rcases hown b h' with h1 | h1
        · have := hz b h1; have := (hMb b hb').1; omega
        · have := (hMb b hb').2; omega
    · have hjl : j < l.length := by omega
      rw [if_neg e, List.getElem_append_left hjl]
      have hO := h.lo j hjl
      refine ⟨hO.op, hO.x, hO.y, hO.a, hO.len, hO.sm, row_kept hO.rr (fun b hb' => (hkeep b (by have := (hO.rr.lt b hb').2; omega) (hO.ne b hb') (hne j hjl b hb')).trans (hk b (hO.rr.lt b hb').2 (hne j hjl b hb'))), fun b hb' h' => ?_⟩
      rcases hown b h' with h1 | h1
      · exact hO.ne b hb' h1
      · have := (hO.rr.lt b hb').2; omega
  · simp only [List.length_append, List.length_cons, List.length_nil] at hj hj'
    rw [snoc_getD MS M j l.length h.lms hj] at h1
    rw [snoc_getD MS M j' l.length h.lms hj'] at h2
    by_cases e : j = l.length
    · by_cases e' : j' = l.length
      · omega
      · rw [if_pos e] at h1
        rw [if_neg e'] at h2
        have := (h.low j' b (by omega) h2).2
        have := (hMb b h1).1
        omega
    · rw [if_neg e] at h1
      by_cases e' : j' = l.length
      · rw [if_pos e'] at h2
        have := (h.low j b (by omega) h1).2
        have := (hMb b h2).1
        omega
      · rw [if_neg e'] at h2
        exact h.pw j j' b (by omega) (by omega) hjj h1 h2
/-- such a row can be read -/
theorem GR.pi {w : World} {base n c : Nat} {z1 : Option Addr} {MS : List Iv} {l : List In} (h : GR w base (.slice z1 n c) MS l) : n = l.length ∧ PI w w.heap.size z1 n l := by
  have hn : n = l.length := row_len h.row
  subst hn
  refine ⟨rfl, rfl, fun hp => ?_⟩
  have hrow := h.row
  rcases hrow.2 with ⟨_, h0⟩ | ⟨b, cap, cur, e, _⟩
  · omega
  · simp only [Value.slice.injEq] at e
    have hbl := (hrow.lt b (by rw [e.1]; rfl)).2
    rw [e.1] at hrow
    refine ⟨b, 0, fun j => MS.getD j default, e.1, hbl, fun j hj => ⟨?_, (h.lo j hj).im⟩⟩
    have hjl : j < MS.length := by have := h.lms; omega
    have hg : MS.getD j default = MS[j] := by simp [List.getD_eq_getElem?_getD, List.getElem?_eq_getElem hjl]
    show I5 w b 0 j (MS.getD j default)
    rw [hg]
    have f : ∀ q, q < 5 → w.cell? ⟨b, j * 5 + q, none⟩ = (Iv.cs MS[j])[q]? := fun q hq => by
      rw [hrow.cellAt (j * 5 + q) (by omega), flat5 MS j q hjl hq]
    have f0 := f 0 (by omega)
    rw [Nat.add_zero] at f0
    unfold I5
    rw [Nat.zero_add]
    exact ⟨f0, f 1 (by omega), f 2 (by omega), f 3 (by omega), f 4 (by omega)⟩
end Go.Proofs.Ytnecakampgdhcaa
