/- HELPERS: rows of threads in memory; a thread is put. -/
import Derived.Test.YtodpmmlfdkdemaaPd
namespace Go.Proofs.Ytodpmmlfdkdemaa
open Go.RowKit Go.Lk
set_option linter.unusedVariables false
set_option linter.unusedSimpArgs false
/-- a thread: its instruction, the block of its captures, the captures -/
structure En where
  i : Nat
  b : Nat
  c : List Int
instance : Inhabited En := ⟨⟨0, 0, []⟩⟩
def En.th (e : En) : Th := (e.i, e.c)
def En.cs (K : Nat) (e : En) : List Value := [.int .i64 (e.i : Int), .slice (some ⟨e.b, 0, none⟩) K K]
def cellsE (K : Nat) (E : List En) : List Value := E.flatMap (En.cs K)
theorem cellsE_len (K : Nat) (E : List En) : (cellsE K E).length = E.length * 2 := by
  induction E with
  | nil => rfl
  | cons e E ih => simp only [cellsE, List.flatMap_cons, List.length_append, List.length_cons] at ih ⊢; rw [ih]; simp [En.cs]; omega
theorem cellsE_get (K : Nat) : ∀ (E : List En) (k : Nat) (hk : k < E.length) (o : Nat), o < 2 → (cellsE K E)[k * 2 + o]? = (En.cs K E[k])[o]?
  | e :: E, 0, _, o, ho => by
    simp only [cellsE, List.flatMap_cons]
    rw [List.getElem?_append_left (by simp [En.cs]; omega)]
    simp
  | e :: E, k + 1, hk, o, ho => by
    have := cellsE_get K E k (by simpa using hk) o ho
    simp only [cellsE, List.flatMap_cons] at this ⊢
    rw [List.getElem?_append_right (by simp [En.cs]; omega)]
    rw [show (k + 1) * 2 + o - (En.cs K e).length = k * 2 + o by simp [En.cs]; omega]
    simpa using this
theorem cellsE_set (K : Nat) : ∀ (E : List En) (k : Nat) (hk : k < E.length) (i : Nat) (c : List Int), (cellsE K E).set (k * 2) (.int .i64 (i : Int)) = cellsE K (E.set k ⟨i, E[k].b, c⟩)
  | e :: E, 0, _, i, c => by simp [cellsE, En.cs]
  | e :: E, k + 1, hk, i, c => by
    have := cellsE_set K E k (by simpa using hk) i c
    simp only [cellsE, List.flatMap_cons, List.set_cons_succ, List.getElem_cons_succ] at this ⊢
    rw [← this, List.set_append_right _ _ (by simp [En.cs]; omega)]
    congr 2
    simp [En.cs]; omega
/-- a row of threads, each with captures of its own -/
structure RW (w : World) (N K : Nat) (z : Option Addr) (n c : Nat) (E : List En) : Prop where
  len : n = E.length
  row : w.ownsRow N 110 2 (.slice z n c) n (cellsE K E)
  caps : ∀ e ∈ E, w.ownsRow N 3 1 (.slice (some ⟨e.b, 0, none⟩) K K) K (I64 e.c)
  nd : (E.map En.b).Nodup
def zF (z : Option Addr) (n c : Nat) : List Nat := (Value.slice z n c).ownBlock.toList
def RWF (z : Option Addr) (n c : Nat) (E : List En) : List Nat := zF z n c ++ E.map En.b
theorem RW.kept {w w' : World} {N K n c : Nat} {z : Option Addr} {E : List En} (h : RW w N K z n c E) (hk : ∀ k ∈ RWF z n c E, w'.heap[k]? = w.heap[k]?) : RW w' N K z n c E :=
  ⟨h.len, row_kept h.row (fun b hb => hk b (by simp [RWF, zF, hb])), fun e he => row_kept (h.caps e he) (fun b hb => hk b (by simp [Value.ownBlock] at hb; subst hb; simp only [RWF, List.mem_append, List.mem_map]; exact .inr ⟨e, he, rfl⟩)), h.nd⟩
theorem RW.low {w : World} {N K n c : Nat} {z : Option Addr} {E : List En} (h : RW w N K z n c E) : ∀ k ∈ RWF z n c E, N ≤ k ∧ k < w.heap.size := by
  intro k hk
  simp only [RWF, zF, List.mem_append, Option.mem_toList, List.mem_map] at hk
  rcases hk with hk | ⟨e, he, rfl⟩
  · exact h.row.lt k hk
  · exact (h.caps e he).lt _ rfl
theorem RW.zne {w : World} {N K n c : Nat} {z : Option Addr} {E : List En} (h : RW w N K z n c E) : ∀ k ∈ E.map En.b, k ∉ zF z n c := by
  intro k hk hz
  obtain ⟨e, he, rfl⟩ := List.mem_map.1 hk
  rcases (h.caps e he).2 with ⟨e', _⟩ | ⟨g, cap, cur, e', _, hg, _⟩
  · cases e'
  · simp only [Value.slice.injEq, Option.some.injEq, Addr.mk.injEq] at e'
    obtain ⟨⟨rfl, _⟩, _⟩ := e'
    exact own_ne h.row hg (by decide) (by simpa [zF] using hz)
theorem row_block {w : World} {base e size n b c : Nat} {xs : List Value} (h : w.ownsRow base e size (.slice (some ⟨b, 0, none⟩) n c) n xs) : ∃ arr, w.heap[b]? = some (.cells arr e (0, 0)) := by
  rcases h.2 with ⟨e', _⟩ | ⟨g, cap, cur, e', _, hg, _⟩
  · cases e'
  · simp only [Value.slice.injEq, Option.some.injEq, Addr.mk.injEq] at e'
    obtain ⟨⟨rfl, _⟩, _⟩ := e'
    exact ⟨_, hg⟩
theorem nd_ne {E : List En} (h : (E.map En.b).Nodup) {x y : Nat} (hx : x < E.length) (hy : y < E.length) (hne : x ≠ y) : E[x].b ≠ E[y].b := by
  have h2 := List.pairwise_iff_getElem.1 h
  rcases Nat.lt_or_gt_of_ne hne with hl | hl
  · have := h2 x y (by simpa using hx) (by simpa using hy) hl
    simpa using this
  · have := h2 y x (by simpa using hy) (by simpa using hx) hl
    simp at this
    exact fun e => this e.symm
/-- what is written for a thread that is put -/
theorem put_done {W : World} {b N K cb cp zb : Nat} {M : Mv} {E : List En} {c : List Int} (i : Nat) (h : MB W b M) (hz : M.z2 = some ⟨zb, 0, none⟩) (hR : RW W N K M.z2 M.n2 M.c2 E) (hk : M.k2 < E.length) (hc : W.ownsRow N 3 1 (.slice (some ⟨cb, 0, none⟩) K cp) K (I64 c)) (hcb : cb ∉ E.map En.b) (hN : N ≤ b) :
    ∃ V2, (Builtin.copy_ #[25, 25] 3 #[.slice (some ⟨E[M.k2].b, 0, none⟩) K K, .slice (some ⟨cb, 0, none⟩) K cp]).run Try.prog (W.setCell ⟨zb, M.k2 * 2, none⟩ (.int .i64 (i : Int))) = .ok (.int .i64 (K : Int)) V2 ∧ MB V2 b M ∧
      MB (V2.setCell ⟨b, 10, none⟩ (.int .i64 ((M.k2 + 1 : Nat) : Int))) b { M with k2 := M.k2 + 1 } ∧ RW (V2.setCell ⟨b, 10, none⟩ (.int .i64 ((M.k2 + 1 : Nat) : Int))) N K M.z2 M.n2 M.c2 (E.set M.k2 ⟨i, E[M.k2].b, c⟩) ∧ Chg W (V2.setCell ⟨b, 10, none⟩ (.int .i64 ((M.k2 + 1 : Nat) : Int))) (b :: RWF M.z2 M.n2 M.c2 E) (b :: RWF M.z2 M.n2 M.c2 E) := by
  have hmem : E[M.k2] ∈ E := List.getElem_mem hk
  have hzb : zb ∈ zF M.z2 M.n2 M.c2 := by rw [hz]; simp [zF, Value.ownBlock]
  have hrz := hR.row
  rw [hz] at hrz
  obtain ⟨zarr, hzarr⟩ := row_block hrz
  have hzE : ∀ k ∈ E.map En.b, k ≠ zb := fun k hk e => hR.zne k hk (e ▸ hzb)
  have hcz : cb ≠ zb := fun e => own_ne hc hzarr (by decide) (by rw [e]; rfl)
  have hcB : cb ≠ b := fun e => own_ne hc h (by decide) (by rw [e]; rfl)
  have hbz : b ≠ zb := fun e => by have := h; unfold MB at this; rw [e, hzarr] at this; simp at this
  have hbE : ∀ k ∈ E.map En.b, k ≠ b := fun k hk e => by
    obtain ⟨x, hx, rfl⟩ := List.mem_map.1 hk
    exact own_ne (hR.caps x hx) h (by decide) (by rw [← e]; rfl)
  have hW1 : ∀ k, k ≠ zb → (W.setCell ⟨zb, M.k2 * 2, none⟩ (.int .i64 (i : Int))).heap[k]? = W.heap[k]? := fun k hk => Below.heap_setCell _ _ _ _ hk
  have hg1 : (W.setCell ⟨zb, M.k2 * 2, none⟩ (.int .i64 (i : Int))).ownsRow N 3 1 (.slice (some ⟨E[M.k2].b, 0, none⟩) K K) K (I64 E[M.k2].c) := own_setCell (hR.caps _ hmem) (by simp [Value.ownBlock]; exact hzE _ (List.mem_map.2 ⟨_, hmem, rfl⟩))
  have hc1 : (W.setCell ⟨zb, M.k2 * 2, none⟩ (.int .i64 (i : Int))).ownsRow N 3 1 (.slice (some ⟨cb, 0, none⟩) K cp) K (I64 c) := own_setCell hc (by simp [Value.ownBlock, hcz])
  obtain ⟨hcp, hr2⟩ := copyK hg1 hc1
  have hz1 := row_setC hrz (M.k2 * 2) (.int .i64 (i : Int))
  rw [cellsE_set K E M.k2 hk i c] at hz1
  generalize hV : W.setCell ⟨zb, M.k2 * 2, none⟩ (.int .i64 (i : Int)) = V1 at *
  have hEb : E[M.k2].b ∈ E.map En.b := List.mem_map.2 ⟨_, hmem, rfl⟩
  have hV2 : ∀ k, k ≠ E[M.k2].b → (V1.setCells E[M.k2].b 0 (I64 c)).heap[k]? = V1.heap[k]? := fun k hk => setCells_other _ _ _ _ _ hk
  refine ⟨_, hcp, ?_, ?_, ?_, ?_⟩
  · exact h.kept ((hV2 b (fun e => hbE _ hEb e.symm)).trans (hW1 b hbz))
  · exact (h.kept ((hV2 b (fun e => hbE _ hEb e.symm)).trans (hW1 b hbz))).upd 10 _ _ rfl
  · refine ⟨by rw [List.length_set]; exact hR.len, ?_, fun e he => ?_, ?_⟩
    · rw [hz]
      refine own_setCell (row_kept hz1 (fun k hk' => hV2 k (fun e => ?_))) (by simp [Value.ownBlock]; exact fun e => hbz e.symm)
      simp [Value.ownBlock] at hk'
      exact hzE _ hEb (by rw [← e, hk'])
    · obtain ⟨x, hx, he'⟩ := List.getElem_of_mem he
      rw [List.length_set] at hx
      rw [List.getElem_set] at he'
      by_cases hxk : M.k2 = x
      · rw [if_pos hxk] at he'
        subst he'
        exact own_setCell hr2 (by simp [Value.ownBlock]; exact hbE _ hEb)
      · rw [if_neg hxk] at he'
        subst he'
        have hm2 : E[x] ∈ E := List.getElem_mem hx
        have hne : E[x].b ≠ E[M.k2].b := nd_ne hR.nd hx hk (fun e => hxk e.symm)
        have hEx : E[x].b ∈ E.map En.b := List.mem_map.2 ⟨_, hm2, rfl⟩
        exact own_setCell (row_kept (hR.caps _ hm2) (fun k hk' => by simp [Value.ownBlock] at hk'; subst hk'; exact (hV2 _ hne).trans (hW1 _ (hzE _ hEx)))) (by simp [Value.ownBlock]; exact hbE _ hEx)
    · have : (E.set M.k2 ⟨i, E[M.k2].b, c⟩).map En.b = E.map En.b := by
        rw [List.map_set]
        apply List.ext_getElem?
        intro x
        rw [List.getElem?_set]
        split
        · rename_i e
          subst e
          simp [hk]
        · rfl
      rw [this]
      exact hR.nd
  · have h1 : Chg W V1 (b :: RWF M.z2 M.n2 M.c2 E) (b :: RWF M.z2 M.n2 M.c2 E) := by rw [← hV]; exact (Chg.refl _ _).set (a := ⟨zb, M.k2 * 2, none⟩) _ (by simp [RWF, hzb])
    have h2 := setCells_chg (w' := V1) E[M.k2].b (by simp only [RWF, List.mem_cons, List.mem_append]; exact .inr (.inr hEb)) (I64 c) 0 V1 h1
    exact h2.set (a := ⟨b, 10, none⟩) _ (by simp)
theorem RW.same {w w' : World} {N K n c : Nat} {z : Option Addr} {E : List En} (h : RW w N K z n c E) (e : w'.heap = w.heap) : RW w' N K z n c E := h.kept (fun k _ => by rw [e])
theorem info90 : (Try.prog.info? 110).map (fun i => (i.zero, i.size, i.bytes)) = some (some (.agg #[.int .i64 0, .slice none 0 0]), 2, 32) := by kernel_rfl
/-- the same memory -/
structure Eqw (w w' : World) : Prop where
  heap : w'.heap = w.heap
  os : w'.os = w.os
  tape : w'.tape = w.tape
  output : w'.output = w.output
theorem Eqw.drewN (w : World) (k : Nat) : Eqw w (w.drewN k) := ⟨rfl, rfl, rfl, rfl⟩
theorem Eqw.drew (w : World) : Eqw w w.drew := ⟨rfl, rfl, rfl, rfl⟩
theorem Eqw.trans {a b c : World} (h : Eqw a b) (k : Eqw b c) : Eqw a c := ⟨k.heap.trans h.heap, k.os.trans h.os, k.tape.trans h.tape, k.output.trans h.output⟩
theorem Eqw.blk {w w' : World} (h : Eqw w w') (k : Nat) : w'.heap[k]? = w.heap[k]? := by rw [h.heap]
theorem Eqw.below {w w' : World} (h : Eqw w w') (B : Nat) : Below B w w' := ⟨h.os, h.tape, h.output, by rw [h.heap]; exact Nat.le_refl _, fun k _ => h.blk k⟩
theorem Eqw.row {w w' : World} (h : Eqw w w') {base e size n : Nat} {v : Value} {xs : List Value} (r : w.ownsRow base e size v n xs) : w'.ownsRow base e size v n xs := row_kept r (fun b _ => h.blk b)
theorem Eqw.chg {w w' v : World} (h : Eqw w w') {F F' : List Nat} (c : Chg w' v F F') : Chg w v F F' := ⟨c.os.trans h.os, c.tape.trans h.tape, c.output.trans h.output, by have := c.size; rw [h.heap] at this; exact this, fun k hk hn => (c.block k (by rw [h.heap]; exact hk) hn).trans (h.blk k), fun k hk => by have := c.new k hk; rw [h.heap] at this; exact this⟩
set_option maxRecDepth 100000 in
set_option maxHeartbeats 4000000 in
theorem put30_old {w : World} {b N K cb cp : Nat} {M : Mv} {E : List En} {c : List Int} (i : Nat) (h : MB w b M) (hR : RW w N K M.z2 M.n2 M.c2 E) (hk : M.k2 < E.length) (hE : E.length ≤ 20000) (hc : w.ownsRow N 3 1 (.slice (some ⟨cb, 0, none⟩) K cp) K (I64 c)) (hcb : cb ∉ E.map En.b) (hN : N ≤ b) :
    Calls Try.prog 32 #[.pointer (some ⟨b, 9, none⟩), .int .i64 (i : Int), .slice (some ⟨cb, 0, none⟩) K cp] w fun e w' => e = .returned (.tuple #[]) ∧ MB w' b { M with k2 := M.k2 + 1 } ∧ RW w' N K M.z2 M.n2 M.c2 (E.set M.k2 ⟨i, E[M.k2].b, c⟩) ∧ Chg w w' (b :: RWF M.z2 M.n2 M.c2 E) (b :: RWF M.z2 M.n2 M.c2 E) := by
  have hln := hR.len
  obtain ⟨zb, hz⟩ : ∃ zb, M.z2 = some ⟨zb, 0, none⟩ := by
    rcases hR.row.2 with ⟨_, e⟩ | ⟨g, cap, cur, e, _⟩
    · omega
    · simp only [Value.slice.injEq] at e; exact ⟨g, e.1⟩
  have HA : Hid (∀ W, Eqw w W → ∃ V2, (Builtin.copy_ #[25, 25] 3 #[.slice (some ⟨E[M.k2].b, 0, none⟩) K K, .slice (some ⟨cb, 0, none⟩) K cp]).run Try.prog (W.setCell ⟨zb, M.k2 * 2, none⟩ (.int .i64 (i : Int))) = .ok (.int .i64 (K : Int)) V2 ∧ (V2.cell? ⟨b, 10, none⟩ = some (.int .i64 (M.k2 : Int)) ∧ V2.frozen? ⟨b, 10, none⟩ = false) ∧
      Hid (MB (V2.setCell ⟨b, 10, none⟩ (.int .i64 ((M.k2 + 1 : Nat) : Int))) b { M with k2 := M.k2 + 1 } ∧ RW (V2.setCell ⟨b, 10, none⟩ (.int .i64 ((M.k2 + 1 : Nat) : Int))) N K M.z2 M.n2 M.c2 (E.set M.k2 ⟨i, E[M.k2].b, c⟩) ∧ Chg w (V2.setCell ⟨b, 10, none⟩ (.int .i64 ((M.k2 + 1 : Nat) : Int))) (b :: RWF M.z2 M.n2 M.c2 E) (b :: RWF M.z2 M.n2 M.c2 E))) := by
    intro W e
    obtain ⟨V2, hcp, hM2, hM3, hR3, hC3⟩ := put_done i (W := W) (h.kept (e.blk b)) hz (hR.same e.heap) hk (e.row hc) hcb hN
    have d10 := hM2.c 10
    simp at d10
    exact ⟨V2, hcp, ⟨d10, hM2.u 10⟩, hM3, hR3, e.chg hC3⟩
  have hrz := hR.row
  rw [hz] at hrz
  have k0 := (hrz.cellAt (M.k2 * 2) (by omega)).trans (by simpa using cellsE_get K E M.k2 hk 0 (by omega))
  have k1 := (hrz.cellAt (M.k2 * 2 + 1) (by omega)).trans (cellsE_get K E M.k2 hk 1 (by omega))
  simp only [En.cs, List.getElem?_cons_zero, List.getElem?_cons_succ] at k0 k1
  have f0 := hrz.frozenAt (M.k2 * 2)
  have HF : Hid (∀ W, Eqw w W → W.cell? ⟨zb, M.k2 * 2, none⟩ = some (.int .i64 (E[M.k2].i : Int)) ∧ W.cell? ⟨zb, M.k2 * 2 + 1, none⟩ = some (.slice (some ⟨E[M.k2].b, 0, none⟩) K K) ∧ W.frozen? ⟨zb, M.k2 * 2, none⟩ = false ∧ W.cell? ⟨b, 9, none⟩ = some (.slice (some ⟨zb, 0, none⟩) M.n2 M.c2) ∧ W.cell? ⟨b, 10, none⟩ = some (.int .i64 (M.k2 : Int))) := by
    intro W e
    have c9 := (h.kept (e.blk b)).c 9
    have c10 := (h.kept (e.blk b)).c 10
    simp at c9 c10
    rw [hz] at c9
    exact ⟨(cell_eq (e.blk zb) _).trans k0, (cell_eq (e.blk zb) _).trans k1, (frz_eq (e.blk zb) _).trans f0, c9, c10⟩
  obtain ⟨_, _, _, c9, c10⟩ := HF.out w ⟨rfl, rfl, rfl, rfl⟩
  have b1 : ((M.k2 : Int) == (M.n2 : Int)) = false := by simp; omega
  have b2 : (M.k2 : Int) < (M.n2 : Int) := by omega
  have a1 : IntKind.i64.wrap ((M.k2 : Int) + 1) = ((M.k2 + 1 : Nat) : Int) := by rw [wrap_ok _ (by omega) (by omega)]; omega
  have a2 : IntKind.i64.wrap ((M.k2 : Int) + 1) = (M.k2 : Int) + 1 := by rw [wrap_ok _ (by omega) (by omega)]
  clear h hR hc hcb hrz hln hE k0 k1 f0
  obtain ⟨ad, n, c', S, K', tad, tn, tc, j, sb, bits, z1, n1, c1, k1', z2, n2, c2, k2, ub, uc, fok, f1, f2, f3, fw, fs⟩ := M
  dsimp only at *
  subst hz
  generalize hg : E[k2].b = gb at *
  generalize hgi : E[k2].i = gi at *
  clear hg hgi
  go_enter Try.func32, Try.ntmps32
  go_upto_region 0 with fail
  go_quiet (fail)
  obtain ⟨W0, hW0⟩ : ∃ W0, W0 = w.drewN nq := ⟨_, rfl⟩
  rw [← hW0]
  have e0 : Hid (Eqw w W0) := by rw [hW0]; exact Eqw.drewN w nq
  clear hW0 c9 c10
  obtain ⟨_, _, _, c9, c10⟩ := HF.out W0 e0.out
  go_upto_region 2 with fail
  go_quiet (fail)
  obtain ⟨W, hW⟩ : ∃ W, W = W0.drewN nq := ⟨_, rfl⟩
  rw [← hW]
  have e1 : Hid (Eqw w W) := by rw [hW]; exact e0.out.trans (Eqw.drewN W0 nq)
  clear hW c9 c10
  obtain ⟨k0, k1, f0, c9, c10⟩ := HF.out W e1.out
  obtain ⟨V2, hcp, ⟨d10, u10⟩, HZ⟩ := HA.out W e1.out
  clear HA HF
  go_wp2
  go_end0
  exact ⟨rfl, HZ.out.1, HZ.out.2.1, HZ.out.2.2⟩
end Go.Proofs.Ytodpmmlfdkdemaa
