/- HELPERS: a thread is put where there is no room yet. -/
import Derived.Test.YtodpmmlfdkdemaaPe
namespace Go.Proofs.Ytodpmmlfdkdemaa
open Go.RowKit Go.Lk
set_option linter.unusedVariables false
set_option linter.unusedSimpArgs false
theorem Eqw.alloc {w w' : World} (h : Eqw w w') (o : Obj) : Eqw (w.alloc o) (w'.alloc o) := ⟨by show w'.heap.push o = w.heap.push o; rw [h.heap], h.os, h.tape, h.output⟩
theorem RWF_set (z : Option Addr) (n c : Nat) (E : List En) (k i : Nat) (hk : k < E.length) (c' : List Int) : RWF z n c (E.set k ⟨i, E[k].b, c'⟩) = RWF z n c E := by
  unfold RWF
  rw [List.map_set]
  congr 1
  apply List.ext_getElem?
  intro x
  rw [List.getElem?_set]
  split
  · rename_i e
    subst e
    simp [hk]
  · rfl
theorem cellsE_snoc (K : Nat) (E : List En) (e : En) : cellsE K (E ++ [e]) = cellsE K E ++ En.cs K e := by simp [cellsE]
theorem put_rest {w : World} {b N K cb cp : Nat} {M : Mv} {E : List En} {c : List Int} (i : Nat) (h : MB w b M) (hR : RW w N K M.z2 M.n2 M.c2 E) (hk : M.k2 < E.length) (hc : w.ownsRow N 3 1 (.slice (some ⟨cb, 0, none⟩) K cp) K (I64 c)) (hcb : cb ∉ E.map En.b) (hN : N ≤ b) :
    ∃ zb gi gb, M.z2 = some ⟨zb, 0, none⟩ ∧ (∀ W, Eqw w W → ∃ V2, (Builtin.copy_ #[25, 25] 3 #[.slice (some ⟨gb, 0, none⟩) K K, .slice (some ⟨cb, 0, none⟩) K cp]).run Try.prog (W.setCell ⟨zb, M.k2 * 2, none⟩ (.int .i64 (i : Int))) = .ok (.int .i64 (K : Int)) V2 ∧ (V2.cell? ⟨b, 10, none⟩ = some (.int .i64 (M.k2 : Int)) ∧ V2.frozen? ⟨b, 10, none⟩ = false) ∧
      Hid (MB (V2.setCell ⟨b, 10, none⟩ (.int .i64 ((M.k2 + 1 : Nat) : Int))) b { M with k2 := M.k2 + 1 } ∧ RW (V2.setCell ⟨b, 10, none⟩ (.int .i64 ((M.k2 + 1 : Nat) : Int))) N K M.z2 M.n2 M.c2 (E.set M.k2 ⟨i, E[M.k2].b, c⟩) ∧ Chg w (V2.setCell ⟨b, 10, none⟩ (.int .i64 ((M.k2 + 1 : Nat) : Int))) (b :: RWF M.z2 M.n2 M.c2 E) (b :: RWF M.z2 M.n2 M.c2 E))) ∧
    (∀ W, Eqw w W → W.cell? ⟨zb, M.k2 * 2, none⟩ = some (.int .i64 (gi : Int)) ∧ W.cell? ⟨zb, M.k2 * 2 + 1, none⟩ = some (.slice (some ⟨gb, 0, none⟩) K K) ∧ W.frozen? ⟨zb, M.k2 * 2, none⟩ = false ∧ W.cell? ⟨b, 9, none⟩ = some (.slice (some ⟨zb, 0, none⟩) M.n2 M.c2) ∧ W.cell? ⟨b, 10, none⟩ = some (.int .i64 (M.k2 : Int))) := by
  have hln := hR.len
  obtain ⟨zb, hz⟩ : ∃ zb, M.z2 = some ⟨zb, 0, none⟩ := by
    rcases hR.row.2 with ⟨_, e⟩ | ⟨g, cap, cur, e, _⟩
    · omega
    · simp only [Value.slice.injEq] at e; exact ⟨g, e.1⟩
  have hrz := hR.row
  rw [hz] at hrz
  have k0 := (hrz.cellAt (M.k2 * 2) (by omega)).trans (by simpa using cellsE_get K E M.k2 hk 0 (by omega))
  have k1 := (hrz.cellAt (M.k2 * 2 + 1) (by omega)).trans (cellsE_get K E M.k2 hk 1 (by omega))
  simp only [En.cs, List.getElem?_cons_zero, List.getElem?_cons_succ] at k0 k1
  have f0 := hrz.frozenAt (M.k2 * 2)
  refine ⟨zb, E[M.k2].i, E[M.k2].b, hz, fun W e => ?_, fun W e => ?_⟩
  · obtain ⟨V2, hcp, hM2, hM3, hR3, hC3⟩ := put_done i (W := W) (h.kept (e.blk b)) hz (hR.same e.heap) hk (e.row hc) hcb hN
    have d10 := hM2.c 10
    simp at d10
    exact ⟨V2, hcp, ⟨d10, hM2.u 10⟩, hM3, hR3, e.chg hC3⟩
  · have c9 := (h.kept (e.blk b)).c 9
    have c10 := (h.kept (e.blk b)).c 10
    simp at c9 c10
    rw [hz] at c9
    exact ⟨(cell_eq (e.blk zb) _).trans k0, (cell_eq (e.blk zb) _).trans k1, (frz_eq (e.blk zb) _).trans f0, c9, c10⟩
/-- what stands behind the append -/
theorem put_made {w w3 : World} {b N K cb cp : Nat} {M : Mv} {E : List En} {c : List Int} {y1 : Option Addr} {y3 : Nat} (h : MB w b M) (hR : RW w N K M.z2 M.n2 M.c2 E) (hc : w.ownsRow N 3 1 (.slice (some ⟨cb, 0, none⟩) K cp) K (I64 c)) (hcb : cb ∉ E.map En.b) (hNw : N ≤ w.heap.size) (hK : K ≤ 10000)
    {A2 : World} (hA : A2 = (w.alloc (.cells (madeCells #[.int .i64 0] K) 3)).alloc (.cells #[.int .i64 0, .slice (some ⟨w.heap.size, 0, none⟩) K K] 110)) {A3 : World} (hA3 : Eqw A2 A3)
    (ho : w3.ownsRow N 110 2 (.slice y1 (M.n2 + 1) y3) (M.n2 + 1) (cellsE K E ++ [.int .i64 0, .slice (some ⟨w.heap.size, 0, none⟩) K K])) (hf : Frm A3 w3 (.slice M.z2 M.n2 M.c2) (.slice y1 (M.n2 + 1) y3)) :
    MB (w3.setCell ⟨b, 9, none⟩ (.slice y1 (M.n2 + 1) y3)) b { M with z2 := y1, n2 := M.n2 + 1, c2 := y3 } ∧ RW (w3.setCell ⟨b, 9, none⟩ (.slice y1 (M.n2 + 1) y3)) N K y1 (M.n2 + 1) y3 (E ++ [(⟨0, w.heap.size, List.replicate K 0⟩ : En)]) ∧
    (w3.setCell ⟨b, 9, none⟩ (.slice y1 (M.n2 + 1) y3)).ownsRow N 3 1 (.slice (some ⟨cb, 0, none⟩) K cp) K (I64 c) ∧ cb ∉ (E ++ [(⟨0, w.heap.size, List.replicate K 0⟩ : En)]).map En.b ∧
    Chg w (w3.setCell ⟨b, 9, none⟩ (.slice y1 (M.n2 + 1) y3)) (b :: RWF M.z2 M.n2 M.c2 E) (b :: RWF y1 (M.n2 + 1) y3 (E ++ [(⟨0, w.heap.size, List.replicate K 0⟩ : En)])) := by
  have hbl := h.lt
  have hbz : (Value.slice M.z2 M.n2 M.c2).ownBlock ≠ some b := own_ne hR.row h (by decide)
  have hsz : A2.heap.size = w.heap.size + 2 := by rw [hA]; simp
  have hsz3 : A3.heap.size = w.heap.size + 2 := by rw [hA3.heap]; exact hsz
  have hold : ∀ k, k < w.heap.size → A2.heap[k]? = w.heap[k]? := fun k hk => by rw [hA]; exact (heap_alloc_old _ _ (by simp; omega)).trans (heap_alloc_old _ _ hk)
  have hkk : ∀ k, k < w.heap.size → (Value.slice M.z2 M.n2 M.c2).ownBlock ≠ some k → w3.heap[k]? = w.heap[k]? := fun k hk hn => (hf.block k (by omega) hn).trans ((hA3.blk k).trans (hold k hk))
  have hgA : A2.ownsRow N 3 1 (.slice (some ⟨w.heap.size, 0, none⟩) K K) K (I64 (List.replicate K 0)) := by rw [hA]; exact (made_row K N w hNw hK).alloc _
  have hzg : (Value.slice M.z2 M.n2 M.c2).ownBlock ≠ some w.heap.size := fun e => by have := (hR.row.lt _ e).2; omega
  have hg3 : w3.ownsRow N 3 1 (.slice (some ⟨w.heap.size, 0, none⟩) K K) K (I64 (List.replicate K 0)) := row_kept hgA (fun k hk => by
    simp [Value.ownBlock] at hk; subst hk
    exact (hf.block _ (by omega) hzg).trans (hA3.blk _))
  have hyb : (Value.slice y1 (M.n2 + 1) y3).ownBlock ≠ some b := fun e => by
    rcases hf.own b e with h' | h'
    · exact hbz h'
    · omega
  have hcz : (Value.slice M.z2 M.n2 M.c2).ownBlock ≠ some cb := fun e => by
    obtain ⟨arr, ha⟩ := row_block hc
    exact own_ne hR.row ha (by decide) e
  have hcb2 := (hc.lt cb rfl).2
  have hcB : cb ≠ b := fun e => own_ne hc h (by decide) (by rw [e]; rfl)
  refine ⟨(h.kept (hkk b hbl hbz)).upd 9 _ _ rfl, ⟨by rw [List.length_append, ← hR.len]; rfl, ?_, fun e he => ?_, ?_⟩, own_setCell (row_kept hc (fun k hk => by simp [Value.ownBlock] at hk; subst hk; exact hkk _ hcb2 hcz)) (by simp [Value.ownBlock, hcB]), ?_, ?_⟩
  · rw [cellsE_snoc]
    exact own_setCell ho hyb
  · rcases List.mem_append.1 he with he | he
    · have hlt := ((hR.caps e he).lt e.b rfl).2
      have hne : (Value.slice M.z2 M.n2 M.c2).ownBlock ≠ some e.b := fun e' => hR.zne e.b (List.mem_map.2 ⟨e, he, rfl⟩) (by simp [zF, e'])
      exact own_setCell (row_kept (hR.caps e he) (fun k hk => by simp [Value.ownBlock] at hk; subst hk; exact hkk _ hlt hne)) (by simp [Value.ownBlock]; exact fun e' => own_ne (hR.caps e he) h (by decide) (by rw [← e']; rfl))
    · simp at he
      subst he
      exact own_setCell hg3 (by simp [Value.ownBlock]; omega)
  · rw [List.map_append, List.nodup_append]
    refine ⟨hR.nd, by simp, fun x hx y hy => ?_⟩
    simp at hy
    subst hy
    obtain ⟨e, he, rfl⟩ := List.mem_map.1 hx
    have := ((hR.caps e he).lt e.b rfl).2
    show e.b ≠ w.heap.size
    omega
  · rw [List.map_append, List.mem_append]
    rintro (h' | h')
    · exact hcb h'
    · simp at h'; omega
  · refine ⟨hf.os.trans (hA3.os.trans (by rw [hA]; rfl)), hf.tape.trans (hA3.tape.trans (by rw [hA]; rfl)), hf.output.trans (hA3.output.trans (by rw [hA]; rfl)), by have := hf.size; simp [World.setCell]; omega, fun k hk hn => ?_, fun k hk => ?_⟩
    · simp only [List.mem_cons, not_or, RWF, List.mem_append] at hn
      exact (Below.heap_setCell _ _ _ _ hn.1).trans (hkk k hk (fun e => hn.2.1 (by simp [zF, e])))
    · simp only [List.mem_cons, RWF, List.mem_append, zF, Option.mem_toList, List.map_append] at hk ⊢
      rcases hk with rfl | hk | hk | hk
      · exact .inl (.inl rfl)
      · rcases hf.own k hk with h' | h'
        · exact .inl (.inr (.inl h'))
        · exact .inr (by omega)
      · exact .inl (.inr (.inr hk))
      · simp at hk
        exact .inr (by omega)
set_option maxRecDepth 100000 in
set_option maxHeartbeats 4000000 in
theorem put30_new {w : World} {b N K cb cp : Nat} {M : Mv} {E : List En} {c : List Int} (i : Nat) (h : MB w b M) (hR : RW w N K M.z2 M.n2 M.c2 E) (hk : M.k2 = E.length) (hE : E.length ≤ 20000) (hK : K ≤ 10000) (hc : w.ownsRow N 3 1 (.slice (some ⟨cb, 0, none⟩) K cp) K (I64 c)) (hcb : cb ∉ E.map En.b) (hN : N ≤ b) (hNw : N ≤ w.heap.size) :
    Calls Try.prog 32 #[.pointer (some ⟨b, 9, none⟩), .int .i64 (i : Int), .slice (some ⟨cb, 0, none⟩) K cp] w fun e w' => e = .returned (.tuple #[]) ∧ ∃ y1 y3 E', E'.length = E.length + 1 ∧ E'.take (M.k2 + 1) = E ++ [⟨i, w.heap.size, c⟩] ∧ MB w' b { M with z2 := y1, n2 := M.n2 + 1, c2 := y3, k2 := M.k2 + 1 } ∧ RW w' N K y1 (M.n2 + 1) y3 E' ∧ Chg w w' (b :: RWF M.z2 M.n2 M.c2 E) (b :: RWF y1 (M.n2 + 1) y3 E') := by
  have hln := hR.len
  obtain ⟨i2, hi2, hz20, hz21, hz22⟩ := info_parts info90
  have hkn : M.k2 = M.n2 := by omega
  have HF : Hid (∀ W, Eqw w W → W.cell? ⟨b, 9, none⟩ = some (.slice M.z2 M.n2 M.c2) ∧ W.cell? ⟨b, 10, none⟩ = some (.int .i64 (M.k2 : Int))) := by
    intro W e
    have c9 := (h.kept (e.blk b)).c 9
    have c10 := (h.kept (e.blk b)).c 10
    simp at c9 c10
    exact ⟨c9, c10⟩
  obtain ⟨c9, c10⟩ := HF.out w ⟨rfl, rfl, rfl, rfl⟩
  have b1 : ((M.k2 : Int) == (M.n2 : Int)) = true := by simp; omega
  have b2 : (M.k2 : Int) < ((M.n2 + 1 : Nat) : Int) := by omega
  have b3 : (M.k2 : Int) < (M.n2 : Int) + 1 := by omega
  have a1 : IntKind.i64.wrap ((M.k2 : Int) + 1) = ((M.k2 + 1 : Nat) : Int) := by rw [wrap_ok _ (by omega) (by omega)]; omega
  have HM := hid h
  have HR := hid hR
  have HC := hid hc
  have HKN := hid hkn
  have HKE := hid hk
  have hbl := h.lt
  have hsm : M.n2 ≤ 20000 := by omega
  clear h hR hc hln hE hkn hk
  obtain ⟨ad, n, c', S, K', tad, tn, tc, j, sb, bits, z1, n1, c1, k1', z2, n2, c2, k2, ub, uc, fok, f1, f2, f3, fw, fs⟩ := M
  dsimp only at *
  go_enter Try.func32, Try.ntmps32
  go_upto_region 0 with fail
  go_quiet (fail)
  obtain ⟨W0, hW0⟩ : ∃ W0, W0 = w.drewN nq := ⟨_, rfl⟩
  rw [← hW0]
  have e0 : Hid (Eqw w W0) := by rw [hW0]; exact Eqw.drewN w nq
  clear hW0 c9 c10
  obtain ⟨c9, c10⟩ := HF.out W0 e0.out
  go_upto_region 1 with fail
  have hsz0 : W0.heap.size = w.heap.size := by rw [e0.out.heap]
  have hmk := makeK K hK W0.drew
  refine wp_region_lex 7 13 (fun W => W.cell? ⟨b, 9, none⟩ = some (.slice z2 n2 c2)) (by kernel_rfl) (by kernel_rfl) (by decide) (by kernel_rfl) (by kernel_rfl) (by simpa using c9) ?_
  simp only [List.take_succ_cons, List.take_zero, List.drop_succ_cons, List.drop_zero]
  iterate 7
    refine lex_cons ?_ rfl (fun W hW => ?_) (fun _ _ _ h => h) ?_
    rotate_left
    · have s0 := hW
      go_simp <;> with_reducible rfl
    simp only [Act.put, List.setIfInBounds_toArray, List.set_cons_zero, List.set_cons_succ]
  have hz9 : (W0.drew.alloc (.cells (madeCells #[.int .i64 0] K) 3)).cell? ⟨b, 9, none⟩ = some (.slice z2 n2 c2) := by
    rw [World.cell?_alloc_lt _ _ _ (show b < W0.drew.heap.size by show b < W0.heap.size; omega)]; exact c9
  obtain ⟨A1, hA1⟩ : ∃ A1, A1 = W0.drew.alloc (.cells (madeCells #[.int .i64 0] K) 3) := ⟨_, rfl⟩
  rw [← hA1] at hmk hz9
  have hsA : A1.heap.size = w.heap.size + 1 := by rw [hA1]; simp; exact hsz0
  obtain ⟨gb, hgb⟩ : ∃ gb, gb = W0.drew.heap.size := ⟨_, rfl⟩
  rw [← hgb] at hmk
  have HGB : Hid (gb = w.heap.size) := by show gb = _; rw [hgb]; exact hsz0
  have HA1 := hid hA1
  clear hgb hA1
  refine lex_nil (tail_cons fun KK hKK => ?_)
  go_simp
  refine hKK.out _ _ (fun _ => hz9) (tail_cons fun KK hKK => ?_)
  go_simp
  refine hKK.out _ _ (fun _ => hz9) (tail_cons fun KK hKK => ?_)
  go_simp
  have hz10 : (A1.alloc (.cells #[.int .i64 0, .slice (some ⟨gb, 0, none⟩) K K] 110)).cell? ⟨b, 9, none⟩ = some (.slice z2 n2 c2) := by
    rw [World.cell?_alloc_lt _ _ _ (show b < A1.heap.size by omega)]; exact hz9
  refine hKK.out _ _ (fun _ => hz10) (tail_cons fun KK hKK => ?_)
  have HO : Hid ((A1.alloc (.cells #[.int .i64 0, .slice (some ⟨gb, 0, none⟩) K K] 110)).ownsRow N 110 2 (.slice z2 n2 c2) n2 (cellsE K E)) := by
    have := (e0.out.row HR.out.row)
    rw [HA1.out]
    exact ((show W0.drew.ownsRow N 110 2 (.slice z2 n2 c2) n2 (cellsE K E) from this).alloc _).alloc _
  refine step_append_row rfl (.tmp 21) (.tmp 26) 71 rfl N 110 i2 (.agg #[.int .i64 0, .slice none 0 0]) 2 32 Try.underlying71 hi2 hz20 hz21 hz22 rfl (by decide) (.slice z2 n2 c2) n2 (cellsE K E) (by simp [Act.eval, Act.put]) (by exact HO.out) A1.heap.size 1 1 #[.int .i64 0, .slice (some ⟨gb, 0, none⟩) K K] 110 (by simp [Act.eval, Act.put]) (by exact heap_alloc_new A1 _) rfl (by decide) (by simp [Value.oneCell']) (by unfold maxLen; omega) (by omega) (by (try simp) <;> omega) ?_
  intro v3 w3 ho3 hf3
  obtain ⟨y1, y3, rfl, _⟩ := row_shape ho3.out
  have hbz : (Value.slice z2 n2 c2).ownBlock ≠ some b := own_ne HR.out.row HM.out (by decide)
  have e3 : w3.heap[b]? = w.heap[b]? := (hf3.out.block b (by (try simp) <;> omega) hbz).trans ((heap_alloc_old _ _ (by omega)).trans (by rw [HA1.out]; exact (heap_alloc_old _ _ (by show b < W0.heap.size; omega)).trans (e0.out.blk b)))
  have hm3 := HM.out.kept e3
  have q9 := hm3.c 9
  have v9 := hm3.u 9
  simp at q9
  clear hm3 e3
  refine hKK.out _ _ (fun _ => q9) (tail_cons fun KK hKK => ?_)
  simp only [Act.put, List.setIfInBounds_toArray, List.set_cons_zero, List.set_cons_succ]
  go_simp
  refine hKK.out _ _ (fun _ => q9) (tail_cons fun KK hKK => ?_)
  simp only [Act.put, List.setIfInBounds_toArray, List.set_cons_zero, List.set_cons_succ]
  go_simp
  refine hKK.out _ _ (fun _ => q9) (tail_cons fun KK hKK => ?_)
  simp only [Act.put, List.setIfInBounds_toArray, List.set_cons_zero, List.set_cons_succ]
  go_simp
  refine hKK.out _ _ (fun h => absurd rfl h) (tail_nil ?_)
  have hmd := put_made (y1 := y1) (y3 := y3) HM.out HR.out HC.out hcb hNw hK rfl (A3 := A1.alloc (.cells #[.int .i64 0, .slice (some ⟨gb, 0, none⟩) K K] 110)) (by
    rw [HA1.out, HGB.out]
    exact ((e0.out.trans (Eqw.drew W0)).alloc _).alloc _) (by have := ho3.out; rw [HGB.out] at this; exact this) hf3.out
  dsimp only at hmd
  obtain ⟨W1, hW1⟩ : ∃ W1, W1 = w3.setCell ⟨b, 9, none⟩ (.slice y1 (n2 + 1) y3) := ⟨_, rfl⟩
  rw [← hW1] at hmd ⊢
  obtain ⟨m1, m2, m3, m4, m5⟩ := hmd
  obtain ⟨zb, gi, gb2, hzz, HA, HFF⟩ := put_rest (cp := cp) (c := c) i m1 m2 (by rw [List.length_append, ← HKE.out]; simp) m3 m4 hN
  dsimp only at hzz HA HFF
  subst hzz
  have HCH := hid m5
  have HAA := hid HA
  have HF2 := hid HFF
  clear hW1 m1 m2 m3 m4 m5 HA HFF q9 v9 ho3 hf3 HO hz10 hz9 hmk HF HA1 c9 c10
  obtain ⟨_, _, _, c9, c10⟩ := HF2.out W1 ⟨rfl, rfl, rfl, rfl⟩
  go_upto_region 2 with fail
  go_quiet (fail)
  obtain ⟨W, hW⟩ : ∃ W, W = W1.drewN nq := ⟨_, rfl⟩
  rw [← hW]
  have e1 : Hid (Eqw W1 W) := by rw [hW]; exact Eqw.drewN W1 nq
  clear hW c9 c10
  obtain ⟨k0, k1, f0, c9, c10⟩ := HF2.out W e1.out
  obtain ⟨V2, hcp, ⟨d10, u10⟩, HZ⟩ := HAA.out W e1.out
  clear HAA HF2
  go_wp2
  go_end0
  refine ⟨rfl, some ⟨zb, 0, none⟩, y3, _, ?_, ?_, HZ.out.1, HZ.out.2.1, HCH.out.trans (HZ.out.2.2.trans ?_)⟩
  · simp
  · have hlen : k2 = E.length := HKE.out
    subst hlen
    rw [List.set_append_right _ _ (Nat.le_refl _)]
    simp
    exact List.take_of_length_le (by simp)
  · rw [RWF_set]
    exact Chg.refl _ _
/-- a thread is put: what the next row holds then -/
theorem put30 {w : World} {b N K cb cp : Nat} {M : Mv} {E : List En} {c : List Int} (i : Nat) (h : MB w b M) (hR : RW w N K M.z2 M.n2 M.c2 E) (hk : M.k2 ≤ E.length) (hk2 : M.k2 < 20000) (hE : E.length ≤ 20000) (hK : K ≤ 10000) (hc : w.ownsRow N 3 1 (.slice (some ⟨cb, 0, none⟩) K cp) K (I64 c)) (hcb : cb ∉ E.map En.b) (hN : N ≤ b) (hNw : N ≤ w.heap.size) :
    Calls Try.prog 32 #[.pointer (some ⟨b, 9, none⟩), .int .i64 (i : Int), .slice (some ⟨cb, 0, none⟩) K cp] w fun e w' => e = .returned (.tuple #[]) ∧ ∃ y1 y2 y3 E', M.k2 + 1 ≤ E'.length ∧ E'.length ≤ 20000 ∧ (E'.take (M.k2 + 1)).map En.th = (E.take M.k2).map En.th ++ [(i, c)] ∧ MB w' b { M with z2 := y1, n2 := y2, c2 := y3, k2 := M.k2 + 1 } ∧ RW w' N K y1 y2 y3 E' ∧ Chg w w' (b :: RWF M.z2 M.n2 M.c2 E) (b :: RWF y1 y2 y3 E') := by
  by_cases hlt : M.k2 < E.length
  · refine (put30_old i h hR hlt hE hc hcb hN).mono ?_
    rintro e w' ⟨he, h1, h2, h3⟩
    refine ⟨he, M.z2, M.n2, M.c2, _, by rw [List.length_set]; exact hlt, by simpa using hE, ?_, h1, h2, by rw [RWF_set]; exact h3⟩
    rw [List.take_succ_eq_append_getElem (by simpa using hlt), List.take_set_of_le (Nat.le_refl _)]
    simp [En.th]
  · have hke : M.k2 = E.length := by omega
    refine (put30_new i h hR hke hE hK hc hcb hN hNw).mono ?_
    rintro e w' ⟨he, y1, y3, E', h1, h2, h3, h4, h5⟩
    refine ⟨he, y1, M.n2 + 1, y3, E', by omega, by omega, ?_, h3, h4, h5⟩
    rw [h2, hke]
    simp [En.th]
end Go.Proofs.Ytodpmmlfdkdemaa
