/- HELPERS: the machine in memory: an assertion asked, a match, a thread put. -/
import Derived.Test.YtodpmmlfdkdemaaPc
import Derived.Test.YtodpmmlfdkdemaaRq
import Derived.Test.YtodpmmlfdkdemaaCp
import Derived.Deep.RegionHeld3
namespace Go.Proofs.Ytodpmmlfdkdemaa
open Go.RowKit Go.Lk
set_option linter.unusedVariables false
set_option linter.unusedSimpArgs false
theorem MB.upd {w : World} {b : Nat} {M : Mv} (h : MB w b M) (k : Nat) (v : Value) (M' : Mv) (he : (M.cs b).setIfInBounds k v = M'.cs b) : MB (w.setCell ⟨b, k, none⟩ v) b M' := by
  have := Joins.block_setCell (i := k) h v
  rw [he] at this
  exact this
theorem copyK {W : World} {N N' fb cb cp K K' : Nat} {old c : List Int} (ho : W.ownsRow N 3 1 (.slice (some ⟨fb, 0, none⟩) K K') K (I64 old)) (hs : W.ownsRow N' 3 1 (.slice (some ⟨cb, 0, none⟩) K cp) K (I64 c)) :
    (Builtin.copy_ #[25, 25] 3 #[.slice (some ⟨fb, 0, none⟩) K K', .slice (some ⟨cb, 0, none⟩) K cp]).run Try.prog W = .ok (.int .i64 (K : Int)) (W.setCells fb 0 (I64 c)) ∧ (W.setCells fb 0 (I64 c)).ownsRow N 3 1 (.slice (some ⟨fb, 0, none⟩) K K') K (I64 c) := by
  have hl : (I64 c).length = K := by have := hs.1; omega
  have hlo : (I64 old).length = K := by have := ho.1; omega
  have h := run_copy_cells (P := Try.prog) W 25 25 3 3 fb 0 K K' ⟨cb, 0, none⟩ K cp (I64 c) Try.underlying25 size3 (by rw [hl]; simp) (fun j v hj => by
    rw [Addr.add_mid, Nat.zero_add, hs.cellAt j (by have := (List.getElem?_eq_some_iff.1 hj).1; omega)]; exact hj) (fun j hj => by
    rw [Nat.zero_add, ho.cellAt j (by omega), List.getElem?_eq_getElem (by omega)]; rfl) (fun j hj => by rw [Nat.zero_add]; exact ho.frozenAt j) (one_cell_ints c)
  rw [hl] at h
  refine ⟨by simpa [goInt] using h, ?_⟩
  have := row_stores (I64 c) 0 W _ ho (by omega)
  simpa using this
set_option maxRecDepth 100000 in
theorem drop51 (b : Nat) (w : World) (h1 : (w.cell? ⟨b, 10, none⟩).isSome = true) (h2 : w.frozen? ⟨b, 10, none⟩ = false) : Calls Try.prog 65 #[.pointer (some ⟨b, 9, none⟩)] w fun e w' => e = .returned (.tuple #[]) ∧ w' = w.setCell ⟨b, 10, none⟩ (.int .i64 0) := by
  obtain ⟨v, hv⟩ := Option.isSome_iff_exists.1 h1
  clear h1
  go_enter Try.func65, Try.ntmps65
  go_wp2
  go_end0
  exact ⟨rfl, rfl⟩
theorem look_text {N : Nat} {w : World} {ad : Option Addr} {n : Nat} {l : List Int} (h : TextAt N w ad n l) : Look.TextAt N w ad n l := h
theorem look_at (l : List Int) (p : Nat) (hp : p ≤ l.length) : Look.atN l (p : Int) = atP l p := by
  unfold Look.atN
  rw [if_neg (by omega)]
  rfl
set_option maxRecDepth 100000 in
set_option maxHeartbeats 2000000 in
theorem holds47 {w : World} {b : Nat} {M : Mv} {tx : List Int} (h : MB w b M) (hT : TextAt w.heap.size w M.tad M.tn tx) (hj : M.j ≤ M.tn) (hb : M.bits = 0 ∨ M.bits = atP tx M.j) (a : Int) :
    Calls Try.prog 61 #[.pointer (some ⟨b, 0, none⟩), .int .i64 a] w fun e w' => e = .returned (.bool (holdsB a (atP tx M.j))) ∧ MB w' b { M with bits := atP tx M.j } ∧ Chg w w' [b] [b] := by
  have htl : M.tn = tx.length := hT.1
  have HA := Look.at10 tx M.tad M.tn M.tc M.j w.drew (look_text (show TextAt w.drew.heap.size w.drew M.tad M.tn tx from hT))
  rw [look_at tx M.j (by omega)] at HA
  have HM := hid h
  generalize hat : atP tx M.j = t at HA hb ⊢
  have HH : Hid (∀ W, Calls Try.prog 56 #[.int .i64 a, .int .i64 t] W fun e w' => e = .returned (.bool (holdsB a t)) ∧ w' = W) := fun W => Look.holds13 a t W
  clear hat
  have hu := h.u 6
  have c3 := h.c 3
  have c4 := h.c 4
  have c6 := h.c 6
  simp at c3 c4 c6
  by_cases e : M.bits = 0
  · have HK := hid (fun (W : World) (hW : MB W b M) => hW.upd 6 (.int .i64 t) { M with bits := t } rfl)
    have hbl := h.lt
    clear h hb hT htl
    rw [e] at c6
    clear e
    obtain ⟨ad, n, c, S, K, tad, tn, tc, j, sb, bits, z1, n1, c1, k1, z2, n2, c2, k2, ub, uc, fok, f1, f2, f3, fw, fs⟩ := M
    dsimp only at HA HM HK c3 c4 c6 hj ⊢
    go_enter Try.func61, Try.ntmps61
    go_upto_region 2 with fail
    go_cut [] from 10 to 22 (fun wx => Hid (MB wx b ⟨ad, n, c, S, K, tad, tn, tc, j, sb, t, z1, n1, c1, k1, z2, n2, c2, k2, ub, uc, fok, f1, f2, f3, fw, fs⟩) ∧ Hid (Chg w wx [b] [b]))
    case first =>
      go_region_with (go_at_call 57; (with_reducible refine HA.mono ?_); rintro e w2 ⟨rfl, hb2⟩; have HB := hid hb2; have hm := HM.out.kept (hb2.block b hbl); have hu2 := hm.u 6; have d6 := hm.c 6; simp at d6; have HM2 := hid (HK.out w2 hm); clear hm hb2 HA)
      all_goals go_wp2_with fail
      all_goals go_meet
      all_goals exact ⟨HM2.out, (Chg.of_below (show Below w.heap.size w w2 from ⟨HB.out.os, HB.out.tape, HB.out.output, HB.out.size, HB.out.block⟩)).set (a := ⟨b, 6, none⟩) _ (by simp)⟩
    case rest =>
    obtain ⟨HM3, HC3⟩ := hcut
    have d6 := HM3.out.c 6
    simp at d6
    go_wp2_with (go_at_call 56; (with_reducible refine (HH.out _).mono ?_); rintro e w3 ⟨rfl, rfl⟩)
    all_goals go_ret
    all_goals exact ⟨rfl, HM3.out, HC3.out⟩
  · have hb' : M.bits = t := hb.resolve_left e
    have b1 : (t == 0) = false := by simpa [hb'] using e
    rw [hb'] at c6
    have HM2 : Hid (MB w b { M with bits := t }) := by show MB w b _; rw [← hb']; exact h
    clear h hb hT htl HA hb' e hu
    go_enter Try.func61, Try.ntmps61
    go_wp2_with (go_at_call 56; (with_reducible refine (HH.out _).mono ?_); rintro e w3 ⟨rfl, rfl⟩)
    all_goals go_ret
    all_goals exact ⟨rfl, HM2.out, Chg.refl _ _⟩
/-- what is found, in memory -/
def FD (w : World) (N K : Nat) (M : Mv) (fb : List Nat) : Fd → Prop
  | none => M.fok = false ∧ M.f1 = none ∧ M.f2 = 0 ∧ M.f3 = 0 ∧ M.fw = 0 ∧ fb = []
  | some y => ∃ g, M.fok = true ∧ M.f1 = some ⟨g, 0, none⟩ ∧ M.f2 = K ∧ M.f3 = K ∧ M.fw = y.1 ∧ fb = [g] ∧ w.ownsRow N 3 1 (.slice (some ⟨g, 0, none⟩) K K) K (I64 y.2)
theorem makeK (c : Nat) (hc : c ≤ 10000) (w : World) : (Instr.makeSlice 25 (.int .i64 (c : Int)) (.int .i64 (c : Int))).run Try.prog w = .ok (.slice (some ⟨w.heap.size, 0, none⟩) c c) (w.alloc (.cells (madeCells #[.int .i64 0] c) 3)) := makeN c hc w
theorem made_row (c N : Nat) (w : World) (hN : N ≤ w.heap.size) (hc : c ≤ 10000) : (w.alloc (.cells (madeCells #[.int .i64 0] c) 3)).ownsRow N 3 1 (.slice (some ⟨w.heap.size, 0, none⟩) c c) c (I64 (List.replicate c 0)) := by
  have h' := World.ownsRow_lit (base := N) (e := 3) (size := 1) w (madeCells #[.int .i64 0] c) c hN (by unfold maxLen; omega) (by rw [size_madeCells]; omega)
  rw [toList_madeCells_one] at h'
  simpa using h'
set_option maxRecDepth 100000 in
set_option maxHeartbeats 4000000 in
theorem match49_first {w : World} {b N K cb cp : Nat} {M : Mv} {c : List Int} (a : Int) (h : MB w b M) (hK : K ≤ 10000) (hf : M.fok = false) (hN : N ≤ w.heap.size) (hNb : N ≤ b) (hc : w.ownsRow N 3 1 (.slice (some ⟨cb, 0, none⟩) K cp) K (I64 c)) :
    Calls Try.prog 63 #[.pointer (some ⟨b, 0, none⟩), .int .i64 a, .slice (some ⟨cb, 0, none⟩) K cp] w fun e w' => e = .returned (.tuple #[]) ∧ ∃ g, w.heap.size ≤ g ∧ MB w' b { M with fok := true, f1 := some ⟨g, 0, none⟩, f2 := K, f3 := K, fw := a } ∧ w'.ownsRow N 3 1 (.slice (some ⟨g, 0, none⟩) K K) K (I64 c) ∧ Chg w w' [b] [b, g] := by
  have hbl := h.lt
  obtain ⟨g, hg⟩ : ∃ g, g = w.heap.size := ⟨_, rfl⟩
  obtain ⟨V, hV⟩ : ∃ V, V = w.alloc (.cells (madeCells #[.int .i64 0] K) 3) := ⟨_, rfl⟩
  have hmk := makeK K hK w
  have hgr := made_row K N w hN hK
  rw [← hV, ← hg] at hmk hgr
  have hbV : Below w.heap.size w V := by rw [hV]; exact Joins.below_alloc1 w _
  have hMV : MB V b M := h.kept (hbV.block b hbl)
  have hM1 := hMV.upd 14 (.slice (some ⟨g, 0, none⟩) K K) { M with f1 := some ⟨g, 0, none⟩, f2 := K, f3 := K } rfl
  obtain ⟨V1, hV1⟩ : ∃ V1, V1 = V.setCell ⟨b, 14, none⟩ (.slice (some ⟨g, 0, none⟩) K K) := ⟨_, rfl⟩
  rw [← hV1] at hM1
  have hgb : g ≠ b := by omega
  have hg1 : V1.ownsRow N 3 1 (.slice (some ⟨g, 0, none⟩) K K) K (I64 (List.replicate K 0)) := by rw [hV1]; exact own_setCell hgr (by simp [Value.ownBlock, hgb])
  have hcb := hc.lt cb rfl
  have hcbb : cb ≠ b := fun e => own_ne hc h (by decide) (by rw [e]; rfl)
  have hc1 : V1.ownsRow N 3 1 (.slice (some ⟨cb, 0, none⟩) K cp) K (I64 c) := by rw [hV1]; exact own_setCell (row_kept hc (fun k hk => hbV.block k (hc.lt k hk).2)) (by simp [Value.ownBlock, hcbb])
  obtain ⟨hcp, hr2⟩ := copyK hg1 hc1
  obtain ⟨V2, hV2⟩ : ∃ V2, V2 = V1.setCells g 0 (I64 c) := ⟨_, rfl⟩
  rw [← hV2] at hcp hr2
  have hM2 : MB V2 b { M with f1 := some ⟨g, 0, none⟩, f2 := K, f3 := K } := hM1.kept (by rw [hV2]; exact setCells_other g _ _ _ _ (fun e => hgb e.symm))
  have hM3 := (hM2.upd 13 (.bool true) { M with fok := true, f1 := some ⟨g, 0, none⟩, f2 := K, f3 := K } rfl).upd 15 (.int .i64 a) { M with fok := true, f1 := some ⟨g, 0, none⟩, f2 := K, f3 := K, fw := a } rfl
  have hch : Chg w V2 [b] [b, g] := by
    have h1 : Chg w V1 [b] [b] := by rw [hV1]; exact (Chg.of_below hbV).set (a := ⟨b, 14, none⟩) _ (by simp)
    rw [hV2]
    refine ⟨?_, ?_, ?_, ?_, ?_, ?_⟩
    · have := setCells_chg (w := V1) (w' := V1) (F := [g]) (F' := [g]) g (by simp) (I64 c) 0 V1 (Chg.refl _ _); exact this.os.trans h1.os
    · have := setCells_chg (w := V1) (w' := V1) (F := [g]) (F' := [g]) g (by simp) (I64 c) 0 V1 (Chg.refl _ _); exact this.tape.trans h1.tape
    · have := setCells_chg (w := V1) (w' := V1) (F := [g]) (F' := [g]) g (by simp) (I64 c) 0 V1 (Chg.refl _ _); exact this.output.trans h1.output
    · have := setCells_chg (w := V1) (w' := V1) (F := [g]) (F' := [g]) g (by simp) (I64 c) 0 V1 (Chg.refl _ _); exact Nat.le_trans h1.size this.size
    · intro k hk hn; exact (setCells_other g _ _ _ _ (by omega)).trans (h1.block k hk hn)
    · intro k hk; simp at hk; rcases hk with rfl | rfl
      · exact .inl (by simp)
      · exact .inr (by omega)
  have c13 := h.c 13
  have d14 := hMV.c 14
  have u14 := hMV.u 14
  have e14 := hM1.c 14
  have e13 := hM2.c 13
  have v13 := hM2.u 13
  have e15 := hM2.c 15
  have v15 := hM2.u 15
  simp at c13 d14 e14 e13 e15
  rw [hf] at c13
  have HM3 := hid hM3
  have HR2 := hid hr2
  have HCH := hid hch
  have HG := hid hg
  have HK := hid hK
  have HV2 := hid hbl
  clear h hc hM1 hM2 hM3 hMV hg1 hc1 hr2 hch hbV hgr hcb hK hN hf hg hV hV2
  have HV1 := hid hV1
  clear hV1
  go_enter Try.func63, Try.ntmps63
  go_upto_region 2 with fail
  rw [← HV1.out]
  clear HV1 d14 u14 c13 hmk
  go_wp2
  go_end0
  exact ⟨rfl, g, by have := HG.out; omega, HM3.out, own_setCell (own_setCell HR2.out (by simp [Value.ownBlock, hgb])) (by simp [Value.ownBlock, hgb]), (HCH.out.set (a := ⟨b, 13, none⟩) _ (by simp)).set (a := ⟨b, 15, none⟩) _ (by simp)⟩
set_option maxRecDepth 100000 in
set_option maxHeartbeats 4000000 in
theorem match49_next {w : World} {b N K cb cp g : Nat} {M : Mv} {c c0 : List Int} (a : Int) (h : MB w b M) (hK : K ≤ 10000) (hf : M.fok = true) (hf1 : M.f1 = some ⟨g, 0, none⟩) (hf2 : M.f2 = K) (hf3 : M.f3 = K) (hN : N ≤ w.heap.size) (hNb : N ≤ b) (hc : w.ownsRow N 3 1 (.slice (some ⟨cb, 0, none⟩) K cp) K (I64 c)) (hg0 : w.ownsRow N 3 1 (.slice (some ⟨g, 0, none⟩) K K) K (I64 c0)) :
    Calls Try.prog 63 #[.pointer (some ⟨b, 0, none⟩), .int .i64 a, .slice (some ⟨cb, 0, none⟩) K cp] w fun e w' => e = .returned (.tuple #[]) ∧ MB w' b { M with fok := true, f1 := some ⟨g, 0, none⟩, f2 := K, f3 := K, fw := a } ∧ w'.ownsRow N 3 1 (.slice (some ⟨g, 0, none⟩) K K) K (I64 c) ∧ Chg w w' [b, g] [b, g] := by
  have hbl := h.lt
  have hgb : g ≠ b := fun e => own_ne hg0 h (by decide) (by rw [e]; rfl)
  have h' : MB w b { M with fok := true, f1 := some ⟨g, 0, none⟩, f2 := K, f3 := K } := by
    have e : { M with fok := true, f1 := some ⟨g, 0, none⟩, f2 := K, f3 := K } = M := by cases M; simp only at hf hf1 hf2 hf3; subst hf hf1 hf2 hf3; rfl
    rw [e]; exact h
  obtain ⟨hcp, hr2⟩ := copyK hg0 hc
  obtain ⟨V2, hV2⟩ : ∃ V2, V2 = w.setCells g 0 (I64 c) := ⟨_, rfl⟩
  rw [← hV2] at hcp hr2
  have hM2 : MB V2 b { M with fok := true, f1 := some ⟨g, 0, none⟩, f2 := K, f3 := K } := h'.kept (by rw [hV2]; exact setCells_other g _ _ _ _ (fun e => hgb e.symm))
  have hM3 := (hM2.upd 13 (.bool true) { M with fok := true, f1 := some ⟨g, 0, none⟩, f2 := K, f3 := K } rfl).upd 15 (.int .i64 a) { M with fok := true, f1 := some ⟨g, 0, none⟩, f2 := K, f3 := K, fw := a } rfl
  have hch : Chg w V2 [b, g] [b, g] := by
    rw [hV2]; exact setCells_chg (w' := w) g (by simp) (I64 c) 0 w (Chg.refl _ _)
  have c13 := h'.c 13
  have c14 := h'.c 14
  have e13 := hM2.c 13
  have v13 := hM2.u 13
  have e15 := hM2.c 15
  have v15 := hM2.u 15
  simp at c13 c14 e13 e15
  have HM3 := hid hM3
  have HR2 := hid hr2
  have HCH := hid hch
  clear h hc hM2 hM3 hr2 hch hK hN hf hV2 hf1 hf2 hf3 h' hg0
  go_enter Try.func63, Try.ntmps63
  go_wp2
  go_end0
  exact ⟨rfl, HM3.out, own_setCell (own_setCell HR2.out (by simp [Value.ownBlock, hgb])) (by simp [Value.ownBlock, hgb]), (HCH.out.set (a := ⟨b, 13, none⟩) _ (by simp)).set (a := ⟨b, 15, none⟩) _ (by simp)⟩
end Go.Proofs.Ytodpmmlfdkdemaa
