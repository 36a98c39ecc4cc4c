/- HELPERS: the document's Join. -/
import Derived.Test.YtnecakampgdhcaaJg
import Derived.Test.YtnecakampgdhcaaCf
namespace Go.Proofs.Ytnecakampgdhcaa
open Go.RowKit
set_option linter.unusedVariables false
set_option linter.unusedSimpArgs false
theorem ways2 {I : In} {n k : Int} (h : I.okB n k = true) : (hasXB I.op = true ∧ hasYB I.op = false ∧ (I.op == 5) = false ∧ (I.op == 2) = false ∧ (I.op != 5) = true ∧ (I.op != 6) = true) ∨ (hasXB I.op = true ∧ hasYB I.op = true ∧ (I.op == 5) = false ∧ (I.op == 2) = true ∧ (I.op != 5) = true ∧ (I.op != 6) = true) ∨ (hasXB I.op = false ∧ hasYB I.op = false ∧ (I.op == 5) = true ∧ (I.op == 2) = false ∧ (I.op != 5) = false ∧ (I.op != 6) = true) ∨ (hasXB I.op = false ∧ hasYB I.op = false ∧ (I.op == 5) = false ∧ (I.op == 2) = false ∧ (I.op != 5) = true ∧ (I.op != 6) = false) := by
  rcases ok_op h with e | e | e | e | e | e | e <;> rw [e] <;> decide
/-- the program that grows, in its box -/
def OUT (w : World) (q base : Nat) (l : List In) (st cp : Int) : Prop := ∃ (z1 : Option Addr) (c : Nat) (MS : List Iv), w.heap[q]? = some (.cells #[.slice z1 l.length c, .int .i64 st, .int .i64 cp] 24 (0, 0)) ∧ GR w base (.slice z1 l.length c) MS l
theorem OUT.push {w V V' w7 : World} {q base N c : Nat} {l : List In} {st cp : Int} {z1 y1 : Option Addr} {y3 : Nat} {MS : List Iv} {M : Iv} {I : In} (hq : w.heap[q]? = some (.cells #[.slice z1 N c, .int .i64 st, .int .i64 cp] 24 (0, 0))) (hG : GR w base (.slice z1 N c) MS l) (hN : N = l.length) (hb : base ≤ w.heap.size)
    (hs : w.heap.size ≤ V.heap.size) (hk : ∀ b, b < w.heap.size → V.heap[b]? = w.heap[b]?) (hop : M.op = I.op) (hx : M.x = I.x) (hy : M.y = I.y) (ha : M.a = I.a) (hlen : M.r2 = I.R.length) (hsm : M.r2 * 16 ≤ 140737488351232) (hr : V.ownsRow w.heap.size 49 2 M.rv I.R.length (O2 I.R))
    (hs' : V.heap.size ≤ V'.heap.size) (hk' : ∀ b, b < V.heap.size → V'.heap[b]? = V.heap[b]?) (hf : Frm V' w7 (.slice z1 N c) (.slice y1 (N + 1) y3)) (ho : w7.ownsRow base 51 5 (.slice y1 (N + 1) y3) (N + 1) (MS.flatMap Iv.cs ++ Iv.cs M)) :
    OUT (w7.setCell ⟨q, 0, none⟩ (.slice y1 (N + 1) y3)) q base (l ++ [I]) st cp ∧ ∀ b, b < w.heap.size → b ≠ q → (Value.slice z1 N c).ownBlock ≠ some b → (w7.setCell ⟨q, 0, none⟩ (.slice y1 (N + 1) y3)).heap[b]? = w.heap[b]? := by
  subst hN
  have hql : q < w.heap.size := (Array.getElem?_eq_some_iff.1 hq).1
  have hqV := (hk q hql).trans hq
  have hzq : (Value.slice z1 l.length c).ownBlock ≠ some q := own_ne hG.row hq (by decide)
  have hq7 : w7.heap[q]? = some (.cells #[.slice z1 l.length c, .int .i64 st, .int .i64 cp] 24 (0, 0)) := (hf.block q (by omega) hzq).trans ((hk' q (by omega)).trans hqV)
  have hyq : (Value.slice y1 (l.length + 1) y3).ownBlock ≠ some q := own_ne ho hq7 (by decide)
  have hkE : ∀ b, b < V.heap.size → (Value.slice z1 l.length c).ownBlock ≠ some b → b ≠ q → (w7.setCell ⟨q, 0, none⟩ (.slice y1 (l.length + 1) y3)).heap[b]? = V.heap[b]? := fun b hb' h1 h2 => (Below.heap_setCell _ _ _ _ h2).trans ((hf.block b (by omega) h1).trans (hk' b hb'))
  have hnew := hG.push (m := q) (V := V) (w7 := w7.setCell ⟨q, 0, none⟩ (.slice y1 (l.length + 1) y3)) (v7 := .slice y1 (l.length + 1) y3) (M := M) (I := I) hb hs (fun b hb' _ => hk b hb') (fun b R n h => own_ne h hqV (by decide)) hop hx hy ha hlen hsm hr hzq (fun b R n h => own_ne h hq (by decide)) hkE (fun b hb' => (hf.own b hb').imp id (fun h => by omega)) (own_setCell ho hyq)
  refine ⟨⟨y1, y3, MS ++ [M], ?_, ?_⟩, fun b h1 h2 h3 => (hkE b (by omega) h3 h2).trans (hk b h1)⟩
  · rw [List.length_append]; exact Joins.block_setCell (i := 0) hq7 _
  · rw [List.length_append]; exact hnew
theorem OUT.set {w : World} {q base : Nat} {l : List In} {st cp : Int} (h : OUT w q base l st cp) (v : Int) : OUT (w.setCell ⟨q, 2, none⟩ (.int .i64 v)) q base l st v := by
  obtain ⟨z1, c, MS, h1, h2⟩ := h
  exact ⟨z1, c, MS, Joins.block_setCell (i := 2) h1 _, h2.setOther (o := 2) h1 (by decide) (by decide) _⟩
theorem OUT.below {w w' : World} {q base : Nat} {l : List In} {st cp : Int} (h : OUT w q base l st cp) (hb : Below w.heap.size w w') : OUT w' q base l st cp := by
  obtain ⟨z1, c, MS, h1, h2⟩ := h
  exact ⟨z1, c, MS, (hb.block q (Array.getElem?_eq_some_iff.1 h1).1).trans h1, h2.below hb⟩
theorem OUT.drew {w : World} {q base : Nat} {l : List In} {st cp : Int} (h : OUT w q base l st cp) : OUT w.drew q base l st cp := by
  obtain ⟨z1, c, MS, h1, h2⟩ := h
  exact ⟨z1, c, MS, h1, h2.kept (fun _ _ _ _ => rfl)⟩
theorem OUT.start {w : World} {q base : Nat} {l : List In} {st cp : Int} (h : OUT w q base l st cp) (v : Int) : OUT (w.setCell ⟨q, 1, none⟩ (.int .i64 v)) q base l v cp := by
  obtain ⟨z1, c, MS, h1, h2⟩ := h
  exact ⟨z1, c, MS, Joins.block_setCell (i := 1) h1 _, h2.setOther (o := 1) h1 (by decide) (by decide) _⟩
theorem grown_len (L : List Pg) (k : Nat) (hk : k ≤ L.length) : (altsL L (L.length - 1) ++ movedL L k).length = ahead L k := by rw [List.length_append, altsL_len]; have := movedL_len L k hk; omega
set_option maxRecDepth 100000 in
set_option maxHeartbeats 32000000 in
theorem rjoin15 {w : World} {ad : Option Addr} {n c : Nat} {L : List Pg} (h : LP w w.heap.size ad n L) : Calls Try.prog 15 #[.slice ad n c] w (JA L w) := by
  obtain ⟨i5, hi5, hz50, hz51, hz52⟩ := info_parts info49
  obtain ⟨i2, hi2, hz20, hz21, hz22⟩ := info_parts info51
  have HL := hid h.len
  obtain ⟨B0, hB0⟩ : ∃ B0, B0 = w.heap.size := ⟨_, rfl⟩
  obtain ⟨U, hU⟩ : ∃ U, U = w.alloc (.cells ZP 24) := ⟨_, rfl⟩
  have hbU : Below B0 w U := by rw [hU, hB0]; exact Joins.below_alloc1 w _
  have hY : U.heap[B0]? = some (.cells ZP 24 (0, 0)) := by rw [hU, hB0]; exact heap_alloc_new w _
  have hB0U : B0 < U.heap.size := (Array.getElem?_eq_some_iff.1 hY).1
  have HBE := hid hB0
  have HLP : Hid (LP w B0 ad n L) := by rw [hB0]; exact h
  have HYU := hid hY
  have HBU := hid hbU
  clear h hY hbU
  by_cases hA : n < 1 ∨ 100 < n
  · have hC : joinC L = 1 := joinC_arg (by rw [← HL.out]; exact hA)
    have s0 := Joins.unfrozen_of_block HYU.out 0
    have s1 := Joins.unfrozen_of_block HYU.out 1
    have s2 := Joins.unfrozen_of_block HYU.out 2
    obtain ⟨y0, y1, y2⟩ := three_cells HYU.out
    have fin : JA L w (.returned (.tuple #[pv none 0 0 0 0, .int .i64 1])) (((U.setCell ⟨B0, 0, none⟩ (.slice none 0 0)).setCell ⟨B0, 1, none⟩ (.int .i64 0)).setCell ⟨B0, 2, none⟩ (.int .i64 0)) := JA.no hC (by decide) (by rw [← HBE.out]; exact ((HBU.out.setCell (p := ⟨B0, 0, none⟩) (Nat.le_refl _) _).setCell (p := ⟨B0, 1, none⟩) (Nat.le_refl _) _).setCell (p := ⟨B0, 2, none⟩) (Nat.le_refl _) _)
    have hQE : (((U.setCell ⟨B0, 0, none⟩ (.slice none 0 0)).setCell ⟨B0, 1, none⟩ (.int .i64 0)).setCell ⟨B0, 2, none⟩ (.int .i64 0)).heap[B0]? = some (.cells ZP 24 (0, 0)) := Joins.block_setCell (i := 2) (Joins.block_setCell (i := 1) (Joins.block_setCell (i := 0) HYU.out _) _) _
    have HF := hid fin
    have HQE := hid hQE
    clear fin hQE
    by_cases h0 : n < 1
    · have b1 : decide ((n : Int) < 1) = true := by simp; omega
      go_enter Try.func15, Try.ntmps15
      go_upto_region 1 with fail
      rw [← hU, ← hB0]
      clear hU hB0
      go_wp2

      refine bodyPost_ret (results_cell_tmp rfl _ _ B0 24 _ (0, 0) _ rfl HQE.out Try.underlying24 rfl (by kernel_rfl)) rfl ?_
      exact HF.out
    · have b1 : decide ((n : Int) < 1) = false := by simp; omega
      have b2 : decide ((n : Int) > 100) = true := by simp; omega
      have b3 : decide ((100 : Int) < (n : Int)) = true := by simp; omega
      go_enter Try.func15, Try.ntmps15
      go_upto_region 1 with fail
      rw [← hU, ← hB0]
      clear hU hB0
      go_wp2
      refine bodyPost_ret (results_cell_tmp rfl _ _ B0 24 _ (0, 0) _ rfl HQE.out Try.underlying24 rfl (by kernel_rfl)) rfl ?_
      exact HF.out
  · have h1 : 1 ≤ n := by omega
    have h2 : n ≤ 100 := by omega
    have hA' : ¬ (L.length < 1 ∨ 100 < L.length) := by rw [← HL.out]; exact hA
    have b1 : decide ((n : Int) < 1) = false := by simp; omega
    have b2 : decide ((n : Int) > 100) = false := by simp; omega
    have b3 : decide ((100 : Int) < (n : Int)) = false := by simp; omega
    have a1 : IntKind.i64.wrap ((n : Int) - 1) = (ahead L 0 : Int) := by rw [wrap_ok _ (by omega) (by omega), ahead_zero]; have := HL.out; omega
    go_enter Try.func15, Try.ntmps15
    go_upto_region 1 with fail
    rw [← hU, ← hB0]
    clear hU hB0
    go_wp2
    clear b1 b2 b3 a1 hA
    have HAA := hid hA'
    clear hA'
    go_loopw [4, 5] (fun u y wq => ∃ i : Nat, u = .int .i64 (ahead L i : Int) ∧ y = .int .i64 (i : Int) ∧ i ≤ n ∧ Hid (mayTo L i) ∧ Hid (wq.heap[B0]? = some (.cells ZP 24 (0, 0))) ∧ Hid (Below B0 w wq) ∧ B0 < wq.heap.size) (fun _ y _ => n - (intOf y).toNat)
    case atStart => exact ⟨0, rfl, rfl, by omega, fun j hj => by omega, HYU.out, HBU.out, hB0U⟩
    case round =>
      clear HYU HBU hB0U
      obtain ⟨i, rfl, rfl, hi, HM, HY, HB, hB0w⟩ := hrel
      have hiL : i ≤ L.length := by have := HL.out; omega
      have hale := ahead_le i hiL (by have := HL.out; omega) HM.out
      by_cases hil : i < n
      · have b1 : decide ((i : Int) < (n : Int)) = true := by simp; omega
        have b2 : (i : Int) < (n : Int) := by omega
        have ad1 := wrap_ok ((i : Int) + 1) (by omega) (by omega)
        have hiL' : i < L.length := by have := HL.out; omega
        obtain ⟨b, o, PA, PN, PC, e, hbl, hcs⟩ := HLP.out.mem (by omega)
        subst e
        obtain ⟨hP3, hPI, hPN⟩ := hcs i hil
        obtain ⟨m0, m1, m2⟩ := hP3.kept (HB.out.block b hbl)
        have hsu := ahead_succ L i hiL'
        have hlen := hPI.len
        clear hcs hP3
        obtain ⟨pa, hpa⟩ : ∃ pa, pa = PA i := ⟨_, rfl⟩
        obtain ⟨pn, hpn⟩ : ∃ pn, pn = PN i := ⟨_, rfl⟩
        obtain ⟨pc, hpc⟩ : ∃ pc, pc = PC i := ⟨_, rfl⟩
        rw [← hpa, ← hpn, ← hpc] at m0
        rw [← hpa, ← hpn] at hPI
        rw [← hpn] at hlen
        clear hpa hpn hpc hPN
        obtain ⟨P, hP⟩ : ∃ P, P = L.getD i default := ⟨_, rfl⟩
        rw [← hP] at m1 m2 hPI hsu hlen
        have HP := hid hP
        have HC := rcheck9 (c := pc) (s := P.s) (k := P.k) (hPI.kept HB.out (B' := wr.heap.size) (by omega))
        have HSU := hid hsu
        have HLEN := hid hlen
        have hbw : b < wr.heap.size := by omega
        clear hP hPI hsu hlen
        cases hg : mayB P.l P.s P.k
        · rw [hg] at HC
          simp only [Bool.false_eq_true, if_false] at HC
          have hC : joinC L = 90 := joinC_prog HAA.out (not_all i hiL' (by rw [← HP.out]; exact hg))
          go_upto_region 9 with (go_at_call 9; (with_reducible refine HC.mono ?_); rintro e w2 ⟨rfl, hb2⟩; have HB2 := hid hb2; clear hb2 HC)
          have hY2 := (HB2.out.block B0 (by omega)).trans HY.out
          have s0 := Joins.unfrozen_of_block hY2 0
          have s1 := Joins.unfrozen_of_block hY2 1
          have s2 := Joins.unfrozen_of_block hY2 2
          obtain ⟨y0, y1, y2⟩ := three_cells hY2
          have hbw2 : Below B0 w w2 := HB.out.trans (Joins.below_le HB2.out (by omega))
          have HY2 := hid hY2
          have HBW2 := hid hbw2
          clear hY2 hbw2 m0 m1 m2
          go_wp2
          refine bodyPost_ret (results_cell_tmp rfl _ _ B0 24 _ (0, 0) _ rfl (Joins.block_setCell (i := 2) (Joins.block_setCell (i := 1) (Joins.block_setCell (i := 0) HY2.out _) _) _) Try.underlying24 rfl (by kernel_rfl)) rfl ?_
          exact JA.no hC (by decide) (by rw [← HBE.out]; exact ((HBW2.out.setCell (p := ⟨B0, 0, none⟩) (Nat.le_refl _) _).setCell (p := ⟨B0, 1, none⟩) (Nat.le_refl _) _).setCell (p := ⟨B0, 2, none⟩) (Nat.le_refl _) _)
        · rw [hg] at HC
          simp only [if_true] at HC
          have hmk := may_ok hg
          have ad3 : IntKind.i64.wrap ((ahead L i : Int) + (pn : Int)) = (ahead L (i + 1) : Int) := by rw [HSU.out, ← HLEN.out, wrap_ok _ (by have := HLEN.out; omega) (by have := HLEN.out; omega)]; push_cast; rfl
          go_upto_region 10 with (go_at_call 9; (with_reducible refine HC.mono ?_); rintro e w2 ⟨rfl, hb2⟩; have HB2 := hid hb2; clear hb2 HC)
          have k0 : w2.cell? ⟨b, o + i * 3, none⟩ = some (.slice pa pn pc) := (cell_eq (HB2.out.block b hbw) _).trans m0
          clear hmk hale m0 m1 m2
          go_wp2
          refine ⟨⟨i + 1, rfl, by push_cast; rfl, by omega, fun j hj => ?_, (HB2.out.block B0 (by omega)).trans HY.out, HB.out.trans (Joins.below_le HB2.out (by omega)), by have := HB2.out.size; omega⟩, by simp [intOf]; omega⟩
          by_cases e : j = i
          · subst e; rw [← HP.out]; exact hg
          · exact HM.out j (by omega)
      · have b1 : decide ((i : Int) < (n : Int)) = false := by simp; omega
        obtain rfl : i = n := by omega
        have hall : allMay L = true := all_mayTo (by rw [← HL.out]; exact HM.out)
        have s0 := Joins.unfrozen_of_block HY.out 0
        have s1 := Joins.unfrozen_of_block HY.out 1
        have s2 := Joins.unfrozen_of_block HY.out 2
        obtain ⟨y0, y1, y2⟩ := three_cells HY.out
        have hNe : ahead L i = ahead L L.length := by rw [← HL.out]
        obtain ⟨NN, hNN⟩ : ∃ NN, NN = ahead L L.length := ⟨_, rfl⟩
        rw [hNe, ← hNN]
        by_cases hbig : 20000 < NN
        · have b4 : decide ((NN : Int) > 20000) = true := by simp; omega
          have b5 : decide ((20000 : Int) < (NN : Int)) = true := by simp; omega
          have hC : joinC L = 3 := joinC_big HAA.out hall (by omega)
          clear hNN hNe hale
          go_wp2
          refine bodyPost_ret (results_cell_tmp rfl _ _ B0 24 _ (0, 0) _ rfl (Joins.block_setCell (i := 2) (Joins.block_setCell (i := 1) (Joins.block_setCell (i := 0) HY.out _) _) _) Try.underlying24 rfl (by kernel_rfl)) rfl ?_
          exact JA.no hC (by decide) (by rw [← HBE.out]; exact ((HB.out.setCell (p := ⟨B0, 0, none⟩) (Nat.le_refl _) _).setCell (p := ⟨B0, 1, none⟩) (Nat.le_refl _) _).setCell (p := ⟨B0, 2, none⟩) (Nat.le_refl _) _)
        · have b4 : decide ((NN : Int) > 20000) = false := by simp; omega
          have b5 : decide ((20000 : Int) < (NN : Int)) = false := by simp; omega
          have hC : joinC L = 0 := joinC_ok HAA.out hall (by omega)
          have HMA := hid (mayTo_all hall)
          have HNN := hid hNN
          have HNE := hid hNe
          have hnb : NN ≤ 20000 := by omega
          clear hNN hNe hale y0 y1 y2 s0 s1 s2 hall HM
          have a1 : IntKind.i64.wrap ((i : Int) - 1) = (ahead L 0 : Int) := by rw [wrap_ok _ (by omega) (by omega), ahead_zero]; have := HL.out; omega
          have HC0 := hid hC
          clear hC hbig
          obtain ⟨b, o, PA, PN, PC, e, hbl, hcs0⟩ := HLP.out.mem (by omega)
          subst e
          have HCS := hid hcs0
          clear hcs0
          obtain ⟨q, hq⟩ : ∃ q, q = wr.heap.size := ⟨_, rfl⟩
          obtain ⟨V, hV⟩ : ∃ V, V = wr.alloc (.cells ZP 24) := ⟨_, rfl⟩
          have hbV : Below wr.heap.size wr V := by rw [hV]; exact Joins.below_alloc1 wr _
          have HQV : Hid (V.heap[q]? = some (.cells ZP 24 (0, 0))) := by rw [hV, hq]; exact heap_alloc_new wr _
          have HYV : Hid (V.heap[B0]? = some (.cells ZP 24 (0, 0))) := (hbV.block B0 hB0w).trans HY.out
          have HBV : Hid (Below B0 w V) := HB.out.trans (Joins.below_le hbV (by omega))
          have hqV : q < V.heap.size := (Array.getElem?_eq_some_iff.1 HQV.out).1
          have hBq : B0 < q := by omega
          have HOV : Hid (OUT V q B0 (altsL L 0) 0 0) := ⟨none, 0, [], HQV.out, GR.none _ _⟩
          clear hbV HY HB HQV hB0w
          go_upto_region 15 with fail
          rw [← hV, ← hq]
          clear hV hq b1 b4 b5 a1
          go_wp2_with fail
          go_loopw [8, 9] (fun u y wq => ∃ j : Nat, u = .int .i64 (ahead L j : Int) ∧ y = .int .i64 (j : Int) ∧ j ≤ i - 1 ∧ Hid (OUT wq q B0 (altsL L j) 0 0) ∧ Hid (wq.heap[B0]? = some (.cells ZP 24 (0, 0))) ∧ Hid (Below B0 w wq) ∧ q < wq.heap.size) (fun _ y _ => i - 1 - (intOf y).toNat)
          case atStart => exact ⟨0, rfl, rfl, by omega, HOV.out, HYV.out, HBV.out, hqV⟩
          case round =>
            clear HOV HYV HBV hqV
            obtain ⟨j, rfl, rfl, hj, HO, HY, HB, hqw⟩ := hrel
            have a1 : IntKind.i64.wrap ((i : Int) - 1) = ((i - 1 : Nat) : Int) := by rw [wrap_ok _ (by omega) (by omega)]; omega
            by_cases hjl : j < i - 1
            · have b1 : decide ((j : Int) < ((i - 1 : Nat) : Int)) = true := by simp; omega
              have hcs := HCS.out
              obtain ⟨hP3, hPI, hPN⟩ := hcs j (by omega)
              obtain ⟨hP3', _, _⟩ := hcs (j + 1) (by omega)
              obtain ⟨m0, m1, m2⟩ := hP3.kept (HB.out.block b hbl)
              obtain ⟨_, m4, _⟩ := hP3'.kept (HB.out.block b hbl)
              have hiL : j < L.length := by have := HL.out; omega
              have hsu := ahead_succ L j hiL
              have hlen := hPI.len
              have hLn : L.length ≤ 100 := by have := HL.out; omega
              have hal := ahead_le j (by omega) hLn (fun k hk => HMA.out k (by omega))
              have hal1 := ahead_le (j + 1) (by omega) hLn (fun k hk => HMA.out k (by omega))
              have hm0 := may_ok (HMA.out j hiL)
              have hm1 := may_ok (HMA.out (j + 1) (by have := HL.out; omega))
              have e0 : entry L j = (ahead L j : Int) + (L.getD j default).s := rfl
              have e1 : entry L (j + 1) = (ahead L (j + 1) : Int) + (L.getD (j + 1) default).s := rfl
              clear hcs hP3 hP3' hPI
              obtain ⟨pa, hpa⟩ : ∃ pa, pa = PA j := ⟨_, rfl⟩
              obtain ⟨pn, hpn⟩ : ∃ pn, pn = PN j := ⟨_, rfl⟩
              obtain ⟨pc, hpc⟩ : ∃ pc, pc = PC j := ⟨_, rfl⟩
              rw [← hpa, ← hpn, ← hpc] at m0
              rw [← hpn] at hlen
              obtain ⟨s1, hs1⟩ : ∃ s1, s1 = (L.getD j default).s := ⟨_, rfl⟩
              obtain ⟨s2, hs2⟩ : ∃ s2, s2 = (L.getD (j + 1) default).s := ⟨_, rfl⟩
              rw [← hs1] at m1 e0 hm0
              rw [← hs2] at m4 e1 hm1
              obtain ⟨kk, hkk⟩ : ∃ kk, kk = (L.getD j default).k := ⟨_, rfl⟩
              rw [← hkk] at m2
              have a2 : IntKind.i64.wrap ((ahead L j : Int) + s1) = entry L j := by rw [e0]; exact wrap_ok _ (by omega) (by omega)
              have a3 : IntKind.i64.wrap ((ahead L j : Int) + (pn : Int)) = (ahead L (j + 1) : Int) := by rw [hsu, ← hlen, wrap_ok _ (by omega) (by omega)]; push_cast; rfl
              have a4 : IntKind.i64.wrap ((ahead L (j + 1) : Int) + s2) = entry L (j + 1) := by rw [e1]; exact wrap_ok _ (by omega) (by omega)
              have a5 := wrap_ok ((j : Int) + 1) (by omega) (by omega)
              have a6 : IntKind.i64.wrap ((i : Int) - 2) = ((i - 2 : Nat) : Int) := by rw [wrap_ok _ (by omega) (by omega)]; omega
              have b2 : (j : Int) < (i : Int) := by omega
              have b3 : (j : Int) + 1 < (i : Int) := by omega
              have b6 : (0 : Int) ≤ (j : Int) + 1 := by omega
              have hbw : b < wr.heap.size := by omega
              have m5 : wr.cell? ⟨b, o + (j + 1) * 3 + 1, none⟩ = some (.int .i64 s2) := m4
              have n1 : ((j : Int) + 1).toNat = j + 1 := by omega
              clear hpa hpn hpc hPN hs1 hs2 hkk e0 e1 hal hal1 hm0 hm1 hsu hlen
              obtain ⟨p, hp⟩ : ∃ p, p = wr.heap.size := ⟨_, rfl⟩
              by_cases hlast : j + 2 = i
              · have b4 : ((j : Int) == ((i - 2 : Nat) : Int)) = true := by simp; omega
                have hI : altI L j = ⟨2, entry L j, entry L (j + 1), 0, []⟩ := by unfold altI; rw [if_pos (by have := HL.out; omega)]
                obtain ⟨V, hV⟩ : ∃ V, V = wr.alloc (.cells #[.int .i64 2, .int .i64 (entry L j), .int .i64 (entry L (j + 1)), .int .i64 0, .slice none 0 0] 51) := ⟨_, rfl⟩
                have VK : Below wr.heap.size wr V := by rw [hV]; exact Joins.below_alloc1 wr _
                have hX : V.heap[p]? = some (.cells #[.int .i64 2, .int .i64 (entry L j), .int .i64 (entry L (j + 1)), .int .i64 0, .slice none 0 0] 51 (0, 0)) := by rw [hV, hp]; exact heap_alloc_new wr _
                have HI := hid hI
                clear hI
                go_upto_region 22 with fail
                rw [← hV, ← hp]
                have HPE := hid hp
                clear hV hp m0 m1 m2 m4 m5
                obtain ⟨d0, d1, d2, d3, d4⟩ := five hX
                clear hX
                have hVs := VK.size
                obtain ⟨z1, cz, MS, hQw, hGw⟩ := HO.out
                rw [altsL_len] at hQw hGw
                have hrow := hGw.row
                rw [altsL_len] at hrow
                have hzq := own_ne hrow hQw (by decide)
                have hVq := (VK.block q hqw).trans hQw
                have q0 := Joins.cell_of_block hVq 0
                have HO6 : Hid ((V.alloc (.cells #[.int .i64 2, .int .i64 (entry L j), .int .i64 (entry L (j + 1)), .int .i64 0, .slice none 0 0] 51)).ownsRow B0 51 5 (.slice z1 (j) cz) (j) (MS.flatMap Iv.cs)) := (row_kept hrow (fun b hb => VK.block b (hrow.lt b hb).2)).alloc _
                have HL6 : Hid ((V.alloc (.cells #[.int .i64 2, .int .i64 (entry L j), .int .i64 (entry L (j + 1)), .int .i64 0, .slice none 0 0] 51)).ownsRow 0 51 5 (.slice (some ⟨V.heap.size, 0, none⟩) 1 1) 1 (Iv.cs ⟨2, entry L j, entry L (j + 1), 0, none, 0, 0⟩)) := World.ownsRow_lit (base := 0) (e := 51) (size := 5) V #[.int .i64 2, .int .i64 (entry L j), .int .i64 (entry L (j + 1)), .int .i64 0, .slice none 0 0] 1 (Nat.zero_le _) (by unfold maxLen; omega) rfl
                have hqV := (Array.getElem?_eq_some_iff.1 hVq).1
                have HVQ := hid hVq
                have HQW := hid hQw
                have HGW := hid hGw
                have HROW := hid hrow
                have HVK := hid VK
                have hBV : B0 ≤ V.heap.size := by omega
                have hB0V : B0 ≤ (V.alloc (.cells #[.int .i64 2, .int .i64 (entry L j), .int .i64 (entry L (j + 1)), .int .i64 0, .slice none 0 0] 51)).heap.size := by (try simp) <;> omega
                clear hVq hQw hGw hrow VK HO
                go_wp2_with (at_builtin; refine wpList_append_row rfl (.tmp 97) (.tmp 99) 22 rfl B0 51 i2 Z5 5 56 Try.underlying22 hi2 hz20 hz21 hz22 rfl (by decide) (.slice z1 (j) cz) (j) (MS.flatMap Iv.cs) rfl HO6.out (.slice (some ⟨V.heap.size, 0, none⟩) 1 1) 1 0 (Iv.cs ⟨2, entry L j, entry L (j + 1), 0, none, 0, 0⟩) rfl HL6.out (by intro h; omega) (one5 _) (by unfold maxLen; omega) (by omega) hB0V ?_; intro v7 w7 ho7 hf7 hn7; obtain ⟨y1, y3, rfl, hy3⟩ := row_shape ho7.out; have hq7 := (hf7.out.block q (by (try simp) <;> omega) hzq).trans ((heap_alloc_old _ _ hqV).trans HVQ.out); have f7 := Joins.unfrozen_of_block hq7 0; have k7 := Joins.cell_of_block hq7 0; clear hy3 hn7 hq7)
                obtain ⟨hO2, hkE⟩ := OUT.push (V := V) (V' := V.alloc (.cells #[.int .i64 2, .int .i64 (entry L j), .int .i64 (entry L (j + 1)), .int .i64 0, .slice none 0 0] 51)) (M := ⟨2, entry L j, entry L (j + 1), 0, none, 0, 0⟩) (I := ⟨2, entry L j, entry L (j + 1), 0, []⟩) HQW.out HGW.out (altsL_len L j).symm (by omega) HVK.out.size HVK.out.block rfl rfl rfl rfl rfl (by show 0 * 16 ≤ _; omega) (World.ownsRow_nil _ _ _ _) (by simp) (fun b hb => heap_alloc_old _ _ hb) hf7.out ho7.out
                have hbE : Below B0 w (w7.setCell ⟨q, 0, none⟩ (.slice y1 (j + 1) y3)) := by
                  refine ⟨hf7.out.os.trans (HVK.out.os.trans HB.out.os), hf7.out.tape.trans (HVK.out.tape.trans HB.out.tape), hf7.out.output.trans (HVK.out.output.trans HB.out.output), ?_, fun b hb => (hkE b (by omega) (by omega) (fun h => by have := (HROW.out.lt b h).1; omega)).trans (HB.out.block b hb)⟩
                  have h1 := hf7.out.size
                  have h2 := HVK.out.size
                  have h3 := HB.out.size
                  simp [World.setCell] at h1 ⊢
                  omega
                have hYE := (hkE B0 (by omega) (by omega) (own_ne HROW.out HY.out (by decide))).trans HY.out
                have hqE : q < (w7.setCell ⟨q, 0, none⟩ (.slice y1 (j + 1) y3)).heap.size := by
                  have h1 := hf7.out.size
                  simp [World.setCell] at h1 ⊢
                  omega
                rw [← HI.out, ← altsL_succ] at hO2
                exact ⟨⟨j + 1, rfl, by push_cast; rfl, by omega, hO2, hYE, hbE, hqE⟩, by simp [intOf]; omega⟩
              · have b4 : ((j : Int) == ((i - 2 : Nat) : Int)) = false := by simp; omega
                have b5 : ¬ (j : Int) = ((i - 2 : Nat) : Int) := by omega
                have hI : altI L j = ⟨2, entry L j, (j : Int) + 1, 0, []⟩ := by unfold altI; rw [if_neg (by have := HL.out; omega)]
                obtain ⟨V, hV⟩ : ∃ V, V = wr.alloc (.cells #[.int .i64 2, .int .i64 (entry L j), .int .i64 ((j : Int) + 1), .int .i64 0, .slice none 0 0] 51) := ⟨_, rfl⟩
                have VK : Below wr.heap.size wr V := by rw [hV]; exact Joins.below_alloc1 wr _
                have hX : V.heap[p]? = some (.cells #[.int .i64 2, .int .i64 (entry L j), .int .i64 ((j : Int) + 1), .int .i64 0, .slice none 0 0] 51 (0, 0)) := by rw [hV, hp]; exact heap_alloc_new wr _
                have HI := hid hI
                clear hI
                go_upto_region 22 with fail
                rw [← hV, ← hp]
                have HPE := hid hp
                clear hV hp m0 m1 m2 m4 m5
                obtain ⟨d0, d1, d2, d3, d4⟩ := five hX
                clear hX
                have hVs := VK.size
                obtain ⟨z1, cz, MS, hQw, hGw⟩ := HO.out
                rw [altsL_len] at hQw hGw
                have hrow := hGw.row
                rw [altsL_len] at hrow
                have hzq := own_ne hrow hQw (by decide)
                have hVq := (VK.block q hqw).trans hQw
                have q0 := Joins.cell_of_block hVq 0
                have HO6 : Hid ((V.alloc (.cells #[.int .i64 2, .int .i64 (entry L j), .int .i64 ((j : Int) + 1), .int .i64 0, .slice none 0 0] 51)).ownsRow B0 51 5 (.slice z1 (j) cz) (j) (MS.flatMap Iv.cs)) := (row_kept hrow (fun b hb => VK.block b (hrow.lt b hb).2)).alloc _
                have HL6 : Hid ((V.alloc (.cells #[.int .i64 2, .int .i64 (entry L j), .int .i64 ((j : Int) + 1), .int .i64 0, .slice none 0 0] 51)).ownsRow 0 51 5 (.slice (some ⟨V.heap.size, 0, none⟩) 1 1) 1 (Iv.cs ⟨2, entry L j, (j : Int) + 1, 0, none, 0, 0⟩)) := World.ownsRow_lit (base := 0) (e := 51) (size := 5) V #[.int .i64 2, .int .i64 (entry L j), .int .i64 ((j : Int) + 1), .int .i64 0, .slice none 0 0] 1 (Nat.zero_le _) (by unfold maxLen; omega) rfl
                have hqV := (Array.getElem?_eq_some_iff.1 hVq).1
                have HVQ := hid hVq
                have HQW := hid hQw
                have HGW := hid hGw
                have HROW := hid hrow
                have HVK := hid VK
                have hBV : B0 ≤ V.heap.size := by omega
                have hB0V : B0 ≤ (V.alloc (.cells #[.int .i64 2, .int .i64 (entry L j), .int .i64 ((j : Int) + 1), .int .i64 0, .slice none 0 0] 51)).heap.size := by (try simp) <;> omega
                clear hVq hQw hGw hrow VK HO
                go_wp2_with (at_builtin; refine wpList_append_row rfl (.tmp 97) (.tmp 99) 22 rfl B0 51 i2 Z5 5 56 Try.underlying22 hi2 hz20 hz21 hz22 rfl (by decide) (.slice z1 (j) cz) (j) (MS.flatMap Iv.cs) rfl HO6.out (.slice (some ⟨V.heap.size, 0, none⟩) 1 1) 1 0 (Iv.cs ⟨2, entry L j, (j : Int) + 1, 0, none, 0, 0⟩) rfl HL6.out (by intro h; omega) (one5 _) (by unfold maxLen; omega) (by omega) hB0V ?_; intro v7 w7 ho7 hf7 hn7; obtain ⟨y1, y3, rfl, hy3⟩ := row_shape ho7.out; have hq7 := (hf7.out.block q (by (try simp) <;> omega) hzq).trans ((heap_alloc_old _ _ hqV).trans HVQ.out); have f7 := Joins.unfrozen_of_block hq7 0; have k7 := Joins.cell_of_block hq7 0; clear hy3 hn7 hq7)
                obtain ⟨hO2, hkE⟩ := OUT.push (V := V) (V' := V.alloc (.cells #[.int .i64 2, .int .i64 (entry L j), .int .i64 ((j : Int) + 1), .int .i64 0, .slice none 0 0] 51)) (M := ⟨2, entry L j, (j : Int) + 1, 0, none, 0, 0⟩) (I := ⟨2, entry L j, (j : Int) + 1, 0, []⟩) HQW.out HGW.out (altsL_len L j).symm (by omega) HVK.out.size HVK.out.block rfl rfl rfl rfl rfl (by show 0 * 16 ≤ _; omega) (World.ownsRow_nil _ _ _ _) (by simp) (fun b hb => heap_alloc_old _ _ hb) hf7.out ho7.out
                have hbE : Below B0 w (w7.setCell ⟨q, 0, none⟩ (.slice y1 (j + 1) y3)) := by
                  refine ⟨hf7.out.os.trans (HVK.out.os.trans HB.out.os), hf7.out.tape.trans (HVK.out.tape.trans HB.out.tape), hf7.out.output.trans (HVK.out.output.trans HB.out.output), ?_, fun b hb => (hkE b (by omega) (by omega) (fun h => by have := (HROW.out.lt b h).1; omega)).trans (HB.out.block b hb)⟩
                  have h1 := hf7.out.size
                  have h2 := HVK.out.size
                  have h3 := HB.out.size
                  simp [World.setCell] at h1 ⊢
                  omega
                have hYE := (hkE B0 (by omega) (by omega) (own_ne HROW.out HY.out (by decide))).trans HY.out
                have hqE : q < (w7.setCell ⟨q, 0, none⟩ (.slice y1 (j + 1) y3)).heap.size := by
                  have h1 := hf7.out.size
                  simp [World.setCell] at h1 ⊢
                  omega
                rw [← HI.out, ← altsL_succ] at hO2
                exact ⟨⟨j + 1, rfl, by push_cast; rfl, by omega, hO2, hYE, hbE, hqE⟩, by simp [intOf]; omega⟩
            · have b1 : decide ((j : Int) < ((i - 1 : Nat) : Int)) = false := by simp; omega
              obtain rfl : j = i - 1 := by omega
              have hLi : L.length - 1 = i - 1 := by have := HL.out; omega
              have HLI := hid hLi
              clear hLi
              obtain ⟨z1, cz, MS, hQw, hGw⟩ := HO.out
              have f1 := Joins.unfrozen_of_block hQw 1
              have k1 := Joins.cell_of_block hQw 1
              clear hQw hGw
              clear hj hjl
              by_cases hone : i = 1
              · have b4 : ((i : Int) == 1) = true := by simp; omega
                obtain ⟨_, m1, _⟩ := (HCS.out 0 (by omega)).1.kept (HB.out.block b hbl)
                have hst : (L.getD 0 default).s = joinS L := by unfold joinS; rw [if_pos (by have := HL.out; omega)]
                rw [hst, Nat.zero_mul, Nat.add_zero] at m1
                have b5 : (0 : Int) < (i : Int) := by omega
                obtain ⟨V, hV⟩ : ∃ V, V = wr.setCell ⟨q, 1, none⟩ (.int .i64 (joinS L)) := ⟨_, rfl⟩
                have HOV : Hid (OUT V q B0 (altsL L (i - 1) ++ movedL L 0) (joinS L) (capsTo L 0)) := by
                  rw [hV, show altsL L (i - 1) ++ movedL L 0 = altsL L (i - 1) by simp [movedL]]
                  exact HO.out.start _
                have HYV : Hid (V.heap[B0]? = some (.cells ZP 24 (0, 0))) := by rw [hV]; exact (Below.heap_setCell _ _ _ _ (by show B0 ≠ q; omega)).trans HY.out
                have HBV : Hid (Below B0 w V) := by rw [hV]; exact HB.out.setCell (p := ⟨q, 1, none⟩) (by show B0 ≤ q; omega) _
                have hqV : q < V.heap.size := by rw [hV]; simpa [World.setCell] using hqw
                clear HO HY HB hqw hst hone
                go_upto_region 25 with fail
                rw [← hV]
                clear hV m1 f1 k1 b1 b4 b5 a1
                go_wp2_with fail
                go_loopw [11] (fun y wq => ∃ k : Nat, y = .int .i64 (k : Int) ∧ k ≤ i ∧ Hid (OUT wq q B0 (altsL L (i - 1) ++ movedL L k) (joinS L) (capsTo L k)) ∧ Hid (wq.heap[B0]? = some (.cells ZP 24 (0, 0))) ∧ Hid (Below B0 w wq) ∧ q < wq.heap.size) (fun y _ => i - (intOf y).toNat)
                case atStart => exact ⟨0, rfl, by omega, HOV.out, HYV.out, HBV.out, hqV⟩
                case round =>
                  clear HOV HYV HBV hqV
                  obtain ⟨k, rfl, hk, HO, HY, HB, hqw⟩ := hrel
                  by_cases hkl : k < i
                  · have b1 : decide ((k : Int) < (i : Int)) = true := by simp; omega
                    have b2 : (k : Int) < (i : Int) := by omega
                    have ad1 := wrap_ok ((k : Int) + 1) (by omega) (by omega)
                    have hkL : k < L.length := by have := HL.out; omega
                    obtain ⟨hP3, hPI, hPN⟩ := HCS.out k hkl
                    obtain ⟨m0, m1, m2⟩ := hP3.kept (HB.out.block b hbl)
                    have hmay := HMA.out k hkL
                    have hsu := ahead_succ L k hkL
                    have hmo := ahead_mono L L.length (k + 1) (by omega) (Nat.le_refl _)
                    have hlen := hPI.len
                    have hgl := grown_len L k (by omega)
                    rw [HLI.out] at hgl
                    obtain ⟨pa, hpa⟩ : ∃ pa, pa = PA k := ⟨_, rfl⟩
                    obtain ⟨pn, hpn⟩ : ∃ pn, pn = PN k := ⟨_, rfl⟩
                    obtain ⟨pc, hpc⟩ : ∃ pc, pc = PC k := ⟨_, rfl⟩
                    rw [← hpa, ← hpn, ← hpc] at m0 hP3
                    rw [← hpa, ← hpn] at hPI
                    rw [← hpn] at hlen
                    clear hpa hpn hpc hPN
                    obtain ⟨P, hP⟩ : ∃ P, P = L.getD k default := ⟨_, rfl⟩
                    rw [← hP] at m1 m2 hPI hmay hsu hlen hP3
                    have HP := hid hP
                    have HSU := hid hsu
                    have HPI := hid hPI
                    have HP3 := hid hP3
                    have HLEN := hid hlen
                    have HMAY := hid (may_ok hmay)
                    have hpn20 : pn ≤ 20000 := by have := HMAY.out.1; omega
                    have hNn : ahead L k + pn ≤ 20000 := by have := HNN.out; omega
                    obtain ⟨NK, hNK⟩ : ∃ NK, NK = ahead L k := ⟨_, rfl⟩
                    have HNK := hid hNK
                    obtain ⟨z1, cz, MS, hQw, hGw⟩ := HO.out
                    rw [hgl] at hQw
                    obtain ⟨q0, q1, q2⟩ := three_cells hQw
                    rw [← hNK] at q0 hNn
                    have f2 := Joins.unfrozen_of_block hQw 2
                    have hcap : capsTo L (k + 1) = max (capsTo L k) P.k := by rw [HP.out]; rfl
                    have hbw : b < wr.heap.size := by omega
                    obtain ⟨V, hV⟩ : ∃ V, V = (wr.setCell ⟨q, 2, none⟩ (.int .i64 (max (capsTo L k) P.k))).drew := ⟨_, rfl⟩
                    have HOV : Hid (OUT V q B0 (altsL L (i - 1) ++ movedL L k ++ (P.l.take 0).map (mvI NK k)) (joinS L) (capsTo L (k + 1))) := by
                      rw [hV, hcap, show altsL L (i - 1) ++ movedL L k ++ (P.l.take 0).map (mvI NK k) = altsL L (i - 1) ++ movedL L k by simp]
                      exact (HO.out.set _).drew
                    have HYV : Hid (V.heap[B0]? = some (.cells ZP 24 (0, 0))) := by rw [hV]; exact (Below.heap_setCell _ _ _ _ (by show B0 ≠ q; omega)).trans HY.out
                    have HBV : Hid (Below B0 w V) := by rw [hV]; exact (HB.out.setCell (p := ⟨q, 2, none⟩) (by show B0 ≤ q; omega) _).drew
                    have hqV : q < V.heap.size := by rw [hV]; simpa [World.setCell] using hqw
                    have HGL := hid hgl
                    clear HO HY HB hqw hQw hGw hP hsu hPI hP3 hlen hmay hmo hgl hNK hcap
                    go_upto_region 29 with fail
                    refine wp_region_lex 9 9 (fun W => W.cell? ⟨q, 2, none⟩ = some (.int .i64 (capsTo L k)) ∧ W.cell? ⟨b, o + k * 3 + 2, none⟩ = some (.int .i64 P.k)) (by kernel_rfl) (by kernel_rfl) (by decide) (by kernel_rfl) (by kernel_rfl) ⟨q2, m2⟩ ?_
                    simp only [List.take_succ_cons, List.take_zero, List.drop_succ_cons, List.drop_zero]
                    iterate 9
                      refine lex_cons ?_ rfl (fun W hW => ?_) (fun _ _ _ h => h) ?_
                      rotate_left
                      · obtain ⟨s0, s1⟩ := hW
                        go_simp <;> with_reducible rfl
                      simp only [Act.put, List.setIfInBounds_toArray, List.set_cons_zero, List.set_cons_succ]
                    refine lex_nil (tail_cons fun K hK => ?_)
                    go_simp
                    refine hK.out _ _ (fun h => absurd rfl h) (tail_nil ?_)
                    rw [← hV]
                    clear hV f2 q0 q1 q2 m0 m1 m2
                    go_wp2_with fail
                    go_loopw [13] (fun y wq => ∃ r : Nat, y = .int .i64 (r : Int) ∧ r ≤ pn ∧ Hid (OUT wq q B0 (altsL L (i - 1) ++ movedL L k ++ (P.l.take r).map (mvI NK k)) (joinS L) (capsTo L (k + 1))) ∧ Hid (wq.heap[B0]? = some (.cells ZP 24 (0, 0))) ∧ Hid (Below B0 w wq) ∧ q < wq.heap.size) (fun y _ => pn - (intOf y).toNat)
                    case atStart => exact ⟨0, rfl, by omega, HOV.out, HYV.out, HBV.out, hqV⟩
                    case round =>
                      clear HOV HYV HBV hqV
                      obtain ⟨r, rfl, hr, HO, HY, HB, hqw⟩ := hrel
                      obtain ⟨m0, m1, m2⟩ := HP3.out.kept (HB.out.block b hbl)
                      have hbw2 : b < wr.heap.size := by omega
                      by_cases hrl : r < pn
                      · have b3 : decide ((r : Int) < (pn : Int)) = true := by simp; omega
                        have b4 : (r : Int) < (pn : Int) := by omega
                        have ad2 := wrap_ok ((r : Int) + 1) (by omega) (by omega)
                        have hrt : r < P.l.length := by have := HLEN.out; omega
                        obtain ⟨g, og, ND, e, hg, hcs⟩ := HPI.out.mem (by omega)
                        subst e
                        have lg' : g < wr.heap.size := by omega
                        obtain ⟨n0, n1, n2, n3, n4⟩ := (hcs r hrt).1.kept (HB.out.block g hg)
                        have hI := (hcs r hrt).2.kept HB.out (B' := wr.heap.size) (by omega)
                        have hok := HMAY.out.2.2.2.2.2 P.l[r] (List.getElem_mem hrt)
                        have hw4 := ways2 hok
                        have hxy := ok_x hok
                        have hll := HMAY.out.1
                        obtain ⟨M, hM⟩ : ∃ M, M = ND r := ⟨_, rfl⟩
                        rw [← hM] at n0 n1 n2 n3 n4 hI
                        clear hM hcs
                        obtain ⟨op, xx, yy, aa, r1, r2, r3⟩ := M
                        dsimp only at n0 n1 n2 n3 n4
                        have e1 := hI.op
                        have e2 := hI.x
                        have e3 := hI.y
                        have e4 := hI.a
                        have hsm : r2 * 16 ≤ 140737488351232 := hI.sm
                        have hlen : r2 = P.l[r].R.length := hI.len
                        dsimp only at e1 e2 e3 e4
                        rw [← e1] at hw4
                        rw [← e2, ← e3] at hxy
                        have sx : IntKind.i64.wrap (xx + (NK : Int)) = xx + (NK : Int) := wrap_ok _ (by omega) (by omega)
                        have sy : IntKind.i64.wrap (yy + (NK : Int)) = yy + (NK : Int) := wrap_ok _ (by omega) (by omega)
                        have HI := hid hI
                        have HRL := hid hlen
                        have HE := hid (And.intro e1 (And.intro e2 (And.intro e3 e4)))
                        clear hI hlen e1 e2 e3 e4 hxy hok hll
                        obtain ⟨p, hp⟩ : ∃ p, p = wr.heap.size := ⟨_, rfl⟩
                        rcases hw4 with ⟨f1, f2, f3, f4, f5, f6⟩ | ⟨f1, f2, f3, f4, f5, f6⟩ | ⟨f1, f2, f3, f4, f5, f6⟩ | ⟨f1, f2, f3, f4, f5, f6⟩
                        · obtain ⟨V1, hV1⟩ : ∃ V, V = wr.alloc (.cells #[.int .i64 op, .int .i64 (xx + (NK : Int)), .int .i64 yy, .int .i64 aa, .slice r1 r2 r3] 51) := ⟨_, rfl⟩
                          have hQF : V1.heap[p]? = some (.cells #[.int .i64 op, .int .i64 (xx + (NK : Int)), .int .i64 yy, .int .i64 aa, .slice r1 r2 r3] 51 (0, 0)) := by rw [hV1, hp]; exact heap_alloc_new wr _
                          have hbF : Below wr.heap.size wr V1 := by rw [hV1]; exact Joins.below_alloc1 wr _
                          have hmv : (⟨op, (xx + (NK : Int)), yy, aa, P.l[r].R⟩ : In) = mvI NK k P.l[r] := by
                            obtain ⟨e1, e2, e3, e4⟩ := HE.out
                            have g5 := f3
                            simp only [beq_iff_eq, beq_eq_false_iff_ne] at g5
                            unfold mvI
                            rw [← e1, ← e2, ← e3, ← e4, f1, f2]
                            first | (rw [if_pos g5]; simp; done) | (rw [if_neg g5]; simp; done)
                          have HMV := hid hmv
                          clear hmv
                          go_upto_region 40 with fail
                          rw [← hp, ← hV1]
                          clear hV1 f1 f2 f3 f4 f5 f6
                          have hpl : p < V1.heap.size := (Array.getElem?_eq_some_iff.1 hQF).1
                          have HPE := hid hp
                          have HQ1 := hid hQF
                          have HBV1 := hid hbF
                          have HIV := hid (HI.out.kept HBV1.out HBV1.out.size)
                          have HSR : Hid (0 < r2 → ∃ b f, r1 = some ⟨b, f, none⟩ ∧ ∀ j u, (O2 P.l[r].R)[j]? = some u → V1.cell? ⟨b, f + j, none⟩ = some u) := fun hp => HIV.out.row.src hp HRL.out
                          have HO2 : Hid ((O2 P.l[r].R).length = r2 * 2) := (O2_len _).trans (by rw [HRL.out])
                          obtain ⟨d0, d1, d2, d3, d4⟩ := five hQF
                          clear hp hQF hbF n0 n1 n2 n3 n4 HI
                          go_upto_region 42 with (at_builtin; refine wpList_append_nil rfl (.tmp 172) (.tmp 174) 36 rfl 49 i5 (.agg #[.int .i64 0, .int .i64 0]) 2 16 Try.underlying36 hi5 hz50 hz51 hz52 rfl (by decide) rfl r1 r2 r3 (O2 P.l[r].R) rfl HO2.out HSR.out (O2_one _) (by unfold maxLen; omega) (by omega) ?_; intro v4 w4 ho4 hb4 hl4; obtain ⟨c1, c3, rfl, hc3⟩ := row_shape ho4.out; clear hc3; have hQ4 := (hb4.out.block p hpl).trans HQ1.out; have f4 := Joins.unfrozen_of_block hQ4 4; have k4 := Joins.cell_of_block hQ4 4; have HQ4 := hid hQ4; clear hQ4)
                          obtain ⟨V5, hV5⟩ : ∃ V, V = w4.setCell ⟨p, 4, none⟩ (.slice c1 r2 c3) := ⟨_, rfl⟩
                          rw [← hV5]
                          have hz4 : V1.heap.size ≤ w4.heap.size := hb4.out.size
                          have hz5 : V5.heap.size = w4.heap.size := by rw [hV5]; simp [World.setCell]
                          have hQ5 : V5.heap[p]? = some (.cells #[.int .i64 op, .int .i64 (xx + (NK : Int)), .int .i64 yy, .int .i64 aa, .slice c1 r2 c3] 51 (0, 0)) := by rw [hV5]; exact Joins.block_setCell (i := 4) HQ4.out _
                          have hcne : (Value.slice c1 r2 c3).ownBlock ≠ some p := fun e => by have := (ho4.out.lt p e).1; omega
                          have hz1 : wr.heap.size ≤ V1.heap.size := HBV1.out.size
                          have HR5 : Hid (V5.ownsRow wr.heap.size 49 2 (.slice c1 r2 c3) r2 (O2 P.l[r].R)) := by rw [hV5]; exact (own_setCell ho4.out hcne).mono hz1
                          have hK5 : ∀ b, b < wr.heap.size → V5.heap[b]? = wr.heap[b]? := fun b hb => by
                            rw [hV5]
                            exact (Below.heap_setCell _ _ _ _ (fun e => by have := HPE.out; simp only at e; omega)).trans ((hb4.out.block b (by omega)).trans (HBV1.out.block b hb))
                          have V5K : Below wr.heap.size wr V5 := by
                            refine ⟨?_, ?_, ?_, by omega, hK5⟩
                            · rw [hV5]; exact hb4.out.os.trans HBV1.out.os
                            · rw [hV5]; exact hb4.out.tape.trans HBV1.out.tape
                            · rw [hV5]; exact hb4.out.output.trans HBV1.out.output
                          obtain ⟨e0, e1, e2, e3, e4⟩ := five hQ5
                          have hw5 : wr.heap.size ≤ V5.heap.size := by omega
                          have hlq : (altsL L (i - 1) ++ movedL L k ++ (P.l.take r).map (mvI NK k)).length = NK + r := by rw [List.length_append, HGL.out, ← HNK.out]; simp; omega
                          have HLQ := hid hlq
                          clear hV5 hQ5 d0 d1 d2 d3 d4 f4 k4 HQ4 hz5 hcne hK5 m0 m1 m2
                          obtain ⟨z1, cz, MS, hQw, hGw⟩ := HO.out
                          rw [hlq] at hQw hGw
                          have hrow := hGw.row
                          rw [hlq] at hrow
                          have hzq := own_ne hrow hQw (by decide)
                          have hVq := (V5K.block q hqw).trans hQw
                          have q0 := Joins.cell_of_block hVq 0
                          have HO6 : Hid ((V5.alloc (.cells #[.int .i64 op, .int .i64 (xx + (NK : Int)), .int .i64 yy, .int .i64 aa, .slice c1 r2 c3] 51)).ownsRow B0 51 5 (.slice z1 (NK + r) cz) (NK + r) (MS.flatMap Iv.cs)) := (row_kept hrow (fun b hb => V5K.block b (hrow.lt b hb).2)).alloc _
                          have HL6 : Hid ((V5.alloc (.cells #[.int .i64 op, .int .i64 (xx + (NK : Int)), .int .i64 yy, .int .i64 aa, .slice c1 r2 c3] 51)).ownsRow 0 51 5 (.slice (some ⟨V5.heap.size, 0, none⟩) 1 1) 1 (Iv.cs ⟨op, (xx + (NK : Int)), yy, aa, c1, r2, c3⟩)) := World.ownsRow_lit (base := 0) (e := 51) (size := 5) V5 #[.int .i64 op, .int .i64 (xx + (NK : Int)), .int .i64 yy, .int .i64 aa, .slice c1 r2 c3] 1 (Nat.zero_le _) (by unfold maxLen; omega) rfl
                          have hqV := (Array.getElem?_eq_some_iff.1 hVq).1
                          have HVQ := hid hVq
                          have HQW := hid hQw
                          have HGW := hid hGw
                          have HROW := hid hrow
                          have HVK := hid V5K
                          have hBV : B0 ≤ V5.heap.size := by omega
                          have hB0V : B0 ≤ (V5.alloc (.cells #[.int .i64 op, .int .i64 (xx + (NK : Int)), .int .i64 yy, .int .i64 aa, .slice c1 r2 c3] 51)).heap.size := by (try simp) <;> omega
                          clear hlq hVq hQw hGw hrow V5K HO
                          go_wp2_with (at_builtin; refine wpList_append_row rfl (.tmp 178) (.tmp 180) 22 rfl B0 51 i2 Z5 5 56 Try.underlying22 hi2 hz20 hz21 hz22 rfl (by decide) (.slice z1 (NK + r) cz) (NK + r) (MS.flatMap Iv.cs) rfl HO6.out (.slice (some ⟨V5.heap.size, 0, none⟩) 1 1) 1 0 (Iv.cs ⟨op, (xx + (NK : Int)), yy, aa, c1, r2, c3⟩) rfl HL6.out (by intro h; omega) (one5 _) (by unfold maxLen; omega) (by omega) hB0V ?_; intro v7 w7 ho7 hf7 hn7; obtain ⟨y1, y3, rfl, hy3⟩ := row_shape ho7.out; have hq7 := (hf7.out.block q (by (try simp) <;> omega) hzq).trans ((heap_alloc_old _ _ hqV).trans HVQ.out); have f7 := Joins.unfrozen_of_block hq7 0; have k7 := Joins.cell_of_block hq7 0; clear hy3 hn7 hq7)
                          obtain ⟨hO2, hkE⟩ := OUT.push (V := V5) (V' := V5.alloc (.cells #[.int .i64 op, .int .i64 (xx + (NK : Int)), .int .i64 yy, .int .i64 aa, .slice c1 r2 c3] 51)) (M := ⟨op, (xx + (NK : Int)), yy, aa, c1, r2, c3⟩) (I := ⟨op, (xx + (NK : Int)), yy, aa, P.l[r].R⟩) HQW.out HGW.out (HLQ.out).symm (by omega) HVK.out.size HVK.out.block rfl rfl rfl rfl HRL.out hsm (by rw [← HRL.out]; exact HR5.out) (by simp) (fun b hb => heap_alloc_old _ _ hb) hf7.out ho7.out
                          have hbE : Below B0 w (w7.setCell ⟨q, 0, none⟩ (.slice y1 (NK + r + 1) y3)) := by
                            refine ⟨hf7.out.os.trans (HVK.out.os.trans HB.out.os), hf7.out.tape.trans (HVK.out.tape.trans HB.out.tape), hf7.out.output.trans (HVK.out.output.trans HB.out.output), ?_, fun b hb => (hkE b (by omega) (by omega) (fun h => by have := (HROW.out.lt b h).1; omega)).trans (HB.out.block b hb)⟩
                            have h1 := hf7.out.size
                            have h2 := HVK.out.size
                            have h3 := HB.out.size
                            simp [World.setCell] at h1 ⊢
                            omega
                          have hYE := (hkE B0 (by omega) (by omega) (own_ne HROW.out HY.out (by decide))).trans HY.out
                          have hqE : q < (w7.setCell ⟨q, 0, none⟩ (.slice y1 (NK + r + 1) y3)).heap.size := by
                            have h1 := hf7.out.size
                            simp [World.setCell] at h1 ⊢
                            omega
                          rw [HMV.out, List.append_assoc, ← List.map_singleton (f := mvI (NK : Int) (k : Int)), ← List.map_append, ← List.take_succ_eq_append_getElem hrt] at hO2
                          exact ⟨⟨r + 1, by push_cast; rfl, by omega, hO2, hYE, hbE, hqE⟩, by simp [intOf]; omega⟩
                        · obtain ⟨V1, hV1⟩ : ∃ V, V = wr.alloc (.cells #[.int .i64 op, .int .i64 (xx + (NK : Int)), .int .i64 (yy + (NK : Int)), .int .i64 aa, .slice r1 r2 r3] 51) := ⟨_, rfl⟩
                          have hQF : V1.heap[p]? = some (.cells #[.int .i64 op, .int .i64 (xx + (NK : Int)), .int .i64 (yy + (NK : Int)), .int .i64 aa, .slice r1 r2 r3] 51 (0, 0)) := by rw [hV1, hp]; exact heap_alloc_new wr _
                          have hbF : Below wr.heap.size wr V1 := by rw [hV1]; exact Joins.below_alloc1 wr _
                          have hmv : (⟨op, (xx + (NK : Int)), (yy + (NK : Int)), aa, P.l[r].R⟩ : In) = mvI NK k P.l[r] := by
                            obtain ⟨e1, e2, e3, e4⟩ := HE.out
                            have g5 := f3
                            simp only [beq_iff_eq, beq_eq_false_iff_ne] at g5
                            unfold mvI
                            rw [← e1, ← e2, ← e3, ← e4, f1, f2]
                            first | (rw [if_pos g5]; simp; done) | (rw [if_neg g5]; simp; done)
                          have HMV := hid hmv
                          clear hmv
                          go_upto_region 40 with fail
                          rw [← hp, ← hV1]
                          clear hV1 f1 f2 f3 f4 f5 f6
                          have hpl : p < V1.heap.size := (Array.getElem?_eq_some_iff.1 hQF).1
                          have HPE := hid hp
                          have HQ1 := hid hQF
                          have HBV1 := hid hbF
                          have HIV := hid (HI.out.kept HBV1.out HBV1.out.size)
                          have HSR : Hid (0 < r2 → ∃ b f, r1 = some ⟨b, f, none⟩ ∧ ∀ j u, (O2 P.l[r].R)[j]? = some u → V1.cell? ⟨b, f + j, none⟩ = some u) := fun hp => HIV.out.row.src hp HRL.out
                          have HO2 : Hid ((O2 P.l[r].R).length = r2 * 2) := (O2_len _).trans (by rw [HRL.out])
                          obtain ⟨d0, d1, d2, d3, d4⟩ := five hQF
                          clear hp hQF hbF n0 n1 n2 n3 n4 HI
                          go_upto_region 42 with (at_builtin; refine wpList_append_nil rfl (.tmp 172) (.tmp 174) 36 rfl 49 i5 (.agg #[.int .i64 0, .int .i64 0]) 2 16 Try.underlying36 hi5 hz50 hz51 hz52 rfl (by decide) rfl r1 r2 r3 (O2 P.l[r].R) rfl HO2.out HSR.out (O2_one _) (by unfold maxLen; omega) (by omega) ?_; intro v4 w4 ho4 hb4 hl4; obtain ⟨c1, c3, rfl, hc3⟩ := row_shape ho4.out; clear hc3; have hQ4 := (hb4.out.block p hpl).trans HQ1.out; have f4 := Joins.unfrozen_of_block hQ4 4; have k4 := Joins.cell_of_block hQ4 4; have HQ4 := hid hQ4; clear hQ4)
                          obtain ⟨V5, hV5⟩ : ∃ V, V = w4.setCell ⟨p, 4, none⟩ (.slice c1 r2 c3) := ⟨_, rfl⟩
                          rw [← hV5]
                          have hz4 : V1.heap.size ≤ w4.heap.size := hb4.out.size
                          have hz5 : V5.heap.size = w4.heap.size := by rw [hV5]; simp [World.setCell]
                          have hQ5 : V5.heap[p]? = some (.cells #[.int .i64 op, .int .i64 (xx + (NK : Int)), .int .i64 (yy + (NK : Int)), .int .i64 aa, .slice c1 r2 c3] 51 (0, 0)) := by rw [hV5]; exact Joins.block_setCell (i := 4) HQ4.out _
                          have hcne : (Value.slice c1 r2 c3).ownBlock ≠ some p := fun e => by have := (ho4.out.lt p e).1; omega
                          have hz1 : wr.heap.size ≤ V1.heap.size := HBV1.out.size
                          have HR5 : Hid (V5.ownsRow wr.heap.size 49 2 (.slice c1 r2 c3) r2 (O2 P.l[r].R)) := by rw [hV5]; exact (own_setCell ho4.out hcne).mono hz1
                          have hK5 : ∀ b, b < wr.heap.size → V5.heap[b]? = wr.heap[b]? := fun b hb => by
                            rw [hV5]
                            exact (Below.heap_setCell _ _ _ _ (fun e => by have := HPE.out; simp only at e; omega)).trans ((hb4.out.block b (by omega)).trans (HBV1.out.block b hb))
                          have V5K : Below wr.heap.size wr V5 := by
                            refine ⟨?_, ?_, ?_, by omega, hK5⟩
                            · rw [hV5]; exact hb4.out.os.trans HBV1.out.os
                            · rw [hV5]; exact hb4.out.tape.trans HBV1.out.tape
                            · rw [hV5]; exact hb4.out.output.trans HBV1.out.output
                          obtain ⟨e0, e1, e2, e3, e4⟩ := five hQ5
                          have hw5 : wr.heap.size ≤ V5.heap.size := by omega
                          have hlq : (altsL L (i - 1) ++ movedL L k ++ (P.l.take r).map (mvI NK k)).length = NK + r := by rw [List.length_append, HGL.out, ← HNK.out]; simp; omega
                          have HLQ := hid hlq
                          clear hV5 hQ5 d0 d1 d2 d3 d4 f4 k4 HQ4 hz5 hcne hK5 m0 m1 m2
                          obtain ⟨z1, cz, MS, hQw, hGw⟩ := HO.out
                          rw [hlq] at hQw hGw
                          have hrow := hGw.row
                          rw [hlq] at hrow
                          have hzq := own_ne hrow hQw (by decide)
                          have hVq := (V5K.block q hqw).trans hQw
                          have q0 := Joins.cell_of_block hVq 0
                          have HO6 : Hid ((V5.alloc (.cells #[.int .i64 op, .int .i64 (xx + (NK : Int)), .int .i64 (yy + (NK : Int)), .int .i64 aa, .slice c1 r2 c3] 51)).ownsRow B0 51 5 (.slice z1 (NK + r) cz) (NK + r) (MS.flatMap Iv.cs)) := (row_kept hrow (fun b hb => V5K.block b (hrow.lt b hb).2)).alloc _
                          have HL6 : Hid ((V5.alloc (.cells #[.int .i64 op, .int .i64 (xx + (NK : Int)), .int .i64 (yy + (NK : Int)), .int .i64 aa, .slice c1 r2 c3] 51)).ownsRow 0 51 5 (.slice (some ⟨V5.heap.size, 0, none⟩) 1 1) 1 (Iv.cs ⟨op, (xx + (NK : Int)), (yy + (NK : Int)), aa, c1, r2, c3⟩)) := World.ownsRow_lit (base := 0) (e := 51) (size := 5) V5 #[.int .i64 op, .int .i64 (xx + (NK : Int)), .int .i64 (yy + (NK : Int)), .int .i64 aa, .slice c1 r2 c3] 1 (Nat.zero_le _) (by unfold maxLen; omega) rfl
                          have hqV := (Array.getElem?_eq_some_iff.1 hVq).1
                          have HVQ := hid hVq
                          have HQW := hid hQw
                          have HGW := hid hGw
                          have HROW := hid hrow
                          have HVK := hid V5K
                          have hBV : B0 ≤ V5.heap.size := by omega
                          have hB0V : B0 ≤ (V5.alloc (.cells #[.int .i64 op, .int .i64 (xx + (NK : Int)), .int .i64 (yy + (NK : Int)), .int .i64 aa, .slice c1 r2 c3] 51)).heap.size := by (try simp) <;> omega
                          clear hlq hVq hQw hGw hrow V5K HO
                          go_wp2_with (at_builtin; refine wpList_append_row rfl (.tmp 178) (.tmp 180) 22 rfl B0 51 i2 Z5 5 56 Try.underlying22 hi2 hz20 hz21 hz22 rfl (by decide) (.slice z1 (NK + r) cz) (NK + r) (MS.flatMap Iv.cs) rfl HO6.out (.slice (some ⟨V5.heap.size, 0, none⟩) 1 1) 1 0 (Iv.cs ⟨op, (xx + (NK : Int)), (yy + (NK : Int)), aa, c1, r2, c3⟩) rfl HL6.out (by intro h; omega) (one5 _) (by unfold maxLen; omega) (by omega) hB0V ?_; intro v7 w7 ho7 hf7 hn7; obtain ⟨y1, y3, rfl, hy3⟩ := row_shape ho7.out; have hq7 := (hf7.out.block q (by (try simp) <;> omega) hzq).trans ((heap_alloc_old _ _ hqV).trans HVQ.out); have f7 := Joins.unfrozen_of_block hq7 0; have k7 := Joins.cell_of_block hq7 0; clear hy3 hn7 hq7)
                          obtain ⟨hO2, hkE⟩ := OUT.push (V := V5) (V' := V5.alloc (.cells #[.int .i64 op, .int .i64 (xx + (NK : Int)), .int .i64 (yy + (NK : Int)), .int .i64 aa, .slice c1 r2 c3] 51)) (M := ⟨op, (xx + (NK : Int)), (yy + (NK : Int)), aa, c1, r2, c3⟩) (I := ⟨op, (xx + (NK : Int)), (yy + (NK : Int)), aa, P.l[r].R⟩) HQW.out HGW.out (HLQ.out).symm (by omega) HVK.out.size HVK.out.block rfl rfl rfl rfl HRL.out hsm (by rw [← HRL.out]; exact HR5.out) (by simp) (fun b hb => heap_alloc_old _ _ hb) hf7.out ho7.out
                          have hbE : Below B0 w (w7.setCell ⟨q, 0, none⟩ (.slice y1 (NK + r + 1) y3)) := by
                            refine ⟨hf7.out.os.trans (HVK.out.os.trans HB.out.os), hf7.out.tape.trans (HVK.out.tape.trans HB.out.tape), hf7.out.output.trans (HVK.out.output.trans HB.out.output), ?_, fun b hb => (hkE b (by omega) (by omega) (fun h => by have := (HROW.out.lt b h).1; omega)).trans (HB.out.block b hb)⟩
                            have h1 := hf7.out.size
                            have h2 := HVK.out.size
                            have h3 := HB.out.size
                            simp [World.setCell] at h1 ⊢
                            omega
                          have hYE := (hkE B0 (by omega) (by omega) (own_ne HROW.out HY.out (by decide))).trans HY.out
                          have hqE : q < (w7.setCell ⟨q, 0, none⟩ (.slice y1 (NK + r + 1) y3)).heap.size := by
                            have h1 := hf7.out.size
                            simp [World.setCell] at h1 ⊢
                            omega
                          rw [HMV.out, List.append_assoc, ← List.map_singleton (f := mvI (NK : Int) (k : Int)), ← List.map_append, ← List.take_succ_eq_append_getElem hrt] at hO2
                          exact ⟨⟨r + 1, by push_cast; rfl, by omega, hO2, hYE, hbE, hqE⟩, by simp [intOf]; omega⟩
                        · obtain ⟨V1, hV1⟩ : ∃ V, V = wr.alloc (.cells #[.int .i64 op, .int .i64 xx, .int .i64 yy, .int .i64 (k : Int), .slice r1 r2 r3] 51) := ⟨_, rfl⟩
                          have hQF : V1.heap[p]? = some (.cells #[.int .i64 op, .int .i64 xx, .int .i64 yy, .int .i64 (k : Int), .slice r1 r2 r3] 51 (0, 0)) := by rw [hV1, hp]; exact heap_alloc_new wr _
                          have hbF : Below wr.heap.size wr V1 := by rw [hV1]; exact Joins.below_alloc1 wr _
                          have hmv : (⟨op, xx, yy, (k : Int), P.l[r].R⟩ : In) = mvI NK k P.l[r] := by
                            obtain ⟨e1, e2, e3, e4⟩ := HE.out
                            have g5 := f3
                            simp only [beq_iff_eq, beq_eq_false_iff_ne] at g5
                            unfold mvI
                            rw [← e1, ← e2, ← e3, ← e4, f1, f2]
                            first | (rw [if_pos g5]; simp; done) | (rw [if_neg g5]; simp; done)
                          have HMV := hid hmv
                          clear hmv
                          go_upto_region 40 with fail
                          rw [← hp, ← hV1]
                          clear hV1 f1 f2 f3 f4 f5 f6
                          have hpl : p < V1.heap.size := (Array.getElem?_eq_some_iff.1 hQF).1
                          have HPE := hid hp
                          have HQ1 := hid hQF
                          have HBV1 := hid hbF
                          have HIV := hid (HI.out.kept HBV1.out HBV1.out.size)
                          have HSR : Hid (0 < r2 → ∃ b f, r1 = some ⟨b, f, none⟩ ∧ ∀ j u, (O2 P.l[r].R)[j]? = some u → V1.cell? ⟨b, f + j, none⟩ = some u) := fun hp => HIV.out.row.src hp HRL.out
                          have HO2 : Hid ((O2 P.l[r].R).length = r2 * 2) := (O2_len _).trans (by rw [HRL.out])
                          obtain ⟨d0, d1, d2, d3, d4⟩ := five hQF
                          clear hp hQF hbF n0 n1 n2 n3 n4 HI
                          go_upto_region 42 with (at_builtin; refine wpList_append_nil rfl (.tmp 172) (.tmp 174) 36 rfl 49 i5 (.agg #[.int .i64 0, .int .i64 0]) 2 16 Try.underlying36 hi5 hz50 hz51 hz52 rfl (by decide) rfl r1 r2 r3 (O2 P.l[r].R) rfl HO2.out HSR.out (O2_one _) (by unfold maxLen; omega) (by omega) ?_; intro v4 w4 ho4 hb4 hl4; obtain ⟨c1, c3, rfl, hc3⟩ := row_shape ho4.out; clear hc3; have hQ4 := (hb4.out.block p hpl).trans HQ1.out; have f4 := Joins.unfrozen_of_block hQ4 4; have k4 := Joins.cell_of_block hQ4 4; have HQ4 := hid hQ4; clear hQ4)
                          obtain ⟨V5, hV5⟩ : ∃ V, V = w4.setCell ⟨p, 4, none⟩ (.slice c1 r2 c3) := ⟨_, rfl⟩
                          rw [← hV5]
                          have hz4 : V1.heap.size ≤ w4.heap.size := hb4.out.size
                          have hz5 : V5.heap.size = w4.heap.size := by rw [hV5]; simp [World.setCell]
                          have hQ5 : V5.heap[p]? = some (.cells #[.int .i64 op, .int .i64 xx, .int .i64 yy, .int .i64 (k : Int), .slice c1 r2 c3] 51 (0, 0)) := by rw [hV5]; exact Joins.block_setCell (i := 4) HQ4.out _
                          have hcne : (Value.slice c1 r2 c3).ownBlock ≠ some p := fun e => by have := (ho4.out.lt p e).1; omega
                          have hz1 : wr.heap.size ≤ V1.heap.size := HBV1.out.size
                          have HR5 : Hid (V5.ownsRow wr.heap.size 49 2 (.slice c1 r2 c3) r2 (O2 P.l[r].R)) := by rw [hV5]; exact (own_setCell ho4.out hcne).mono hz1
                          have hK5 : ∀ b, b < wr.heap.size → V5.heap[b]? = wr.heap[b]? := fun b hb => by
                            rw [hV5]
                            exact (Below.heap_setCell _ _ _ _ (fun e => by have := HPE.out; simp only at e; omega)).trans ((hb4.out.block b (by omega)).trans (HBV1.out.block b hb))
                          have V5K : Below wr.heap.size wr V5 := by
                            refine ⟨?_, ?_, ?_, by omega, hK5⟩
                            · rw [hV5]; exact hb4.out.os.trans HBV1.out.os
                            · rw [hV5]; exact hb4.out.tape.trans HBV1.out.tape
                            · rw [hV5]; exact hb4.out.output.trans HBV1.out.output
                          obtain ⟨e0, e1, e2, e3, e4⟩ := five hQ5
                          have hw5 : wr.heap.size ≤ V5.heap.size := by omega
                          have hlq : (altsL L (i - 1) ++ movedL L k ++ (P.l.take r).map (mvI NK k)).length = NK + r := by rw [List.length_append, HGL.out, ← HNK.out]; simp; omega
                          have HLQ := hid hlq
                          clear hV5 hQ5 d0 d1 d2 d3 d4 f4 k4 HQ4 hz5 hcne hK5 m0 m1 m2
                          obtain ⟨z1, cz, MS, hQw, hGw⟩ := HO.out
                          rw [hlq] at hQw hGw
                          have hrow := hGw.row
                          rw [hlq] at hrow
                          have hzq := own_ne hrow hQw (by decide)
                          have hVq := (V5K.block q hqw).trans hQw
                          have q0 := Joins.cell_of_block hVq 0
                          have HO6 : Hid ((V5.alloc (.cells #[.int .i64 op, .int .i64 xx, .int .i64 yy, .int .i64 (k : Int), .slice c1 r2 c3] 51)).ownsRow B0 51 5 (.slice z1 (NK + r) cz) (NK + r) (MS.flatMap Iv.cs)) := (row_kept hrow (fun b hb => V5K.block b (hrow.lt b hb).2)).alloc _
                          have HL6 : Hid ((V5.alloc (.cells #[.int .i64 op, .int .i64 xx, .int .i64 yy, .int .i64 (k : Int), .slice c1 r2 c3] 51)).ownsRow 0 51 5 (.slice (some ⟨V5.heap.size, 0, none⟩) 1 1) 1 (Iv.cs ⟨op, xx, yy, (k : Int), c1, r2, c3⟩)) := World.ownsRow_lit (base := 0) (e := 51) (size := 5) V5 #[.int .i64 op, .int .i64 xx, .int .i64 yy, .int .i64 (k : Int), .slice c1 r2 c3] 1 (Nat.zero_le _) (by unfold maxLen; omega) rfl
                          have hqV := (Array.getElem?_eq_some_iff.1 hVq).1
                          have HVQ := hid hVq
                          have HQW := hid hQw
                          have HGW := hid hGw
                          have HROW := hid hrow
                          have HVK := hid V5K
                          have hBV : B0 ≤ V5.heap.size := by omega
                          have hB0V : B0 ≤ (V5.alloc (.cells #[.int .i64 op, .int .i64 xx, .int .i64 yy, .int .i64 (k : Int), .slice c1 r2 c3] 51)).heap.size := by (try simp) <;> omega
                          clear hlq hVq hQw hGw hrow V5K HO
                          go_wp2_with (at_builtin; refine wpList_append_row rfl (.tmp 178) (.tmp 180) 22 rfl B0 51 i2 Z5 5 56 Try.underlying22 hi2 hz20 hz21 hz22 rfl (by decide) (.slice z1 (NK + r) cz) (NK + r) (MS.flatMap Iv.cs) rfl HO6.out (.slice (some ⟨V5.heap.size, 0, none⟩) 1 1) 1 0 (Iv.cs ⟨op, xx, yy, (k : Int), c1, r2, c3⟩) rfl HL6.out (by intro h; omega) (one5 _) (by unfold maxLen; omega) (by omega) hB0V ?_; intro v7 w7 ho7 hf7 hn7; obtain ⟨y1, y3, rfl, hy3⟩ := row_shape ho7.out; have hq7 := (hf7.out.block q (by (try simp) <;> omega) hzq).trans ((heap_alloc_old _ _ hqV).trans HVQ.out); have f7 := Joins.unfrozen_of_block hq7 0; have k7 := Joins.cell_of_block hq7 0; clear hy3 hn7 hq7)
                          obtain ⟨hO2, hkE⟩ := OUT.push (V := V5) (V' := V5.alloc (.cells #[.int .i64 op, .int .i64 xx, .int .i64 yy, .int .i64 (k : Int), .slice c1 r2 c3] 51)) (M := ⟨op, xx, yy, (k : Int), c1, r2, c3⟩) (I := ⟨op, xx, yy, (k : Int), P.l[r].R⟩) HQW.out HGW.out (HLQ.out).symm (by omega) HVK.out.size HVK.out.block rfl rfl rfl rfl HRL.out hsm (by rw [← HRL.out]; exact HR5.out) (by simp) (fun b hb => heap_alloc_old _ _ hb) hf7.out ho7.out
                          have hbE : Below B0 w (w7.setCell ⟨q, 0, none⟩ (.slice y1 (NK + r + 1) y3)) := by
                            refine ⟨hf7.out.os.trans (HVK.out.os.trans HB.out.os), hf7.out.tape.trans (HVK.out.tape.trans HB.out.tape), hf7.out.output.trans (HVK.out.output.trans HB.out.output), ?_, fun b hb => (hkE b (by omega) (by omega) (fun h => by have := (HROW.out.lt b h).1; omega)).trans (HB.out.block b hb)⟩
                            have h1 := hf7.out.size
                            have h2 := HVK.out.size
                            have h3 := HB.out.size
                            simp [World.setCell] at h1 ⊢
                            omega
                          have hYE := (hkE B0 (by omega) (by omega) (own_ne HROW.out HY.out (by decide))).trans HY.out
                          have hqE : q < (w7.setCell ⟨q, 0, none⟩ (.slice y1 (NK + r + 1) y3)).heap.size := by
                            have h1 := hf7.out.size
                            simp [World.setCell] at h1 ⊢
                            omega
                          rw [HMV.out, List.append_assoc, ← List.map_singleton (f := mvI (NK : Int) (k : Int)), ← List.map_append, ← List.take_succ_eq_append_getElem hrt] at hO2
                          exact ⟨⟨r + 1, by push_cast; rfl, by omega, hO2, hYE, hbE, hqE⟩, by simp [intOf]; omega⟩
                        · obtain ⟨V1, hV1⟩ : ∃ V, V = wr.alloc (.cells #[.int .i64 op, .int .i64 xx, .int .i64 yy, .int .i64 aa, .slice r1 r2 r3] 51) := ⟨_, rfl⟩
                          have hQF : V1.heap[p]? = some (.cells #[.int .i64 op, .int .i64 xx, .int .i64 yy, .int .i64 aa, .slice r1 r2 r3] 51 (0, 0)) := by rw [hV1, hp]; exact heap_alloc_new wr _
                          have hbF : Below wr.heap.size wr V1 := by rw [hV1]; exact Joins.below_alloc1 wr _
                          have hmv : (⟨op, xx, yy, aa, P.l[r].R⟩ : In) = mvI NK k P.l[r] := by
                            obtain ⟨e1, e2, e3, e4⟩ := HE.out
                            have g5 := f3
                            simp only [beq_iff_eq, beq_eq_false_iff_ne] at g5
                            unfold mvI
                            rw [← e1, ← e2, ← e3, ← e4, f1, f2]
                            first | (rw [if_pos g5]; simp; done) | (rw [if_neg g5]; simp; done)
                          have HMV := hid hmv
                          clear hmv
                          go_upto_region 40 with fail
                          rw [← hp, ← hV1]
                          clear hV1 f1 f2 f3 f4 f5 f6
                          have hpl : p < V1.heap.size := (Array.getElem?_eq_some_iff.1 hQF).1
                          have HPE := hid hp
                          have HQ1 := hid hQF
                          have HBV1 := hid hbF
                          have HIV := hid (HI.out.kept HBV1.out HBV1.out.size)
                          have HSR : Hid (0 < r2 → ∃ b f, r1 = some ⟨b, f, none⟩ ∧ ∀ j u, (O2 P.l[r].R)[j]? = some u → V1.cell? ⟨b, f + j, none⟩ = some u) := fun hp => HIV.out.row.src hp HRL.out
                          have HO2 : Hid ((O2 P.l[r].R).length = r2 * 2) := (O2_len _).trans (by rw [HRL.out])
                          obtain ⟨d0, d1, d2, d3, d4⟩ := five hQF
                          clear hp hQF hbF n0 n1 n2 n3 n4 HI
                          go_upto_region 42 with (at_builtin; refine wpList_append_nil rfl (.tmp 172) (.tmp 174) 36 rfl 49 i5 (.agg #[.int .i64 0, .int .i64 0]) 2 16 Try.underlying36 hi5 hz50 hz51 hz52 rfl (by decide) rfl r1 r2 r3 (O2 P.l[r].R) rfl HO2.out HSR.out (O2_one _) (by unfold maxLen; omega) (by omega) ?_; intro v4 w4 ho4 hb4 hl4; obtain ⟨c1, c3, rfl, hc3⟩ := row_shape ho4.out; clear hc3; have hQ4 := (hb4.out.block p hpl).trans HQ1.out; have f4 := Joins.unfrozen_of_block hQ4 4; have k4 := Joins.cell_of_block hQ4 4; have HQ4 := hid hQ4; clear hQ4)
                          obtain ⟨V5, hV5⟩ : ∃ V, V = w4.setCell ⟨p, 4, none⟩ (.slice c1 r2 c3) := ⟨_, rfl⟩
                          rw [← hV5]
                          have hz4 : V1.heap.size ≤ w4.heap.size := hb4.out.size
                          have hz5 : V5.heap.size = w4.heap.size := by rw [hV5]; simp [World.setCell]
                          have hQ5 : V5.heap[p]? = some (.cells #[.int .i64 op, .int .i64 xx, .int .i64 yy, .int .i64 aa, .slice c1 r2 c3] 51 (0, 0)) := by rw [hV5]; exact Joins.block_setCell (i := 4) HQ4.out _
                          have hcne : (Value.slice c1 r2 c3).ownBlock ≠ some p := fun e => by have := (ho4.out.lt p e).1; omega
                          have hz1 : wr.heap.size ≤ V1.heap.size := HBV1.out.size
                          have HR5 : Hid (V5.ownsRow wr.heap.size 49 2 (.slice c1 r2 c3) r2 (O2 P.l[r].R)) := by rw [hV5]; exact (own_setCell ho4.out hcne).mono hz1
                          have hK5 : ∀ b, b < wr.heap.size → V5.heap[b]? = wr.heap[b]? := fun b hb => by
                            rw [hV5]
                            exact (Below.heap_setCell _ _ _ _ (fun e => by have := HPE.out; simp only at e; omega)).trans ((hb4.out.block b (by omega)).trans (HBV1.out.block b hb))
                          have V5K : Below wr.heap.size wr V5 := by
                            refine ⟨?_, ?_, ?_, by omega, hK5⟩
                            · rw [hV5]; exact hb4.out.os.trans HBV1.out.os
                            · rw [hV5]; exact hb4.out.tape.trans HBV1.out.tape
                            · rw [hV5]; exact hb4.out.output.trans HBV1.out.output
                          obtain ⟨e0, e1, e2, e3, e4⟩ := five hQ5
                          have hw5 : wr.heap.size ≤ V5.heap.size := by omega
                          have hlq : (altsL L (i - 1) ++ movedL L k ++ (P.l.take r).map (mvI NK k)).length = NK + r := by rw [List.length_append, HGL.out, ← HNK.out]; simp; omega
                          have HLQ := hid hlq
                          clear hV5 hQ5 d0 d1 d2 d3 d4 f4 k4 HQ4 hz5 hcne hK5 m0 m1 m2
                          obtain ⟨z1, cz, MS, hQw, hGw⟩ := HO.out
                          rw [hlq] at hQw hGw
                          have hrow := hGw.row
                          rw [hlq] at hrow
                          have hzq := own_ne hrow hQw (by decide)
                          have hVq := (V5K.block q hqw).trans hQw
                          have q0 := Joins.cell_of_block hVq 0
                          have HO6 : Hid ((V5.alloc (.cells #[.int .i64 op, .int .i64 xx, .int .i64 yy, .int .i64 aa, .slice c1 r2 c3] 51)).ownsRow B0 51 5 (.slice z1 (NK + r) cz) (NK + r) (MS.flatMap Iv.cs)) := (row_kept hrow (fun b hb => V5K.block b (hrow.lt b hb).2)).alloc _
                          have HL6 : Hid ((V5.alloc (.cells #[.int .i64 op, .int .i64 xx, .int .i64 yy, .int .i64 aa, .slice c1 r2 c3] 51)).ownsRow 0 51 5 (.slice (some ⟨V5.heap.size, 0, none⟩) 1 1) 1 (Iv.cs ⟨op, xx, yy, aa, c1, r2, c3⟩)) := World.ownsRow_lit (base := 0) (e := 51) (size := 5) V5 #[.int .i64 op, .int .i64 xx, .int .i64 yy, .int .i64 aa, .slice c1 r2 c3] 1 (Nat.zero_le _) (by unfold maxLen; omega) rfl
                          have hqV := (Array.getElem?_eq_some_iff.1 hVq).1
                          have HVQ := hid hVq
                          have HQW := hid hQw
                          have HGW := hid hGw
                          have HROW := hid hrow
                          have HVK := hid V5K
                          have hBV : B0 ≤ V5.heap.size := by omega
                          have hB0V : B0 ≤ (V5.alloc (.cells #[.int .i64 op, .int .i64 xx, .int .i64 yy, .int .i64 aa, .slice c1 r2 c3] 51)).heap.size := by (try simp) <;> omega
                          clear hlq hVq hQw hGw hrow V5K HO
                          go_wp2_with (at_builtin; refine wpList_append_row rfl (.tmp 178) (.tmp 180) 22 rfl B0 51 i2 Z5 5 56 Try.underlying22 hi2 hz20 hz21 hz22 rfl (by decide) (.slice z1 (NK + r) cz) (NK + r) (MS.flatMap Iv.cs) rfl HO6.out (.slice (some ⟨V5.heap.size, 0, none⟩) 1 1) 1 0 (Iv.cs ⟨op, xx, yy, aa, c1, r2, c3⟩) rfl HL6.out (by intro h; omega) (one5 _) (by unfold maxLen; omega) (by omega) hB0V ?_; intro v7 w7 ho7 hf7 hn7; obtain ⟨y1, y3, rfl, hy3⟩ := row_shape ho7.out; have hq7 := (hf7.out.block q (by (try simp) <;> omega) hzq).trans ((heap_alloc_old _ _ hqV).trans HVQ.out); have f7 := Joins.unfrozen_of_block hq7 0; have k7 := Joins.cell_of_block hq7 0; clear hy3 hn7 hq7)
                          obtain ⟨hO2, hkE⟩ := OUT.push (V := V5) (V' := V5.alloc (.cells #[.int .i64 op, .int .i64 xx, .int .i64 yy, .int .i64 aa, .slice c1 r2 c3] 51)) (M := ⟨op, xx, yy, aa, c1, r2, c3⟩) (I := ⟨op, xx, yy, aa, P.l[r].R⟩) HQW.out HGW.out (HLQ.out).symm (by omega) HVK.out.size HVK.out.block rfl rfl rfl rfl HRL.out hsm (by rw [← HRL.out]; exact HR5.out) (by simp) (fun b hb => heap_alloc_old _ _ hb) hf7.out ho7.out
                          have hbE : Below B0 w (w7.setCell ⟨q, 0, none⟩ (.slice y1 (NK + r + 1) y3)) := by
                            refine ⟨hf7.out.os.trans (HVK.out.os.trans HB.out.os), hf7.out.tape.trans (HVK.out.tape.trans HB.out.tape), hf7.out.output.trans (HVK.out.output.trans HB.out.output), ?_, fun b hb => (hkE b (by omega) (by omega) (fun h => by have := (HROW.out.lt b h).1; omega)).trans (HB.out.block b hb)⟩
                            have h1 := hf7.out.size
                            have h2 := HVK.out.size
                            have h3 := HB.out.size
                            simp [World.setCell] at h1 ⊢
                            omega
                          have hYE := (hkE B0 (by omega) (by omega) (own_ne HROW.out HY.out (by decide))).trans HY.out
                          have hqE : q < (w7.setCell ⟨q, 0, none⟩ (.slice y1 (NK + r + 1) y3)).heap.size := by
                            have h1 := hf7.out.size
                            simp [World.setCell] at h1 ⊢
                            omega
                          rw [HMV.out, List.append_assoc, ← List.map_singleton (f := mvI (NK : Int) (k : Int)), ← List.map_append, ← List.take_succ_eq_append_getElem hrt] at hO2
                          exact ⟨⟨r + 1, by push_cast; rfl, by omega, hO2, hYE, hbE, hqE⟩, by simp [intOf]; omega⟩
                      · have b3 : decide ((r : Int) < (pn : Int)) = false := by simp; omega
                        obtain rfl : pn = r := by omega
                        have hO := HO.out
                        rw [List.take_of_length_le (by have := HLEN.out; omega), List.append_assoc] at hO
                        have hmm : movedL L k ++ P.l.map (mvI NK k) = movedL L (k + 1) := by rw [movedL_succ, ← HP.out, HNK.out]
                        rw [hmm] at hO
                        have HO2 := hid hO
                        clear hO hmm HO
                        go_wp2
                        exact ⟨⟨k + 1, by push_cast; rfl, by omega, HO2.out, HY.out, HB.out, hqw⟩, by simp [intOf]; omega⟩
                  · have b1 : decide ((k : Int) < (i : Int)) = false := by simp; omega
                    obtain rfl : k = i := by omega
                    obtain ⟨z1, cz, MS, hQw, hGw⟩ := HO.out
                    have hgl := grown_len L k (by have := HL.out; omega)
                    rw [HLI.out] at hgl
                    have hJ : altsL L (k - 1) ++ movedL L k = joinI L := by unfold joinI; rw [HLI.out, ← HL.out]
                    rw [hgl, HNE.out, ← HNN.out] at hQw hGw
                    rw [hJ] at hGw
                    obtain ⟨q0, q1, q2⟩ := three_cells hQw
                    have s0 := Joins.unfrozen_of_block HY.out 0
                    have s1 := Joins.unfrozen_of_block HY.out 1
                    have s2 := Joins.unfrozen_of_block HY.out 2
                    obtain ⟨y0, y1, y2⟩ := three_cells HY.out
                    have HG := hid hGw
                    have hE0 := HY.out
                    have HE0 := hid hE0
                    clear hQw hGw hgl hJ hE0
                    go_wp2_with fail
                    have hE0 := HE0.out
                    refine bodyPost_ret (results_cell_tmp rfl _ _ B0 24 _ (0, 0) _ rfl (Joins.block_setCell (i := 2) (Joins.block_setCell (i := 1) (Joins.block_setCell (i := 0) hE0 _) _) _) Try.underlying24 rfl (by kernel_rfl)) rfl ?_
                    obtain ⟨r1, r2, r3⟩ := res_ok HC0.out
                    refine ⟨z1, NN, cz, MS, by rw [r2, r3, HC0.out, ← HL.out]; rfl, ?_, ?_⟩
                    · rw [r1, ← HBE.out]
                      have t1 := HG.out.setOther (o := 0) hE0 (by decide) (by decide) (.slice z1 NN cz)
                      have t2 := t1.setOther (o := 1) (Joins.block_setCell (i := 0) hE0 _) (by decide) (by decide) (.int .i64 (joinS L))
                      exact t2.setOther (o := 2) (Joins.block_setCell (i := 1) (Joins.block_setCell (i := 0) hE0 _) _) (by decide) (by decide) _
                    · rw [← HBE.out]; exact ((HB.out.setCell (p := ⟨B0, 0, none⟩) (Nat.le_refl _) _).setCell (p := ⟨B0, 1, none⟩) (Nat.le_refl _) _).setCell (p := ⟨B0, 2, none⟩) (Nat.le_refl _) _
              · have b4 : ((i : Int) == 1) = false := by simp; omega
                obtain ⟨V, hV⟩ : ∃ V, V = wr := ⟨_, rfl⟩
                have hst : (0 : Int) = joinS L := by unfold joinS; rw [if_neg (by have := HL.out; omega)]
                have HOV : Hid (OUT V q B0 (altsL L (i - 1) ++ movedL L 0) (joinS L) (capsTo L 0)) := by
                  rw [hV, ← hst, show altsL L (i - 1) ++ movedL L 0 = altsL L (i - 1) by simp [movedL]]
                  exact HO.out
                have HYV : Hid (V.heap[B0]? = some (.cells ZP 24 (0, 0))) := by rw [hV]; exact HY.out
                have HBV : Hid (Below B0 w V) := by rw [hV]; exact HB.out
                have hqV : q < V.heap.size := by rw [hV]; exact hqw
                clear HO HY HB hqw hst hone
                go_upto_region 25 with fail
                rw [← hV]
                clear hV f1 k1 b1 b4 a1
                go_wp2_with fail
                go_loopw [11] (fun y wq => ∃ k : Nat, y = .int .i64 (k : Int) ∧ k ≤ i ∧ Hid (OUT wq q B0 (altsL L (i - 1) ++ movedL L k) (joinS L) (capsTo L k)) ∧ Hid (wq.heap[B0]? = some (.cells ZP 24 (0, 0))) ∧ Hid (Below B0 w wq) ∧ q < wq.heap.size) (fun y _ => i - (intOf y).toNat)
                case atStart => exact ⟨0, rfl, by omega, HOV.out, HYV.out, HBV.out, hqV⟩
                case round =>
                  clear HOV HYV HBV hqV
                  obtain ⟨k, rfl, hk, HO, HY, HB, hqw⟩ := hrel
                  by_cases hkl : k < i
                  · have b1 : decide ((k : Int) < (i : Int)) = true := by simp; omega
                    have b2 : (k : Int) < (i : Int) := by omega
                    have ad1 := wrap_ok ((k : Int) + 1) (by omega) (by omega)
                    have hkL : k < L.length := by have := HL.out; omega
                    obtain ⟨hP3, hPI, hPN⟩ := HCS.out k hkl
                    obtain ⟨m0, m1, m2⟩ := hP3.kept (HB.out.block b hbl)
                    have hmay := HMA.out k hkL
                    have hsu := ahead_succ L k hkL
                    have hmo := ahead_mono L L.length (k + 1) (by omega) (Nat.le_refl _)
                    have hlen := hPI.len
                    have hgl := grown_len L k (by omega)
                    rw [HLI.out] at hgl
                    obtain ⟨pa, hpa⟩ : ∃ pa, pa = PA k := ⟨_, rfl⟩
                    obtain ⟨pn, hpn⟩ : ∃ pn, pn = PN k := ⟨_, rfl⟩
                    obtain ⟨pc, hpc⟩ : ∃ pc, pc = PC k := ⟨_, rfl⟩
                    rw [← hpa, ← hpn, ← hpc] at m0 hP3
                    rw [← hpa, ← hpn] at hPI
                    rw [← hpn] at hlen
                    clear hpa hpn hpc hPN
                    obtain ⟨P, hP⟩ : ∃ P, P = L.getD k default := ⟨_, rfl⟩
                    rw [← hP] at m1 m2 hPI hmay hsu hlen hP3
                    have HP := hid hP
                    have HSU := hid hsu
                    have HPI := hid hPI
                    have HP3 := hid hP3
                    have HLEN := hid hlen
                    have HMAY := hid (may_ok hmay)
                    have hpn20 : pn ≤ 20000 := by have := HMAY.out.1; omega
                    have hNn : ahead L k + pn ≤ 20000 := by have := HNN.out; omega
                    obtain ⟨NK, hNK⟩ : ∃ NK, NK = ahead L k := ⟨_, rfl⟩
                    have HNK := hid hNK
                    obtain ⟨z1, cz, MS, hQw, hGw⟩ := HO.out
                    rw [hgl] at hQw
                    obtain ⟨q0, q1, q2⟩ := three_cells hQw
                    rw [← hNK] at q0 hNn
                    have f2 := Joins.unfrozen_of_block hQw 2
                    have hcap : capsTo L (k + 1) = max (capsTo L k) P.k := by rw [HP.out]; rfl
                    have hbw : b < wr.heap.size := by omega
                    obtain ⟨V, hV⟩ : ∃ V, V = (wr.setCell ⟨q, 2, none⟩ (.int .i64 (max (capsTo L k) P.k))).drew := ⟨_, rfl⟩
                    have HOV : Hid (OUT V q B0 (altsL L (i - 1) ++ movedL L k ++ (P.l.take 0).map (mvI NK k)) (joinS L) (capsTo L (k + 1))) := by
                      rw [hV, hcap, show altsL L (i - 1) ++ movedL L k ++ (P.l.take 0).map (mvI NK k) = altsL L (i - 1) ++ movedL L k by simp]
                      exact (HO.out.set _).drew
                    have HYV : Hid (V.heap[B0]? = some (.cells ZP 24 (0, 0))) := by rw [hV]; exact (Below.heap_setCell _ _ _ _ (by show B0 ≠ q; omega)).trans HY.out
                    have HBV : Hid (Below B0 w V) := by rw [hV]; exact (HB.out.setCell (p := ⟨q, 2, none⟩) (by show B0 ≤ q; omega) _).drew
                    have hqV : q < V.heap.size := by rw [hV]; simpa [World.setCell] using hqw
                    have HGL := hid hgl
                    clear HO HY HB hqw hQw hGw hP hsu hPI hP3 hlen hmay hmo hgl hNK hcap
                    go_upto_region 29 with fail
                    refine wp_region_lex 9 9 (fun W => W.cell? ⟨q, 2, none⟩ = some (.int .i64 (capsTo L k)) ∧ W.cell? ⟨b, o + k * 3 + 2, none⟩ = some (.int .i64 P.k)) (by kernel_rfl) (by kernel_rfl) (by decide) (by kernel_rfl) (by kernel_rfl) ⟨q2, m2⟩ ?_
                    simp only [List.take_succ_cons, List.take_zero, List.drop_succ_cons, List.drop_zero]
                    iterate 9
                      refine lex_cons ?_ rfl (fun W hW => ?_) (fun _ _ _ h => h) ?_
                      rotate_left
                      · obtain ⟨s0, s1⟩ := hW
                        go_simp <;> with_reducible rfl
                      simp only [Act.put, List.setIfInBounds_toArray, List.set_cons_zero, List.set_cons_succ]
                    refine lex_nil (tail_cons fun K hK => ?_)
                    go_simp
                    refine hK.out _ _ (fun h => absurd rfl h) (tail_nil ?_)
                    rw [← hV]
                    clear hV f2 q0 q1 q2 m0 m1 m2
                    go_wp2_with fail
                    go_loopw [13] (fun y wq => ∃ r : Nat, y = .int .i64 (r : Int) ∧ r ≤ pn ∧ Hid (OUT wq q B0 (altsL L (i - 1) ++ movedL L k ++ (P.l.take r).map (mvI NK k)) (joinS L) (capsTo L (k + 1))) ∧ Hid (wq.heap[B0]? = some (.cells ZP 24 (0, 0))) ∧ Hid (Below B0 w wq) ∧ q < wq.heap.size) (fun y _ => pn - (intOf y).toNat)
                    case atStart => exact ⟨0, rfl, by omega, HOV.out, HYV.out, HBV.out, hqV⟩
                    case round =>
                      clear HOV HYV HBV hqV
                      obtain ⟨r, rfl, hr, HO, HY, HB, hqw⟩ := hrel
                      obtain ⟨m0, m1, m2⟩ := HP3.out.kept (HB.out.block b hbl)
                      have hbw2 : b < wr.heap.size := by omega
                      by_cases hrl : r < pn
                      · have b3 : decide ((r : Int) < (pn : Int)) = true := by simp; omega
                        have b4 : (r : Int) < (pn : Int) := by omega
                        have ad2 := wrap_ok ((r : Int) + 1) (by omega) (by omega)
                        have hrt : r < P.l.length := by have := HLEN.out; omega
                        obtain ⟨g, og, ND, e, hg, hcs⟩ := HPI.out.mem (by omega)
                        subst e
                        have lg' : g < wr.heap.size := by omega
                        obtain ⟨n0, n1, n2, n3, n4⟩ := (hcs r hrt).1.kept (HB.out.block g hg)
                        have hI := (hcs r hrt).2.kept HB.out (B' := wr.heap.size) (by omega)
                        have hok := HMAY.out.2.2.2.2.2 P.l[r] (List.getElem_mem hrt)
                        have hw4 := ways2 hok
                        have hxy := ok_x hok
                        have hll := HMAY.out.1
                        obtain ⟨M, hM⟩ : ∃ M, M = ND r := ⟨_, rfl⟩
                        rw [← hM] at n0 n1 n2 n3 n4 hI
                        clear hM hcs
                        obtain ⟨op, xx, yy, aa, r1, r2, r3⟩ := M
                        dsimp only at n0 n1 n2 n3 n4
                        have e1 := hI.op
                        have e2 := hI.x
                        have e3 := hI.y
                        have e4 := hI.a
                        have hsm : r2 * 16 ≤ 140737488351232 := hI.sm
                        have hlen : r2 = P.l[r].R.length := hI.len
                        dsimp only at e1 e2 e3 e4
                        rw [← e1] at hw4
                        rw [← e2, ← e3] at hxy
                        have sx : IntKind.i64.wrap (xx + (NK : Int)) = xx + (NK : Int) := wrap_ok _ (by omega) (by omega)
                        have sy : IntKind.i64.wrap (yy + (NK : Int)) = yy + (NK : Int) := wrap_ok _ (by omega) (by omega)
                        have HI := hid hI
                        have HRL := hid hlen
                        have HE := hid (And.intro e1 (And.intro e2 (And.intro e3 e4)))
                        clear hI hlen e1 e2 e3 e4 hxy hok hll
                        obtain ⟨p, hp⟩ : ∃ p, p = wr.heap.size := ⟨_, rfl⟩
                        rcases hw4 with ⟨f1, f2, f3, f4, f5, f6⟩ | ⟨f1, f2, f3, f4, f5, f6⟩ | ⟨f1, f2, f3, f4, f5, f6⟩ | ⟨f1, f2, f3, f4, f5, f6⟩
                        · obtain ⟨V1, hV1⟩ : ∃ V, V = wr.alloc (.cells #[.int .i64 op, .int .i64 (xx + (NK : Int)), .int .i64 yy, .int .i64 aa, .slice r1 r2 r3] 51) := ⟨_, rfl⟩
                          have hQF : V1.heap[p]? = some (.cells #[.int .i64 op, .int .i64 (xx + (NK : Int)), .int .i64 yy, .int .i64 aa, .slice r1 r2 r3] 51 (0, 0)) := by rw [hV1, hp]; exact heap_alloc_new wr _
                          have hbF : Below wr.heap.size wr V1 := by rw [hV1]; exact Joins.below_alloc1 wr _
                          have hmv : (⟨op, (xx + (NK : Int)), yy, aa, P.l[r].R⟩ : In) = mvI NK k P.l[r] := by
                            obtain ⟨e1, e2, e3, e4⟩ := HE.out
                            have g5 := f3
                            simp only [beq_iff_eq, beq_eq_false_iff_ne] at g5
                            unfold mvI
                            rw [← e1, ← e2, ← e3, ← e4, f1, f2]
                            first | (rw [if_pos g5]; simp; done) | (rw [if_neg g5]; simp; done)
                          have HMV := hid hmv
                          clear hmv
                          go_upto_region 40 with fail
                          rw [← hp, ← hV1]
                          clear hV1 f1 f2 f3 f4 f5 f6
                          have hpl : p < V1.heap.size := (Array.getElem?_eq_some_iff.1 hQF).1
                          have HPE := hid hp
                          have HQ1 := hid hQF
                          have HBV1 := hid hbF
                          have HIV := hid (HI.out.kept HBV1.out HBV1.out.size)
                          have HSR : Hid (0 < r2 → ∃ b f, r1 = some ⟨b, f, none⟩ ∧ ∀ j u, (O2 P.l[r].R)[j]? = some u → V1.cell? ⟨b, f + j, none⟩ = some u) := fun hp => HIV.out.row.src hp HRL.out
                          have HO2 : Hid ((O2 P.l[r].R).length = r2 * 2) := (O2_len _).trans (by rw [HRL.out])
                          obtain ⟨d0, d1, d2, d3, d4⟩ := five hQF
                          clear hp hQF hbF n0 n1 n2 n3 n4 HI
                          go_upto_region 42 with (at_builtin; refine wpList_append_nil rfl (.tmp 172) (.tmp 174) 36 rfl 49 i5 (.agg #[.int .i64 0, .int .i64 0]) 2 16 Try.underlying36 hi5 hz50 hz51 hz52 rfl (by decide) rfl r1 r2 r3 (O2 P.l[r].R) rfl HO2.out HSR.out (O2_one _) (by unfold maxLen; omega) (by omega) ?_; intro v4 w4 ho4 hb4 hl4; obtain ⟨c1, c3, rfl, hc3⟩ := row_shape ho4.out; clear hc3; have hQ4 := (hb4.out.block p hpl).trans HQ1.out; have f4 := Joins.unfrozen_of_block hQ4 4; have k4 := Joins.cell_of_block hQ4 4; have HQ4 := hid hQ4; clear hQ4)
                          obtain ⟨V5, hV5⟩ : ∃ V, V = w4.setCell ⟨p, 4, none⟩ (.slice c1 r2 c3) := ⟨_, rfl⟩
                          rw [← hV5]
                          have hz4 : V1.heap.size ≤ w4.heap.size := hb4.out.size
                          have hz5 : V5.heap.size = w4.heap.size := by rw [hV5]; simp [World.setCell]
                          have hQ5 : V5.heap[p]? = some (.cells #[.int .i64 op, .int .i64 (xx + (NK : Int)), .int .i64 yy, .int .i64 aa, .slice c1 r2 c3] 51 (0, 0)) := by rw [hV5]; exact Joins.block_setCell (i := 4) HQ4.out _
                          have hcne : (Value.slice c1 r2 c3).ownBlock ≠ some p := fun e => by have := (ho4.out.lt p e).1; omega
                          have hz1 : wr.heap.size ≤ V1.heap.size := HBV1.out.size
                          have HR5 : Hid (V5.ownsRow wr.heap.size 49 2 (.slice c1 r2 c3) r2 (O2 P.l[r].R)) := by rw [hV5]; exact (own_setCell ho4.out hcne).mono hz1
                          have hK5 : ∀ b, b < wr.heap.size → V5.heap[b]? = wr.heap[b]? := fun b hb => by
                            rw [hV5]
                            exact (Below.heap_setCell _ _ _ _ (fun e => by have := HPE.out; simp only at e; omega)).trans ((hb4.out.block b (by omega)).trans (HBV1.out.block b hb))
                          have V5K : Below wr.heap.size wr V5 := by
                            refine ⟨?_, ?_, ?_, by omega, hK5⟩
                            · rw [hV5]; exact hb4.out.os.trans HBV1.out.os
                            · rw [hV5]; exact hb4.out.tape.trans HBV1.out.tape
                            · rw [hV5]; exact hb4.out.output.trans HBV1.out.output
                          obtain ⟨e0, e1, e2, e3, e4⟩ := five hQ5
                          have hw5 : wr.heap.size ≤ V5.heap.size := by omega
                          have hlq : (altsL L (i - 1) ++ movedL L k ++ (P.l.take r).map (mvI NK k)).length = NK + r := by rw [List.length_append, HGL.out, ← HNK.out]; simp; omega
                          have HLQ := hid hlq
                          clear hV5 hQ5 d0 d1 d2 d3 d4 f4 k4 HQ4 hz5 hcne hK5 m0 m1 m2
                          obtain ⟨z1, cz, MS, hQw, hGw⟩ := HO.out
                          rw [hlq] at hQw hGw
                          have hrow := hGw.row
                          rw [hlq] at hrow
                          have hzq := own_ne hrow hQw (by decide)
                          have hVq := (V5K.block q hqw).trans hQw
                          have q0 := Joins.cell_of_block hVq 0
                          have HO6 : Hid ((V5.alloc (.cells #[.int .i64 op, .int .i64 (xx + (NK : Int)), .int .i64 yy, .int .i64 aa, .slice c1 r2 c3] 51)).ownsRow B0 51 5 (.slice z1 (NK + r) cz) (NK + r) (MS.flatMap Iv.cs)) := (row_kept hrow (fun b hb => V5K.block b (hrow.lt b hb).2)).alloc _
                          have HL6 : Hid ((V5.alloc (.cells #[.int .i64 op, .int .i64 (xx + (NK : Int)), .int .i64 yy, .int .i64 aa, .slice c1 r2 c3] 51)).ownsRow 0 51 5 (.slice (some ⟨V5.heap.size, 0, none⟩) 1 1) 1 (Iv.cs ⟨op, (xx + (NK : Int)), yy, aa, c1, r2, c3⟩)) := World.ownsRow_lit (base := 0) (e := 51) (size := 5) V5 #[.int .i64 op, .int .i64 (xx + (NK : Int)), .int .i64 yy, .int .i64 aa, .slice c1 r2 c3] 1 (Nat.zero_le _) (by unfold maxLen; omega) rfl
                          have hqV := (Array.getElem?_eq_some_iff.1 hVq).1
                          have HVQ := hid hVq
                          have HQW := hid hQw
                          have HGW := hid hGw
                          have HROW := hid hrow
                          have HVK := hid V5K
                          have hBV : B0 ≤ V5.heap.size := by omega
                          have hB0V : B0 ≤ (V5.alloc (.cells #[.int .i64 op, .int .i64 (xx + (NK : Int)), .int .i64 yy, .int .i64 aa, .slice c1 r2 c3] 51)).heap.size := by (try simp) <;> omega
                          clear hlq hVq hQw hGw hrow V5K HO
                          go_wp2_with (at_builtin; refine wpList_append_row rfl (.tmp 178) (.tmp 180) 22 rfl B0 51 i2 Z5 5 56 Try.underlying22 hi2 hz20 hz21 hz22 rfl (by decide) (.slice z1 (NK + r) cz) (NK + r) (MS.flatMap Iv.cs) rfl HO6.out (.slice (some ⟨V5.heap.size, 0, none⟩) 1 1) 1 0 (Iv.cs ⟨op, (xx + (NK : Int)), yy, aa, c1, r2, c3⟩) rfl HL6.out (by intro h; omega) (one5 _) (by unfold maxLen; omega) (by omega) hB0V ?_; intro v7 w7 ho7 hf7 hn7; obtain ⟨y1, y3, rfl, hy3⟩ := row_shape ho7.out; have hq7 := (hf7.out.block q (by (try simp) <;> omega) hzq).trans ((heap_alloc_old _ _ hqV).trans HVQ.out); have f7 := Joins.unfrozen_of_block hq7 0; have k7 := Joins.cell_of_block hq7 0; clear hy3 hn7 hq7)
                          obtain ⟨hO2, hkE⟩ := OUT.push (V := V5) (V' := V5.alloc (.cells #[.int .i64 op, .int .i64 (xx + (NK : Int)), .int .i64 yy, .int .i64 aa, .slice c1 r2 c3] 51)) (M := ⟨op, (xx + (NK : Int)), yy, aa, c1, r2, c3⟩) (I := ⟨op, (xx + (NK : Int)), yy, aa, P.l[r].R⟩) HQW.out HGW.out (HLQ.out).symm (by omega) HVK.out.size HVK.out.block rfl rfl rfl rfl HRL.out hsm (by rw [← HRL.out]; exact HR5.out) (by simp) (fun b hb => heap_alloc_old _ _ hb) hf7.out ho7.out
                          have hbE : Below B0 w (w7.setCell ⟨q, 0, none⟩ (.slice y1 (NK + r + 1) y3)) := by
                            refine ⟨hf7.out.os.trans (HVK.out.os.trans HB.out.os), hf7.out.tape.trans (HVK.out.tape.trans HB.out.tape), hf7.out.output.trans (HVK.out.output.trans HB.out.output), ?_, fun b hb => (hkE b (by omega) (by omega) (fun h => by have := (HROW.out.lt b h).1; omega)).trans (HB.out.block b hb)⟩
                            have h1 := hf7.out.size
                            have h2 := HVK.out.size
                            have h3 := HB.out.size
                            simp [World.setCell] at h1 ⊢
                            omega
                          have hYE := (hkE B0 (by omega) (by omega) (own_ne HROW.out HY.out (by decide))).trans HY.out
                          have hqE : q < (w7.setCell ⟨q, 0, none⟩ (.slice y1 (NK + r + 1) y3)).heap.size := by
                            have h1 := hf7.out.size
                            simp [World.setCell] at h1 ⊢
                            omega
                          rw [HMV.out, List.append_assoc, ← List.map_singleton (f := mvI (NK : Int) (k : Int)), ← List.map_append, ← List.take_succ_eq_append_getElem hrt] at hO2
                          exact ⟨⟨r + 1, by push_cast; rfl, by omega, hO2, hYE, hbE, hqE⟩, by simp [intOf]; omega⟩
                        · obtain ⟨V1, hV1⟩ : ∃ V, V = wr.alloc (.cells #[.int .i64 op, .int .i64 (xx + (NK : Int)), .int .i64 (yy + (NK : Int)), .int .i64 aa, .slice r1 r2 r3] 51) := ⟨_, rfl⟩
                          have hQF : V1.heap[p]? = some (.cells #[.int .i64 op, .int .i64 (xx + (NK : Int)), .int .i64 (yy + (NK : Int)), .int .i64 aa, .slice r1 r2 r3] 51 (0, 0)) := by rw [hV1, hp]; exact heap_alloc_new wr _
                          have hbF : Below wr.heap.size wr V1 := by rw [hV1]; exact Joins.below_alloc1 wr _
                          have hmv : (⟨op, (xx + (NK : Int)), (yy + (NK : Int)), aa, P.l[r].R⟩ : In) = mvI NK k P.l[r] := by
                            obtain ⟨e1, e2, e3, e4⟩ := HE.out
                            have g5 := f3
                            simp only [beq_iff_eq, beq_eq_false_iff_ne] at g5
                            unfold mvI
                            rw [← e1, ← e2, ← e3, ← e4, f1, f2]
                            first | (rw [if_pos g5]; simp; done) | (rw [if_neg g5]; simp; done)
                          have HMV := hid hmv
                          clear hmv
                          go_upto_region 40 with fail
                          rw [← hp, ← hV1]
                          clear hV1 f1 f2 f3 f4 f5 f6
                          have hpl : p < V1.heap.size := (Array.getElem?_eq_some_iff.1 hQF).1
                          have HPE := hid hp
                          have HQ1 := hid hQF
                          have HBV1 := hid hbF
                          have HIV := hid (HI.out.kept HBV1.out HBV1.out.size)
                          have HSR : Hid (0 < r2 → ∃ b f, r1 = some ⟨b, f, none⟩ ∧ ∀ j u, (O2 P.l[r].R)[j]? = some u → V1.cell? ⟨b, f + j, none⟩ = some u) := fun hp => HIV.out.row.src hp HRL.out
                          have HO2 : Hid ((O2 P.l[r].R).length = r2 * 2) := (O2_len _).trans (by rw [HRL.out])
                          obtain ⟨d0, d1, d2, d3, d4⟩ := five hQF
                          clear hp hQF hbF n0 n1 n2 n3 n4 HI
                          go_upto_region 42 with (at_builtin; refine wpList_append_nil rfl (.tmp 172) (.tmp 174) 36 rfl 49 i5 (.agg #[.int .i64 0, .int .i64 0]) 2 16 Try.underlying36 hi5 hz50 hz51 hz52 rfl (by decide) rfl r1 r2 r3 (O2 P.l[r].R) rfl HO2.out HSR.out (O2_one _) (by unfold maxLen; omega) (by omega) ?_; intro v4 w4 ho4 hb4 hl4; obtain ⟨c1, c3, rfl, hc3⟩ := row_shape ho4.out; clear hc3; have hQ4 := (hb4.out.block p hpl).trans HQ1.out; have f4 := Joins.unfrozen_of_block hQ4 4; have k4 := Joins.cell_of_block hQ4 4; have HQ4 := hid hQ4; clear hQ4)
                          obtain ⟨V5, hV5⟩ : ∃ V, V = w4.setCell ⟨p, 4, none⟩ (.slice c1 r2 c3) := ⟨_, rfl⟩
                          rw [← hV5]
                          have hz4 : V1.heap.size ≤ w4.heap.size := hb4.out.size
                          have hz5 : V5.heap.size = w4.heap.size := by rw [hV5]; simp [World.setCell]
                          have hQ5 : V5.heap[p]? = some (.cells #[.int .i64 op, .int .i64 (xx + (NK : Int)), .int .i64 (yy + (NK : Int)), .int .i64 aa, .slice c1 r2 c3] 51 (0, 0)) := by rw [hV5]; exact Joins.block_setCell (i := 4) HQ4.out _
                          have hcne : (Value.slice c1 r2 c3).ownBlock ≠ some p := fun e => by have := (ho4.out.lt p e).1; omega
                          have hz1 : wr.heap.size ≤ V1.heap.size := HBV1.out.size
                          have HR5 : Hid (V5.ownsRow wr.heap.size 49 2 (.slice c1 r2 c3) r2 (O2 P.l[r].R)) := by rw [hV5]; exact (own_setCell ho4.out hcne).mono hz1
                          have hK5 : ∀ b, b < wr.heap.size → V5.heap[b]? = wr.heap[b]? := fun b hb => by
                            rw [hV5]
                            exact (Below.heap_setCell _ _ _ _ (fun e => by have := HPE.out; simp only at e; omega)).trans ((hb4.out.block b (by omega)).trans (HBV1.out.block b hb))
                          have V5K : Below wr.heap.size wr V5 := by
                            refine ⟨?_, ?_, ?_, by omega, hK5⟩
                            · rw [hV5]; exact hb4.out.os.trans HBV1.out.os
                            · rw [hV5]; exact hb4.out.tape.trans HBV1.out.tape
                            · rw [hV5]; exact hb4.out.output.trans HBV1.out.output
                          obtain ⟨e0, e1, e2, e3, e4⟩ := five hQ5
                          have hw5 : wr.heap.size ≤ V5.heap.size := by omega
                          have hlq : (altsL L (i - 1) ++ movedL L k ++ (P.l.take r).map (mvI NK k)).length = NK + r := by rw [List.length_append, HGL.out, ← HNK.out]; simp; omega
                          have HLQ := hid hlq
                          clear hV5 hQ5 d0 d1 d2 d3 d4 f4 k4 HQ4 hz5 hcne hK5 m0 m1 m2
                          obtain ⟨z1, cz, MS, hQw, hGw⟩ := HO.out
                          rw [hlq] at hQw hGw
                          have hrow := hGw.row
                          rw [hlq] at hrow
                          have hzq := own_ne hrow hQw (by decide)
                          have hVq := (V5K.block q hqw).trans hQw
                          have q0 := Joins.cell_of_block hVq 0
                          have HO6 : Hid ((V5.alloc (.cells #[.int .i64 op, .int .i64 (xx + (NK : Int)), .int .i64 (yy + (NK : Int)), .int .i64 aa, .slice c1 r2 c3] 51)).ownsRow B0 51 5 (.slice z1 (NK + r) cz) (NK + r) (MS.flatMap Iv.cs)) := (row_kept hrow (fun b hb => V5K.block b (hrow.lt b hb).2)).alloc _
                          have HL6 : Hid ((V5.alloc (.cells #[.int .i64 op, .int .i64 (xx + (NK : Int)), .int .i64 (yy + (NK : Int)), .int .i64 aa, .slice c1 r2 c3] 51)).ownsRow 0 51 5 (.slice (some ⟨V5.heap.size, 0, none⟩) 1 1) 1 (Iv.cs ⟨op, (xx + (NK : Int)), (yy + (NK : Int)), aa, c1, r2, c3⟩)) := World.ownsRow_lit (base := 0) (e := 51) (size := 5) V5 #[.int .i64 op, .int .i64 (xx + (NK : Int)), .int .i64 (yy + (NK : Int)), .int .i64 aa, .slice c1 r2 c3] 1 (Nat.zero_le _) (by unfold maxLen; omega) rfl
                          have hqV := (Array.getElem?_eq_some_iff.1 hVq).1
                          have HVQ := hid hVq
                          have HQW := hid hQw
                          have HGW := hid hGw
                          have HROW := hid hrow
                          have HVK := hid V5K
                          have hBV : B0 ≤ V5.heap.size := by omega
                          have hB0V : B0 ≤ (V5.alloc (.cells #[.int .i64 op, .int .i64 (xx + (NK : Int)), .int .i64 (yy + (NK : Int)), .int .i64 aa, .slice c1 r2 c3] 51)).heap.size := by (try simp) <;> omega
                          clear hlq hVq hQw hGw hrow V5K HO
                          go_wp2_with (at_builtin; refine wpList_append_row rfl (.tmp 178) (.tmp 180) 22 rfl B0 51 i2 Z5 5 56 Try.underlying22 hi2 hz20 hz21 hz22 rfl (by decide) (.slice z1 (NK + r) cz) (NK + r) (MS.flatMap Iv.cs) rfl HO6.out (.slice (some ⟨V5.heap.size, 0, none⟩) 1 1) 1 0 (Iv.cs ⟨op, (xx + (NK : Int)), (yy + (NK : Int)), aa, c1, r2, c3⟩) rfl HL6.out (by intro h; omega) (one5 _) (by unfold maxLen; omega) (by omega) hB0V ?_; intro v7 w7 ho7 hf7 hn7; obtain ⟨y1, y3, rfl, hy3⟩ := row_shape ho7.out; have hq7 := (hf7.out.block q (by (try simp) <;> omega) hzq).trans ((heap_alloc_old _ _ hqV).trans HVQ.out); have f7 := Joins.unfrozen_of_block hq7 0; have k7 := Joins.cell_of_block hq7 0; clear hy3 hn7 hq7)
                          obtain ⟨hO2, hkE⟩ := OUT.push (V := V5) (V' := V5.alloc (.cells #[.int .i64 op, .int .i64 (xx + (NK : Int)), .int .i64 (yy + (NK : Int)), .int .i64 aa, .slice c1 r2 c3] 51)) (M := ⟨op, (xx + (NK : Int)), (yy + (NK : Int)), aa, c1, r2, c3⟩) (I := ⟨op, (xx + (NK : Int)), (yy + (NK : Int)), aa, P.l[r].R⟩) HQW.out HGW.out (HLQ.out).symm (by omega) HVK.out.size HVK.out.block rfl rfl rfl rfl HRL.out hsm (by rw [← HRL.out]; exact HR5.out) (by simp) (fun b hb => heap_alloc_old _ _ hb) hf7.out ho7.out
                          have hbE : Below B0 w (w7.setCell ⟨q, 0, none⟩ (.slice y1 (NK + r + 1) y3)) := by
                            refine ⟨hf7.out.os.trans (HVK.out.os.trans HB.out.os), hf7.out.tape.trans (HVK.out.tape.trans HB.out.tape), hf7.out.output.trans (HVK.out.output.trans HB.out.output), ?_, fun b hb => (hkE b (by omega) (by omega) (fun h => by have := (HROW.out.lt b h).1; omega)).trans (HB.out.block b hb)⟩
                            have h1 := hf7.out.size
                            have h2 := HVK.out.size
                            have h3 := HB.out.size
                            simp [World.setCell] at h1 ⊢
                            omega
                          have hYE := (hkE B0 (by omega) (by omega) (own_ne HROW.out HY.out (by decide))).trans HY.out
                          have hqE : q < (w7.setCell ⟨q, 0, none⟩ (.slice y1 (NK + r + 1) y3)).heap.size := by
                            have h1 := hf7.out.size
                            simp [World.setCell] at h1 ⊢
                            omega
                          rw [HMV.out, List.append_assoc, ← List.map_singleton (f := mvI (NK : Int) (k : Int)), ← List.map_append, ← List.take_succ_eq_append_getElem hrt] at hO2
                          exact ⟨⟨r + 1, by push_cast; rfl, by omega, hO2, hYE, hbE, hqE⟩, by simp [intOf]; omega⟩
                        · obtain ⟨V1, hV1⟩ : ∃ V, V = wr.alloc (.cells #[.int .i64 op, .int .i64 xx, .int .i64 yy, .int .i64 (k : Int), .slice r1 r2 r3] 51) := ⟨_, rfl⟩
                          have hQF : V1.heap[p]? = some (.cells #[.int .i64 op, .int .i64 xx, .int .i64 yy, .int .i64 (k : Int), .slice r1 r2 r3] 51 (0, 0)) := by rw [hV1, hp]; exact heap_alloc_new wr _
                          have hbF : Below wr.heap.size wr V1 := by rw [hV1]; exact Joins.below_alloc1 wr _
                          have hmv : (⟨op, xx, yy, (k : Int), P.l[r].R⟩ : In) = mvI NK k P.l[r] := by
                            obtain ⟨e1, e2, e3, e4⟩ := HE.out
                            have g5 := f3
                            simp only [beq_iff_eq, beq_eq_false_iff_ne] at g5
                            unfold mvI
                            rw [← e1, ← e2, ← e3, ← e4, f1, f2]
                            first | (rw [if_pos g5]; simp; done) | (rw [if_neg g5]; simp; done)
                          have HMV := hid hmv
                          clear hmv
                          go_upto_region 40 with fail
                          rw [← hp, ← hV1]
                          clear hV1 f1 f2 f3 f4 f5 f6
                          have hpl : p < V1.heap.size := (Array.getElem?_eq_some_iff.1 hQF).1
                          have HPE := hid hp
                          have HQ1 := hid hQF
                          have HBV1 := hid hbF
                          have HIV := hid (HI.out.kept HBV1.out HBV1.out.size)
                          have HSR : Hid (0 < r2 → ∃ b f, r1 = some ⟨b, f, none⟩ ∧ ∀ j u, (O2 P.l[r].R)[j]? = some u → V1.cell? ⟨b, f + j, none⟩ = some u) := fun hp => HIV.out.row.src hp HRL.out
                          have HO2 : Hid ((O2 P.l[r].R).length = r2 * 2) := (O2_len _).trans (by rw [HRL.out])
                          obtain ⟨d0, d1, d2, d3, d4⟩ := five hQF
                          clear hp hQF hbF n0 n1 n2 n3 n4 HI
                          go_upto_region 42 with (at_builtin; refine wpList_append_nil rfl (.tmp 172) (.tmp 174) 36 rfl 49 i5 (.agg #[.int .i64 0, .int .i64 0]) 2 16 Try.underlying36 hi5 hz50 hz51 hz52 rfl (by decide) rfl r1 r2 r3 (O2 P.l[r].R) rfl HO2.out HSR.out (O2_one _) (by unfold maxLen; omega) (by omega) ?_; intro v4 w4 ho4 hb4 hl4; obtain ⟨c1, c3, rfl, hc3⟩ := row_shape ho4.out; clear hc3; have hQ4 := (hb4.out.block p hpl).trans HQ1.out; have f4 := Joins.unfrozen_of_block hQ4 4; have k4 := Joins.cell_of_block hQ4 4; have HQ4 := hid hQ4; clear hQ4)
                          obtain ⟨V5, hV5⟩ : ∃ V, V = w4.setCell ⟨p, 4, none⟩ (.slice c1 r2 c3) := ⟨_, rfl⟩
                          rw [← hV5]
                          have hz4 : V1.heap.size ≤ w4.heap.size := hb4.out.size
                          have hz5 : V5.heap.size = w4.heap.size := by rw [hV5]; simp [World.setCell]
                          have hQ5 : V5.heap[p]? = some (.cells #[.int .i64 op, .int .i64 xx, .int .i64 yy, .int .i64 (k : Int), .slice c1 r2 c3] 51 (0, 0)) := by rw [hV5]; exact Joins.block_setCell (i := 4) HQ4.out _
                          have hcne : (Value.slice c1 r2 c3).ownBlock ≠ some p := fun e => by have := (ho4.out.lt p e).1; omega
                          have hz1 : wr.heap.size ≤ V1.heap.size := HBV1.out.size
                          have HR5 : Hid (V5.ownsRow wr.heap.size 49 2 (.slice c1 r2 c3) r2 (O2 P.l[r].R)) := by rw [hV5]; exact (own_setCell ho4.out hcne).mono hz1
                          have hK5 : ∀ b, b < wr.heap.size → V5.heap[b]? = wr.heap[b]? := fun b hb => by
                            rw [hV5]
                            exact (Below.heap_setCell _ _ _ _ (fun e => by have := HPE.out; simp only at e; omega)).trans ((hb4.out.block b (by omega)).trans (HBV1.out.block b hb))
                          have V5K : Below wr.heap.size wr V5 := by
                            refine ⟨?_, ?_, ?_, by omega, hK5⟩
                            · rw [hV5]; exact hb4.out.os.trans HBV1.out.os
                            · rw [hV5]; exact hb4.out.tape.trans HBV1.out.tape
                            · rw [hV5]; exact hb4.out.output.trans HBV1.out.output
                          obtain ⟨e0, e1, e2, e3, e4⟩ := five hQ5
                          have hw5 : wr.heap.size ≤ V5.heap.size := by omega
                          have hlq : (altsL L (i - 1) ++ movedL L k ++ (P.l.take r).map (mvI NK k)).length = NK + r := by rw [List.length_append, HGL.out, ← HNK.out]; simp; omega
                          have HLQ := hid hlq
                          clear hV5 hQ5 d0 d1 d2 d3 d4 f4 k4 HQ4 hz5 hcne hK5 m0 m1 m2
                          obtain ⟨z1, cz, MS, hQw, hGw⟩ := HO.out
                          rw [hlq] at hQw hGw
                          have hrow := hGw.row
                          rw [hlq] at hrow
                          have hzq := own_ne hrow hQw (by decide)
                          have hVq := (V5K.block q hqw).trans hQw
                          have q0 := Joins.cell_of_block hVq 0
                          have HO6 : Hid ((V5.alloc (.cells #[.int .i64 op, .int .i64 xx, .int .i64 yy, .int .i64 (k : Int), .slice c1 r2 c3] 51)).ownsRow B0 51 5 (.slice z1 (NK + r) cz) (NK + r) (MS.flatMap Iv.cs)) := (row_kept hrow (fun b hb => V5K.block b (hrow.lt b hb).2)).alloc _
                          have HL6 : Hid ((V5.alloc (.cells #[.int .i64 op, .int .i64 xx, .int .i64 yy, .int .i64 (k : Int), .slice c1 r2 c3] 51)).ownsRow 0 51 5 (.slice (some ⟨V5.heap.size, 0, none⟩) 1 1) 1 (Iv.cs ⟨op, xx, yy, (k : Int), c1, r2, c3⟩)) := World.ownsRow_lit (base := 0) (e := 51) (size := 5) V5 #[.int .i64 op, .int .i64 xx, .int .i64 yy, .int .i64 (k : Int), .slice c1 r2 c3] 1 (Nat.zero_le _) (by unfold maxLen; omega) rfl
                          have hqV := (Array.getElem?_eq_some_iff.1 hVq).1
                          have HVQ := hid hVq
                          have HQW := hid hQw
                          have HGW := hid hGw
                          have HROW := hid hrow
                          have HVK := hid V5K
                          have hBV : B0 ≤ V5.heap.size := by omega
                          have hB0V : B0 ≤ (V5.alloc (.cells #[.int .i64 op, .int .i64 xx, .int .i64 yy, .int .i64 (k : Int), .slice c1 r2 c3] 51)).heap.size := by (try simp) <;> omega
                          clear hlq hVq hQw hGw hrow V5K HO
                          go_wp2_with (at_builtin; refine wpList_append_row rfl (.tmp 178) (.tmp 180) 22 rfl B0 51 i2 Z5 5 56 Try.underlying22 hi2 hz20 hz21 hz22 rfl (by decide) (.slice z1 (NK + r) cz) (NK + r) (MS.flatMap Iv.cs) rfl HO6.out (.slice (some ⟨V5.heap.size, 0, none⟩) 1 1) 1 0 (Iv.cs ⟨op, xx, yy, (k : Int), c1, r2, c3⟩) rfl HL6.out (by intro h; omega) (one5 _) (by unfold maxLen; omega) (by omega) hB0V ?_; intro v7 w7 ho7 hf7 hn7; obtain ⟨y1, y3, rfl, hy3⟩ := row_shape ho7.out; have hq7 := (hf7.out.block q (by (try simp) <;> omega) hzq).trans ((heap_alloc_old _ _ hqV).trans HVQ.out); have f7 := Joins.unfrozen_of_block hq7 0; have k7 := Joins.cell_of_block hq7 0; clear hy3 hn7 hq7)
                          obtain ⟨hO2, hkE⟩ := OUT.push (V := V5) (V' := V5.alloc (.cells #[.int .i64 op, .int .i64 xx, .int .i64 yy, .int .i64 (k : Int), .slice c1 r2 c3] 51)) (M := ⟨op, xx, yy, (k : Int), c1, r2, c3⟩) (I := ⟨op, xx, yy, (k : Int), P.l[r].R⟩) HQW.out HGW.out (HLQ.out).symm (by omega) HVK.out.size HVK.out.block rfl rfl rfl rfl HRL.out hsm (by rw [← HRL.out]; exact HR5.out) (by simp) (fun b hb => heap_alloc_old _ _ hb) hf7.out ho7.out
                          have hbE : Below B0 w (w7.setCell ⟨q, 0, none⟩ (.slice y1 (NK + r + 1) y3)) := by
                            refine ⟨hf7.out.os.trans (HVK.out.os.trans HB.out.os), hf7.out.tape.trans (HVK.out.tape.trans HB.out.tape), hf7.out.output.trans (HVK.out.output.trans HB.out.output), ?_, fun b hb => (hkE b (by omega) (by omega) (fun h => by have := (HROW.out.lt b h).1; omega)).trans (HB.out.block b hb)⟩
                            have h1 := hf7.out.size
                            have h2 := HVK.out.size
                            have h3 := HB.out.size
                            simp [World.setCell] at h1 ⊢
                            omega
                          have hYE := (hkE B0 (by omega) (by omega) (own_ne HROW.out HY.out (by decide))).trans HY.out
                          have hqE : q < (w7.setCell ⟨q, 0, none⟩ (.slice y1 (NK + r + 1) y3)).heap.size := by
                            have h1 := hf7.out.size
                            simp [World.setCell] at h1 ⊢
                            omega
                          rw [HMV.out, List.append_assoc, ← List.map_singleton (f := mvI (NK : Int) (k : Int)), ← List.map_append, ← List.take_succ_eq_append_getElem hrt] at hO2
                          exact ⟨⟨r + 1, by push_cast; rfl, by omega, hO2, hYE, hbE, hqE⟩, by simp [intOf]; omega⟩
                        · obtain ⟨V1, hV1⟩ : ∃ V, V = wr.alloc (.cells #[.int .i64 op, .int .i64 xx, .int .i64 yy, .int .i64 aa, .slice r1 r2 r3] 51) := ⟨_, rfl⟩
                          have hQF : V1.heap[p]? = some (.cells #[.int .i64 op, .int .i64 xx, .int .i64 yy, .int .i64 aa, .slice r1 r2 r3] 51 (0, 0)) := by rw [hV1, hp]; exact heap_alloc_new wr _
                          have hbF : Below wr.heap.size wr V1 := by rw [hV1]; exact Joins.below_alloc1 wr _
                          have hmv : (⟨op, xx, yy, aa, P.l[r].R⟩ : In) = mvI NK k P.l[r] := by
                            obtain ⟨e1, e2, e3, e4⟩ := HE.out
                            have g5 := f3
                            simp only [beq_iff_eq, beq_eq_false_iff_ne] at g5
                            unfold mvI
                            rw [← e1, ← e2, ← e3, ← e4, f1, f2]
                            first | (rw [if_pos g5]; simp; done) | (rw [if_neg g5]; simp; done)
                          have HMV := hid hmv
                          clear hmv
                          go_upto_region 40 with fail
                          rw [← hp, ← hV1]
                          clear hV1 f1 f2 f3 f4 f5 f6
                          have hpl : p < V1.heap.size := (Array.getElem?_eq_some_iff.1 hQF).1
                          have HPE := hid hp
                          have HQ1 := hid hQF
                          have HBV1 := hid hbF
                          have HIV := hid (HI.out.kept HBV1.out HBV1.out.size)
                          have HSR : Hid (0 < r2 → ∃ b f, r1 = some ⟨b, f, none⟩ ∧ ∀ j u, (O2 P.l[r].R)[j]? = some u → V1.cell? ⟨b, f + j, none⟩ = some u) := fun hp => HIV.out.row.src hp HRL.out
                          have HO2 : Hid ((O2 P.l[r].R).length = r2 * 2) := (O2_len _).trans (by rw [HRL.out])
                          obtain ⟨d0, d1, d2, d3, d4⟩ := five hQF
                          clear hp hQF hbF n0 n1 n2 n3 n4 HI
                          go_upto_region 42 with (at_builtin; refine wpList_append_nil rfl (.tmp 172) (.tmp 174) 36 rfl 49 i5 (.agg #[.int .i64 0, .int .i64 0]) 2 16 Try.underlying36 hi5 hz50 hz51 hz52 rfl (by decide) rfl r1 r2 r3 (O2 P.l[r].R) rfl HO2.out HSR.out (O2_one _) (by unfold maxLen; omega) (by omega) ?_; intro v4 w4 ho4 hb4 hl4; obtain ⟨c1, c3, rfl, hc3⟩ := row_shape ho4.out; clear hc3; have hQ4 := (hb4.out.block p hpl).trans HQ1.out; have f4 := Joins.unfrozen_of_block hQ4 4; have k4 := Joins.cell_of_block hQ4 4; have HQ4 := hid hQ4; clear hQ4)
                          obtain ⟨V5, hV5⟩ : ∃ V, V = w4.setCell ⟨p, 4, none⟩ (.slice c1 r2 c3) := ⟨_, rfl⟩
                          rw [← hV5]
                          have hz4 : V1.heap.size ≤ w4.heap.size := hb4.out.size
                          have hz5 : V5.heap.size = w4.heap.size := by rw [hV5]; simp [World.setCell]
                          have hQ5 : V5.heap[p]? = some (.cells #[.int .i64 op, .int .i64 xx, .int .i64 yy, .int .i64 aa, .slice c1 r2 c3] 51 (0, 0)) := by rw [hV5]; exact Joins.block_setCell (i := 4) HQ4.out _
                          have hcne : (Value.slice c1 r2 c3).ownBlock ≠ some p := fun e => by have := (ho4.out.lt p e).1; omega
                          have hz1 : wr.heap.size ≤ V1.heap.size := HBV1.out.size
                          have HR5 : Hid (V5.ownsRow wr.heap.size 49 2 (.slice c1 r2 c3) r2 (O2 P.l[r].R)) := by rw [hV5]; exact (own_setCell ho4.out hcne).mono hz1
                          have hK5 : ∀ b, b < wr.heap.size → V5.heap[b]? = wr.heap[b]? := fun b hb => by
                            rw [hV5]
                            exact (Below.heap_setCell _ _ _ _ (fun e => by have := HPE.out; simp only at e; omega)).trans ((hb4.out.block b (by omega)).trans (HBV1.out.block b hb))
                          have V5K : Below wr.heap.size wr V5 := by
                            refine ⟨?_, ?_, ?_, by omega, hK5⟩
                            · rw [hV5]; exact hb4.out.os.trans HBV1.out.os
                            · rw [hV5]; exact hb4.out.tape.trans HBV1.out.tape
                            · rw [hV5]; exact hb4.out.output.trans HBV1.out.output
                          obtain ⟨e0, e1, e2, e3, e4⟩ := five hQ5
                          have hw5 : wr.heap.size ≤ V5.heap.size := by omega
                          have hlq : (altsL L (i - 1) ++ movedL L k ++ (P.l.take r).map (mvI NK k)).length = NK + r := by rw [List.length_append, HGL.out, ← HNK.out]; simp; omega
                          have HLQ := hid hlq
                          clear hV5 hQ5 d0 d1 d2 d3 d4 f4 k4 HQ4 hz5 hcne hK5 m0 m1 m2
                          obtain ⟨z1, cz, MS, hQw, hGw⟩ := HO.out
                          rw [hlq] at hQw hGw
                          have hrow := hGw.row
                          rw [hlq] at hrow
                          have hzq := own_ne hrow hQw (by decide)
                          have hVq := (V5K.block q hqw).trans hQw
                          have q0 := Joins.cell_of_block hVq 0
                          have HO6 : Hid ((V5.alloc (.cells #[.int .i64 op, .int .i64 xx, .int .i64 yy, .int .i64 aa, .slice c1 r2 c3] 51)).ownsRow B0 51 5 (.slice z1 (NK + r) cz) (NK + r) (MS.flatMap Iv.cs)) := (row_kept hrow (fun b hb => V5K.block b (hrow.lt b hb).2)).alloc _
                          have HL6 : Hid ((V5.alloc (.cells #[.int .i64 op, .int .i64 xx, .int .i64 yy, .int .i64 aa, .slice c1 r2 c3] 51)).ownsRow 0 51 5 (.slice (some ⟨V5.heap.size, 0, none⟩) 1 1) 1 (Iv.cs ⟨op, xx, yy, aa, c1, r2, c3⟩)) := World.ownsRow_lit (base := 0) (e := 51) (size := 5) V5 #[.int .i64 op, .int .i64 xx, .int .i64 yy, .int .i64 aa, .slice c1 r2 c3] 1 (Nat.zero_le _) (by unfold maxLen; omega) rfl
                          have hqV := (Array.getElem?_eq_some_iff.1 hVq).1
                          have HVQ := hid hVq
                          have HQW := hid hQw
                          have HGW := hid hGw
                          have HROW := hid hrow
                          have HVK := hid V5K
                          have hBV : B0 ≤ V5.heap.size := by omega
                          have hB0V : B0 ≤ (V5.alloc (.cells #[.int .i64 op, .int .i64 xx, .int .i64 yy, .int .i64 aa, .slice c1 r2 c3] 51)).heap.size := by (try simp) <;> omega
                          clear hlq hVq hQw hGw hrow V5K HO
                          go_wp2_with (at_builtin; refine wpList_append_row rfl (.tmp 178) (.tmp 180) 22 rfl B0 51 i2 Z5 5 56 Try.underlying22 hi2 hz20 hz21 hz22 rfl (by decide) (.slice z1 (NK + r) cz) (NK + r) (MS.flatMap Iv.cs) rfl HO6.out (.slice (some ⟨V5.heap.size, 0, none⟩) 1 1) 1 0 (Iv.cs ⟨op, xx, yy, aa, c1, r2, c3⟩) rfl HL6.out (by intro h; omega) (one5 _) (by unfold maxLen; omega) (by omega) hB0V ?_; intro v7 w7 ho7 hf7 hn7; obtain ⟨y1, y3, rfl, hy3⟩ := row_shape ho7.out; have hq7 := (hf7.out.block q (by (try simp) <;> omega) hzq).trans ((heap_alloc_old _ _ hqV).trans HVQ.out); have f7 := Joins.unfrozen_of_block hq7 0; have k7 := Joins.cell_of_block hq7 0; clear hy3 hn7 hq7)
                          obtain ⟨hO2, hkE⟩ := OUT.push (V := V5) (V' := V5.alloc (.cells #[.int .i64 op, .int .i64 xx, .int .i64 yy, .int .i64 aa, .slice c1 r2 c3] 51)) (M := ⟨op, xx, yy, aa, c1, r2, c3⟩) (I := ⟨op, xx, yy, aa, P.l[r].R⟩) HQW.out HGW.out (HLQ.out).symm (by omega) HVK.out.size HVK.out.block rfl rfl rfl rfl HRL.out hsm (by rw [← HRL.out]; exact HR5.out) (by simp) (fun b hb => heap_alloc_old _ _ hb) hf7.out ho7.out
                          have hbE : Below B0 w (w7.setCell ⟨q, 0, none⟩ (.slice y1 (NK + r + 1) y3)) := by
                            refine ⟨hf7.out.os.trans (HVK.out.os.trans HB.out.os), hf7.out.tape.trans (HVK.out.tape.trans HB.out.tape), hf7.out.output.trans (HVK.out.output.trans HB.out.output), ?_, fun b hb => (hkE b (by omega) (by omega) (fun h => by have := (HROW.out.lt b h).1; omega)).trans (HB.out.block b hb)⟩
                            have h1 := hf7.out.size
                            have h2 := HVK.out.size
                            have h3 := HB.out.size
                            simp [World.setCell] at h1 ⊢
                            omega
                          have hYE := (hkE B0 (by omega) (by omega) (own_ne HROW.out HY.out (by decide))).trans HY.out
                          have hqE : q < (w7.setCell ⟨q, 0, none⟩ (.slice y1 (NK + r + 1) y3)).heap.size := by
                            have h1 := hf7.out.size
                            simp [World.setCell] at h1 ⊢
                            omega
                          rw [HMV.out, List.append_assoc, ← List.map_singleton (f := mvI (NK : Int) (k : Int)), ← List.map_append, ← List.take_succ_eq_append_getElem hrt] at hO2
                          exact ⟨⟨r + 1, by push_cast; rfl, by omega, hO2, hYE, hbE, hqE⟩, by simp [intOf]; omega⟩
                      · have b3 : decide ((r : Int) < (pn : Int)) = false := by simp; omega
                        obtain rfl : pn = r := by omega
                        have hO := HO.out
                        rw [List.take_of_length_le (by have := HLEN.out; omega), List.append_assoc] at hO
                        have hmm : movedL L k ++ P.l.map (mvI NK k) = movedL L (k + 1) := by rw [movedL_succ, ← HP.out, HNK.out]
                        rw [hmm] at hO
                        have HO2 := hid hO
                        clear hO hmm HO
                        go_wp2
                        exact ⟨⟨k + 1, by push_cast; rfl, by omega, HO2.out, HY.out, HB.out, hqw⟩, by simp [intOf]; omega⟩
                  · have b1 : decide ((k : Int) < (i : Int)) = false := by simp; omega
                    obtain rfl : k = i := by omega
                    obtain ⟨z1, cz, MS, hQw, hGw⟩ := HO.out
                    have hgl := grown_len L k (by have := HL.out; omega)
                    rw [HLI.out] at hgl
                    have hJ : altsL L (k - 1) ++ movedL L k = joinI L := by unfold joinI; rw [HLI.out, ← HL.out]
                    rw [hgl, HNE.out, ← HNN.out] at hQw hGw
                    rw [hJ] at hGw
                    obtain ⟨q0, q1, q2⟩ := three_cells hQw
                    have s0 := Joins.unfrozen_of_block HY.out 0
                    have s1 := Joins.unfrozen_of_block HY.out 1
                    have s2 := Joins.unfrozen_of_block HY.out 2
                    obtain ⟨y0, y1, y2⟩ := three_cells HY.out
                    have HG := hid hGw
                    have hE0 := HY.out
                    have HE0 := hid hE0
                    clear hQw hGw hgl hJ hE0
                    go_wp2_with fail
                    have hE0 := HE0.out
                    refine bodyPost_ret (results_cell_tmp rfl _ _ B0 24 _ (0, 0) _ rfl (Joins.block_setCell (i := 2) (Joins.block_setCell (i := 1) (Joins.block_setCell (i := 0) hE0 _) _) _) Try.underlying24 rfl (by kernel_rfl)) rfl ?_
                    obtain ⟨r1, r2, r3⟩ := res_ok HC0.out
                    refine ⟨z1, NN, cz, MS, by rw [r2, r3, HC0.out, ← HL.out]; rfl, ?_, ?_⟩
                    · rw [r1, ← HBE.out]
                      have t1 := HG.out.setOther (o := 0) hE0 (by decide) (by decide) (.slice z1 NN cz)
                      have t2 := t1.setOther (o := 1) (Joins.block_setCell (i := 0) hE0 _) (by decide) (by decide) (.int .i64 (joinS L))
                      exact t2.setOther (o := 2) (Joins.block_setCell (i := 1) (Joins.block_setCell (i := 0) hE0 _) _) (by decide) (by decide) _
                    · rw [← HBE.out]; exact ((HB.out.setCell (p := ⟨B0, 0, none⟩) (Nat.le_refl _) _).setCell (p := ⟨B0, 1, none⟩) (Nat.le_refl _) _).setCell (p := ⟨B0, 2, none⟩) (Nat.le_refl _) _
end Go.Proofs.Ytnecakampgdhcaa
