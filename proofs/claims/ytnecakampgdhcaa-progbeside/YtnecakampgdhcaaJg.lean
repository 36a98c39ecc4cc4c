/- HELPERS: Join. -/
import Derived.Test.YtnecakampgdhcaaJf
import Derived.Test.YtnecakampgdhcaaAg
namespace Go.Proofs.Ytnecakampgdhcaa
open Go.RowKit
set_option linter.unusedVariables false
set_option linter.unusedSimpArgs false
def resI (L : List Pg) : List In := if joinC L = 0 then joinI L else []
def resS (L : List Pg) : Int := if joinC L = 0 then joinS L else 0
def resK (L : List Pg) : Int := if joinC L = 0 then capsTo L L.length else 0
theorem res_no {L : List Pg} (h : joinC L ≠ 0) : resI L = [] ∧ resS L = 0 ∧ resK L = 0 := by simp [resI, resS, resK, h]
theorem res_ok {L : List Pg} (h : joinC L = 0) : resI L = joinI L ∧ resS L = joinS L ∧ resK L = capsTo L L.length := by simp [resI, resS, resK, h]
theorem joinC_arg {L : List Pg} (h : L.length < 1 ∨ 100 < L.length) : joinC L = 1 := by unfold joinC; rw [if_pos h]
theorem joinC_prog {L : List Pg} (h : ¬ (L.length < 1 ∨ 100 < L.length)) (h2 : allMay L = false) : joinC L = 90 := by unfold joinC; rw [if_neg h, if_pos h2]
theorem joinC_big {L : List Pg} (h : ¬ (L.length < 1 ∨ 100 < L.length)) (h2 : allMay L = true) (h3 : 20000 < ahead L L.length) : joinC L = 3 := by unfold joinC; rw [if_neg h, if_neg (by rw [h2]; simp), if_pos h3]
theorem joinC_ok {L : List Pg} (h : ¬ (L.length < 1 ∨ 100 < L.length)) (h2 : allMay L = true) (h3 : ¬ 20000 < ahead L L.length) : joinC L = 0 := by unfold joinC; rw [if_neg h, if_neg (by rw [h2]; simp), if_neg h3]
theorem GR.none (w : World) (base : Nat) : GR w base (.slice none 0 0) [] [] := GR.nil _ _ _ (World.ownsRow_nil _ _ _ _)
abbrev ZP : Array Value := #[.slice none 0 0, .int .i64 0, .int .i64 0]
theorem GR.mono {w : World} {base base' : Nat} {z : Value} {MS : List Iv} {l : List In} (h : GR w base z MS l) (hb : base' ≤ base) : GR w base' z MS l :=
  ⟨h.lms, h.row.mono hb, fun j hj => by
    have hO := h.lo j hj
    exact ⟨hO.op, hO.x, hO.y, hO.a, hO.len, hO.sm, hO.rr.mono hb, hO.ne⟩, h.pw⟩
/-- what Join answers -/
def JA (L : List Pg) (w : World) (e : Ending) (w' : World) : Prop := ∃ (z1 : Option Addr) (N cc : Nat) (MS : List Iv), e = .returned (.tuple #[pv z1 N cc (resS L) (resK L), .int .i64 (joinC L)]) ∧ GR w' w.heap.size (.slice z1 N cc) MS (resI L) ∧ Below w.heap.size w w'
theorem JA.no {L : List Pg} {w w' : World} {c : Int} (h : joinC L = c) (hc : c ≠ 0) (hb : Below w.heap.size w w') : JA L w (.returned (.tuple #[pv none 0 0 0 0, .int .i64 c])) w' := by
  obtain ⟨h1, h2, h3⟩ := res_no (L := L) (by rw [h]; exact hc)
  exact ⟨none, 0, 0, [], by rw [h2, h3, h], by rw [h1]; exact GR.none _ _, hb⟩
set_option maxRecDepth 100000 in
set_option maxHeartbeats 8000000 in
theorem join16 {w : World} {ad : Option Addr} {n c : Nat} {L : List Pg} (h : LP w w.heap.size ad n L) : Calls Try.prog 16 #[.slice ad n c] w (JA L w) := by
  have HL := hid h.len
  obtain ⟨B0, hB0⟩ : ∃ B0, B0 = w.heap.size := ⟨_, rfl⟩
  obtain ⟨U, hU⟩ : ∃ U, U = w.alloc (.cells ZP 24) := ⟨_, rfl⟩
  have hbU : Below B0 w U := by rw [hU, hB0]; exact Joins.below_alloc1 w _
  have hY : U.heap[B0]? = some (.cells ZP 24 (0, 0)) := by rw [hU, hB0]; exact heap_alloc_new w _
  have hB0U : B0 < U.heap.size := (Array.getElem?_eq_some_iff.1 hY).1
  have HBE := hid hB0
  have HLP : Hid (LP w B0 ad n L) := by rw [hB0]; exact h
  have HYU := hid hY
  have HBU := hid hbU
  clear h hY hbU
  by_cases hA : n < 1 ∨ 100 < n
  · have hC : joinC L = 1 := joinC_arg (by rw [← HL.out]; exact hA)
    have s0 := Joins.unfrozen_of_block HYU.out 0
    have s1 := Joins.unfrozen_of_block HYU.out 1
    have s2 := Joins.unfrozen_of_block HYU.out 2
    obtain ⟨y0, y1, y2⟩ := three_cells HYU.out
    have fin : JA L w (.returned (.tuple #[pv none 0 0 0 0, .int .i64 1])) (((U.setCell ⟨B0, 0, none⟩ (.slice none 0 0)).setCell ⟨B0, 1, none⟩ (.int .i64 0)).setCell ⟨B0, 2, none⟩ (.int .i64 0)) := JA.no hC (by decide) (by rw [← HBE.out]; exact ((HBU.out.setCell (p := ⟨B0, 0, none⟩) (Nat.le_refl _) _).setCell (p := ⟨B0, 1, none⟩) (Nat.le_refl _) _).setCell (p := ⟨B0, 2, none⟩) (Nat.le_refl _) _)
    have hQE : (((U.setCell ⟨B0, 0, none⟩ (.slice none 0 0)).setCell ⟨B0, 1, none⟩ (.int .i64 0)).setCell ⟨B0, 2, none⟩ (.int .i64 0)).heap[B0]? = some (.cells ZP 24 (0, 0)) := Joins.block_setCell (i := 2) (Joins.block_setCell (i := 1) (Joins.block_setCell (i := 0) HYU.out _) _) _
    have HF := hid fin
    have HQE := hid hQE
    clear fin hQE
    by_cases h0 : n < 1
    · have b1 : decide ((n : Int) < 1) = true := by simp; omega
      go_enter Try.func16, Try.ntmps16
      go_upto_region 1 with fail
      rw [← hU, ← hB0]
      clear hU hB0
      go_wp2

      refine bodyPost_ret (results_cell_tmp rfl _ _ B0 24 _ (0, 0) _ rfl HQE.out Try.underlying24 rfl (by kernel_rfl)) rfl ?_
      exact HF.out
    · have b1 : decide ((n : Int) < 1) = false := by simp; omega
      have b2 : decide ((n : Int) > 100) = true := by simp; omega
      have b3 : decide ((100 : Int) < (n : Int)) = true := by simp; omega
      go_enter Try.func16, Try.ntmps16
      go_upto_region 1 with fail
      rw [← hU, ← hB0]
      clear hU hB0
      go_wp2
      refine bodyPost_ret (results_cell_tmp rfl _ _ B0 24 _ (0, 0) _ rfl HQE.out Try.underlying24 rfl (by kernel_rfl)) rfl ?_
      exact HF.out
  · have h1 : 1 ≤ n := by omega
    have h2 : n ≤ 100 := by omega
    have hA' : ¬ (L.length < 1 ∨ 100 < L.length) := by rw [← HL.out]; exact hA
    have b1 : decide ((n : Int) < 1) = false := by simp; omega
    have b2 : decide ((n : Int) > 100) = false := by simp; omega
    have b3 : decide ((100 : Int) < (n : Int)) = false := by simp; omega
    have a1 : IntKind.i64.wrap ((n : Int) - 1) = (ahead L 0 : Int) := by rw [wrap_ok _ (by omega) (by omega), ahead_zero]; have := HL.out; omega
    go_enter Try.func16, Try.ntmps16
    go_upto_region 1 with fail
    rw [← hU, ← hB0]
    clear hU hB0
    go_wp2
    clear b1 b2 b3 a1 hA
    have HAA := hid hA'
    clear hA'
    go_loopw [4, 21] (fun u y wq => ∃ i : Nat, u = .int .i64 (ahead L i : Int) ∧ y = .int .i64 (i : Int) ∧ i ≤ n ∧ Hid (mayTo L i) ∧ Hid (wq.heap[B0]? = some (.cells ZP 24 (0, 0))) ∧ Hid (Below B0 w wq) ∧ B0 < wq.heap.size) (fun _ y _ => n - (intOf y).toNat)
    case atStart => exact ⟨0, rfl, rfl, by omega, fun j hj => by omega, HYU.out, HBU.out, hB0U⟩
    case round =>
      clear HYU HBU hB0U
      obtain ⟨i, rfl, rfl, hi, HM, HY, HB, hB0w⟩ := hrel
      have hiL : i ≤ L.length := by have := HL.out; omega
      have hale := ahead_le i hiL (by have := HL.out; omega) HM.out
      by_cases hil : i < n
      · have b1 : decide ((i : Int) < (n : Int)) = true := by simp; omega
        have b2 : (i : Int) < (n : Int) := by omega
        have ad1 := wrap_ok ((i : Int) + 1) (by omega) (by omega)
        have hiL' : i < L.length := by have := HL.out; omega
        obtain ⟨b, o, PA, PN, PC, e, hbl, hcs⟩ := HLP.out.mem (by omega)
        subst e
        obtain ⟨hP3, hPI, hPN⟩ := hcs i hil
        obtain ⟨m0, m1, m2⟩ := hP3.kept (HB.out.block b hbl)
        have hsu := ahead_succ L i hiL'
        have hlen := hPI.len
        clear hcs hP3
        obtain ⟨pa, hpa⟩ : ∃ pa, pa = PA i := ⟨_, rfl⟩
        obtain ⟨pn, hpn⟩ : ∃ pn, pn = PN i := ⟨_, rfl⟩
        obtain ⟨pc, hpc⟩ : ∃ pc, pc = PC i := ⟨_, rfl⟩
        rw [← hpa, ← hpn, ← hpc] at m0
        rw [← hpa, ← hpn] at hPI
        rw [← hpn] at hlen
        clear hpa hpn hpc hPN
        obtain ⟨P, hP⟩ : ∃ P, P = L.getD i default := ⟨_, rfl⟩
        rw [← hP] at m1 m2 hPI hsu hlen
        have HP := hid hP
        obtain ⟨V1, hV1⟩ : ∃ V1, V1 = wr.alloc (.cells #[.slice pa pn pc, .int .i64 P.s, .int .i64 P.k] 24) := ⟨_, rfl⟩
        have hbV1 : Below wr.heap.size wr V1 := by rw [hV1]; exact Joins.below_alloc1 wr _
        have hX1 : V1.heap[wr.heap.size]? = some (.cells #[.slice pa pn pc, .int .i64 P.s, .int .i64 P.k] 24 (0, 0)) := by rw [hV1]; exact heap_alloc_new wr _
        have hB0V : Below B0 w V1 := HB.out.trans (Joins.below_le hbV1 (by omega))
        have HC := maybe24 (c := pc) (s := P.s) (k := P.k) (hPI.kept hB0V (B' := V1.heap.size) (by have := hbV1.size; omega))
        have HY1 : Hid (V1.heap[B0]? = some (.cells ZP 24 (0, 0))) := (hbV1.block B0 hB0w).trans HY.out
        have hV1s : wr.heap.size < V1.heap.size := (Array.getElem?_eq_some_iff.1 hX1).1
        have HBV1 := hid hB0V
        obtain ⟨p, hp⟩ : ∃ p, p = wr.heap.size := ⟨_, rfl⟩
        rw [← hp] at hX1 hV1s
        have HX1 := hid hX1
        obtain ⟨c0, c1, c2⟩ := three_cells hX1
        have HSU := hid hsu
        have HLEN := hid hlen
        have hBp : B0 < p := by omega
        clear hP hPI hsu hlen hbV1 hX1 hB0V
        go_upto_region 7 with fail
        rw [← hV1, ← hp]
        clear hV1 hp m0 m1 m2
        cases hg : mayB P.l P.s P.k
        · rw [hg] at HC
          have hC : joinC L = 90 := joinC_prog HAA.out (not_all i hiL' (by rw [← HP.out]; exact hg))
          go_upto_region 8 with (go_at_call 24; (with_reducible refine HC.mono ?_); rintro e w2 ⟨rfl, hb2⟩; have HB2 := hid hb2; clear hb2 HC)
          have hY2 := (HB2.out.block B0 (by omega)).trans HY1.out
          have s0 := Joins.unfrozen_of_block hY2 0
          have s1 := Joins.unfrozen_of_block hY2 1
          have s2 := Joins.unfrozen_of_block hY2 2
          obtain ⟨y0, y1, y2⟩ := three_cells hY2
          have hbw2 : Below B0 w w2 := HBV1.out.trans (Joins.below_le HB2.out (by omega))
          have HY2 := hid hY2
          have HBW2 := hid hbw2
          clear hY2 hbw2 c0 c1 c2
          go_wp2
          refine bodyPost_ret (results_cell_tmp rfl _ _ B0 24 _ (0, 0) _ rfl (Joins.block_setCell (i := 2) (Joins.block_setCell (i := 1) (Joins.block_setCell (i := 0) HY2.out _) _) _) Try.underlying24 rfl (by kernel_rfl)) rfl ?_
          exact JA.no hC (by decide) (by rw [← HBE.out]; exact ((HBW2.out.setCell (p := ⟨B0, 0, none⟩) (Nat.le_refl _) _).setCell (p := ⟨B0, 1, none⟩) (Nat.le_refl _) _).setCell (p := ⟨B0, 2, none⟩) (Nat.le_refl _) _)
        · rw [hg] at HC
          have hmk := may_ok hg
          have ad3 : IntKind.i64.wrap ((ahead L i : Int) + (pn : Int)) = (ahead L (i + 1) : Int) := by rw [HSU.out, ← HLEN.out, wrap_ok _ (by have := HLEN.out; omega) (by have := HLEN.out; omega)]; push_cast; rfl
          go_upto_region 9 with (go_at_call 24; (with_reducible refine HC.mono ?_); rintro e w2 ⟨rfl, hb2⟩; have HB2 := hid hb2; clear hb2 HC)
          clear c0 c1 c2
          obtain ⟨c0, c1, c2⟩ := three_cells ((HB2.out.block p hV1s).trans HX1.out)
          clear hmk hale
          go_wp2
          refine ⟨⟨i + 1, rfl, by push_cast; rfl, by omega, fun j hj => ?_, (HB2.out.block B0 (by omega)).trans HY1.out, HBV1.out.trans (Joins.below_le HB2.out (by omega)), by have := HB2.out.size; omega⟩, by simp [intOf]; omega⟩
          by_cases e : j = i
          · subst e; rw [← HP.out]; exact hg
          · exact HM.out j (by omega)
      · have b1 : decide ((i : Int) < (n : Int)) = false := by simp; omega
        obtain rfl : i = n := by omega
        have hall : allMay L = true := all_mayTo (by rw [← HL.out]; exact HM.out)
        have s0 := Joins.unfrozen_of_block HY.out 0
        have s1 := Joins.unfrozen_of_block HY.out 1
        have s2 := Joins.unfrozen_of_block HY.out 2
        obtain ⟨y0, y1, y2⟩ := three_cells HY.out
        have hNe : ahead L i = ahead L L.length := by rw [← HL.out]
        obtain ⟨NN, hNN⟩ : ∃ NN, NN = ahead L L.length := ⟨_, rfl⟩
        rw [hNe, ← hNN]
        by_cases hbig : 20000 < NN
        · have b4 : decide ((NN : Int) > 20000) = true := by simp; omega
          have b5 : decide ((20000 : Int) < (NN : Int)) = true := by simp; omega
          have hC : joinC L = 3 := joinC_big HAA.out hall (by omega)
          clear hNN hNe hale
          go_wp2
          refine bodyPost_ret (results_cell_tmp rfl _ _ B0 24 _ (0, 0) _ rfl (Joins.block_setCell (i := 2) (Joins.block_setCell (i := 1) (Joins.block_setCell (i := 0) HY.out _) _) _) Try.underlying24 rfl (by kernel_rfl)) rfl ?_
          exact JA.no hC (by decide) (by rw [← HBE.out]; exact ((HB.out.setCell (p := ⟨B0, 0, none⟩) (Nat.le_refl _) _).setCell (p := ⟨B0, 1, none⟩) (Nat.le_refl _) _).setCell (p := ⟨B0, 2, none⟩) (Nat.le_refl _) _)
        · have b4 : decide ((NN : Int) > 20000) = false := by simp; omega
          have b5 : decide ((20000 : Int) < (NN : Int)) = false := by simp; omega
          have hC : joinC L = 0 := joinC_ok HAA.out hall (by omega)
          have hlp : LP wr wr.heap.size ad i L := HLP.out.kept HB.out (by omega)
          have HJ := joined25 (c := c) hlp h1 h2 (mayTo_all hall) (by omega)
          rw [← hNN] at HJ
          clear hlp hNN hNe hale y0 y1 y2 s0 s1 s2
          go_upto_region 13 with fail
          go_wp2_with (go_at_call 25; (with_reducible refine HJ.mono ?_); rintro e w2 ⟨z1, cc, MS, rfl, hG, hb2⟩; have hY2 := (hb2.block B0 hB0w).trans HY.out; have s0 := Joins.unfrozen_of_block hY2 0; have s1 := Joins.unfrozen_of_block hY2 1; have s2 := Joins.unfrozen_of_block hY2 2; obtain ⟨y0, y1, y2⟩ := three_cells hY2; have HY2 := hid hY2; have HB2 := hid hb2; have HG := hid hG; clear hb2 hG hY2 HJ)
          have hE0 := HY2.out
          refine bodyPost_ret (results_cell_tmp rfl _ _ B0 24 _ (0, 0) _ rfl (Joins.block_setCell (i := 2) (Joins.block_setCell (i := 1) (Joins.block_setCell (i := 0) hE0 _) _) _) Try.underlying24 rfl (by kernel_rfl)) rfl ?_
          obtain ⟨r1, r2, r3⟩ := res_ok hC
          have hbw2 : Below B0 w w2 := HB.out.trans (Joins.below_le HB2.out (by omega))
          refine ⟨z1, NN, cc, MS, by rw [r2, r3, hC, ← HL.out]; rfl, ?_, ?_⟩
          · rw [r1, ← HBE.out]
            have t0 := HG.out.mono (base' := B0) (by omega)
            have t1 := t0.setOther (o := 0) hE0 (by decide) (by decide) (.slice z1 NN cc)
            have t2 := t1.setOther (o := 1) (Joins.block_setCell (i := 0) hE0 _) (by decide) (by decide) (.int .i64 (joinS L))
            exact t2.setOther (o := 2) (Joins.block_setCell (i := 1) (Joins.block_setCell (i := 0) hE0 _) _) (by decide) (by decide) _
          · rw [← HBE.out]; exact ((hbw2.setCell (p := ⟨B0, 0, none⟩) (Nat.le_refl _) _).setCell (p := ⟨B0, 1, none⟩) (Nat.le_refl _) _).setCell (p := ⟨B0, 2, none⟩) (Nat.le_refl _) _
end Go.Proofs.Ytnecakampgdhcaa
