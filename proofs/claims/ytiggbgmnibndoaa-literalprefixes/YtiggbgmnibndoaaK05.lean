/- HELPERS: Nn, Nq, Oi, Oj, Qi, Qj, Di, Ln, Kp, Tu, Dj, Dk, Dl. -/
import Derived.Test.YtiggbgmnibndoaaK04
import Derived.Deep.Slices
import Derived.Deep.MidRow
import Derived.Laws.IdiomCopy
/- HELPERS: numbers that are lent, and back. -/
namespace Go.Proofs.Ytiggbgmnibndoaa
open Go.RowKit Go.Lk Kmp
set_option linter.unusedVariables false
set_option linter.unusedSimpArgs false
theorem mark71 {tx : List Int} {tn : Nat} (h : tn = tx.length) : (I64 (tx ++ [-71, -72]))[tn]? = some (.int .i64 (-71)) := by
  subst h; simp [I64]
theorem mark72 {tx : List Int} {tn : Nat} (h : tn = tx.length) : (I64 (tx ++ [-71, -72]))[tn + 1]? = some (.int .i64 (-72)) := by
  subst h; simp [I64]
theorem marks2 {tx : List Int} {tn : Nat} (h : tn = tx.length) : ((I64 (tx ++ [0, 0])).set tn (.int .i64 (-71))).set (tn + 1) (.int .i64 (-72)) = I64 (tx ++ [-71, -72]) := by
  subst h
  simp only [I64, List.map_append]
  rw [List.set_append_right _ _ (by simp), List.set_append_right _ _ (by simp)]
  simp
/-- a lent row -/
def LR (w : World) (N tb tn : Nat) (tx : List Int) : Prop := w.ownsRow N 3 1 (.slice (some ⟨tb, 0, none⟩) (tn + 2) (tn + 2)) (tn + 2) (I64 (tx ++ [-71, -72]))
theorem LR.text {w : World} {N tb n : Nat} {l : List Int} (hn : n = l.length) (h : LR w N tb n l) (hl : n ≤ 17592186043904) : TextAt w.heap.size w (some ⟨tb, 0, none⟩) n l := by
  refine ⟨hn, by omega, .inr ⟨tb, 0, rfl, (World.ownsRow.lt h tb rfl).2, fun k hk => ?_⟩⟩
  rw [Nat.zero_add, World.ownsRow.cellAt h k (by omega)]
  simp only [I64, List.map_append]
  rw [List.getElem?_append_left (by simp; omega)]
  simp [List.getD_eq_getElem?_getD, show k < l.length by omega]
theorem LR.kept {w w' : World} {N tb n : Nat} {l : List Int} (h : LR w N tb n l) (hb : Below w.heap.size w w') : LR w' N tb n l := row_kept h (fun b hb' => hb.block b (World.ownsRow.lt h b hb').2)
theorem LR.blk {w : World} {N tb n : Nat} {l : List Int} (h : LR w N tb n l) : N ≤ tb ∧ tb < w.heap.size := World.ownsRow.lt h tb rfl
set_option maxRecDepth 100000 in
set_option maxHeartbeats 8000000 in
theorem lent18 {w : World} {tad : Option Addr} {tn tc : Nat} {tx : List Int} (hT : TextAt w.heap.size w tad tn tx) (htn : tn ≤ 17592186043904) :
    Calls Try.prog 18 #[.slice tad tn tc] w fun e w' => ∃ tb, e = .returned (.slice (some ⟨tb, 0, none⟩) (tn + 2) (tn + 2)) ∧ LR w' w.heap.size tb tn tx ∧ Below w.heap.size w w' := by
  have htl : tn = tx.length := hT.1
  have hmk := make29 (tn + 2) (by omega) w
  have hr0 := made29 (tn + 2) w.heap.size w (Nat.le_refl _) (by omega)
  obtain ⟨M, hM⟩ : ∃ M, M = w.alloc (.cells (madeCells #[.int .i64 0] (tn + 2)) 3) := ⟨_, rfl⟩
  obtain ⟨tb, htb⟩ : ∃ tb, tb = w.heap.size := ⟨_, rfl⟩
  have hbM : Below w.heap.size w M := by rw [hM]; exact Joins.below_alloc1 w _
  rw [← hM, ← htb] at hmk hr0
  rw [show ((tn + 2 : Nat) : Int) = (tn : Int) + 2 by omega] at hmk
  obtain ⟨M2, hcp, hrow2, hch2⟩ := copy29 (tc := tc) (z := 2) ((hT.below hbM).mono hbM.size) hr0
  have hst := row_setC (row_setC hrow2 tn (.int .i64 (-71))) (tn + 1) (.int .i64 (-72))
  rw [show List.replicate 2 (0 : Int) = [0, 0] from rfl, marks2 htl] at hst
  have d0 := (row_there hrow2 (j := tn) (m := 1) (by omega) 0 (by omega))
  rw [Nat.add_zero] at d0
  obtain ⟨v0, hv0⟩ := Option.isSome_iff_exists.1 d0.1
  have f0 := d0.2
  obtain ⟨M3, hM3⟩ : ∃ M3, M3 = M2.setCell ⟨tb, tn, none⟩ (.int .i64 (-71)) := ⟨_, rfl⟩
  obtain ⟨M4, hM4⟩ : ∃ M4, M4 = M3.setCell ⟨tb, tn + 1, none⟩ (.int .i64 (-72)) := ⟨_, rfl⟩
  have d1 := row_there (row_setC hrow2 tn (.int .i64 (-71))) (j := tn + 1) (m := 1) (by omega) 0 (by omega)
  rw [Nat.add_zero, ← hM3] at d1
  obtain ⟨v1, hv1⟩ := Option.isSome_iff_exists.1 d1.1
  have f1 := d1.2
  have hch4 : Chg M M4 [tb] [tb] := by rw [hM4, hM3]; exact (hch2.set (a := ⟨tb, tn, none⟩) _ (by simp)).set (a := ⟨tb, tn + 1, none⟩) _ (by simp)
  have hbT : Below w.heap.size M M4 := hch4.below hbM.size (by simp; omega)
  rw [← hM3, ← hM4] at hst
  have HST := hid hst
  have HB := hid (hbM.trans hbT)
  have HM3 := hid hM3
  have HM4 := hid hM4
  have HTB := hid htb
  have a2 : IntKind.i64.wrap ((tn : Int) + 2) = (tn : Int) + 2 := wrap_ok _ (by omega) (by omega)
  have a1 : IntKind.i64.wrap ((tn : Int) + 1) = (tn : Int) + 1 := wrap_ok _ (by omega) (by omega)
  have b1 : (tn : Int) < (tn : Int) + 2 := by omega
  have b2 : (tn : Int) + 1 < (tn : Int) + 2 := by omega
  have b3 : (tn : Int) ≤ (tn : Int) + 2 := by omega
  clear hT htl hr0 hM htb hbM hrow2 hch2 hst d0 d1 hch4 hbT hM3 hM4
  go_enter Try.func18, Try.ntmps18
  go_upto_region 2 with fail
  clear hmk
  go_upto_region 3 with fail
  clear hcp
  go_upto_region 4 with fail
  rw [← HM3.out]
  clear hv0 f0
  go_upto_region 5 with fail
  rw [← HM4.out]
  clear hv1 f1
  go_wp2
  go_ret
  exact ⟨tb, rfl, by rw [← HTB.out]; exact HST.out, HB.out⟩
theorem txt_ints {w : World} {N n c : Nat} {ad : Option Addr} {l : List Int} (h : TextAt N w ad n l) : IntsC w (.slice ad n c) l := by
  obtain ⟨rfl, h2, h3⟩ := h
  refine ⟨ad, c, rfl, h3.imp id ?_⟩
  rintro ⟨b, off, e, _, hc⟩
  exact ⟨b, off, e, hc⟩
set_option maxRecDepth 100000 in
set_option maxHeartbeats 8000000 in
theorem back20 {w : World} {tad : Option Addr} {tn tc tb : Nat} {N : Nat} {tx : List Int} (hR : LR w N tb tn tx) (hT : TextAt w.heap.size w tad tn tx) (htn : tn ≤ 17592186043904) :
    Calls Try.prog 20 #[.slice (some ⟨tb, 0, none⟩) (tn + 2) (tn + 2), .slice tad tn tc] w fun e w' => e = .returned (.bool true) ∧ Chg w w' [tb] [tb] := by
  have htl : tn = tx.length := hT.1
  have hsame := same14 tx tx (.slice (some ⟨tb, 0, none⟩) tn (tn + 2)) (.slice tad tn tc) w (txt_ints (hR.text htl htn)) (txt_ints hT) (by omega) (by omega)
  rw [show decide (tx = tx) = true by simp] at hsame
  have m1 := (World.ownsRow.cellAt hR tn (by omega)).trans (mark71 htl)
  have m2 := (World.ownsRow.cellAt hR (tn + 1) (by omega)).trans (mark72 htl)
  have a1 : IntKind.i64.wrap ((tn : Int) + 1) = (tn : Int) + 1 := wrap_ok _ (by omega) (by omega)
  have b1 : (tn : Int) < (tn : Int) + 2 := by omega
  have b2 : (tn : Int) + 1 < (tn : Int) + 2 := by omega
  have b3 : (tn : Int) ≤ (tn : Int) + 2 := by omega
  have HS := hid hsame
  have HR := hid hR
  have HM1 := hid m1
  have HM2 := hid m2
  clear hR hT htl hsame m1 m2
  go_enter Try.func20, Try.ntmps20
  go_upto_region 3 with (go_at_call 15; (with_reducible refine HS.out.mono ?_); rintro e w2 ⟨rfl, hw⟩; obtain ⟨q, hw⟩ := hw; have HE : Hid (Eqw w w2) := (by show Eqw w w2; rw [hw]; exact Eqw.drewN _ _); clear hw)
  have m1 := (cell_eq (HE.out.blk tb) tn).trans HM1.out
  have m2 := (cell_eq (HE.out.blk tb) (tn + 1)).trans HM2.out
  go_wp2_with fail
  clear m1 m2 HM1 HM2 HS
  go_loopw [7] (fun v7 wr => ∃ (i : Nat) (xs : List Value), v7 = .int .i64 (i : Int) ∧ i ≤ tn + 2 ∧ Hid (wr.ownsRow N 3 1 (.slice (some ⟨tb, 0, none⟩) (tn + 2) (tn + 2)) (tn + 2) xs) ∧ Hid (Chg w wr [tb] [tb])) (fun v7 _ => tn + 2 - (intOf v7).toNat)
  case atStart => exact ⟨0, _, rfl, by omega, HE.out.row HR.out, Chg.of_below (HE.out.below _)⟩
  case round =>
    obtain ⟨i, xs, rfl, hi, HO, HC⟩ := hrel
    by_cases hil : i < tn + 2
    · have c1 : decide ((i : Int) < (tn : Int) + 2) = true := by simp; omega
      have c2 : (i : Int) < (tn : Int) + 2 := by omega
      have ad1 : IntKind.i64.wrap ((i : Int) + 1) = (i : Int) + 1 := wrap_ok _ (by omega) (by omega)
      have d0 := (row_there HO.out (j := i) (m := 1) (by omega) 0 (by omega))
      rw [Nat.add_zero] at d0
      obtain ⟨v0, hv0⟩ := Option.isSome_iff_exists.1 d0.1
      have f0 := d0.2
      have HN := hid (row_setC HO.out i (.int .i64 97))
      have HCN : Hid (Chg w (wr.setCell ⟨tb, i, none⟩ (.int .i64 97)) [tb] [tb]) := HC.out.set _ (by simp)
      clear d0
      go_wp2
      exact ⟨⟨i + 1, _, by push_cast; rfl, by omega, HN.out, HCN.out⟩, by simp [intOf]; omega⟩
    · have c1 : decide ((i : Int) < (tn : Int) + 2) = false := by simp; omega
      go_wp2
      go_ret
      exact ⟨rfl, HC.out⟩
end Go.Proofs.Ytiggbgmnibndoaa
/- HELPERS: the document's Prefix. -/
namespace Go.Proofs.Ytiggbgmnibndoaa
open Go.RowKit Go.Lk
set_option linter.unusedVariables false
set_option linter.unusedSimpArgs false
theorem RSt.new' {w W : World} {x : Nat} {cs : Array Value} (n : Nat) (hx : W.heap[x]? = some (.cells cs 27 (0, 0))) (hb : Below x w W) : RSt w x W.heap.size n cs (W.alloc (.cells (madeCells #[.bool false] n) 4)) [] (.slice none 0 0) [] :=
  have hxl : x < W.heap.size := (Array.getElem?_eq_some_iff.1 hx).1
  ⟨(heap_alloc_old _ _ hxl).trans hx, Mtd.new W n, World.ownsRow_nil _ _ _ _, hb.trans (Joins.below_le (Joins.below_alloc1 _ _) (by omega)), hxl⟩
set_option maxRecDepth 100000 in
set_option maxHeartbeats 4000000 in
theorem rprefix12_no {w : World} {ad : Option Addr} {n c : Nat} {s k : Int} {l : List In} (hP : PI w w.heap.size ad n l) (hm : mayB l s k = false) : Calls Try.prog 12 #[pv ad n c s k] w fun e w' => e = .returned (.tuple #[.slice none 0 0, .bool false]) ∧ Below w.heap.size w w' := by
  have hb := Joins.below_alloc1 w (.cells #[.slice ad n c, .int .i64 s, .int .i64 k] 27)
  obtain ⟨U, hU⟩ : ∃ U, U = w.alloc (.cells #[.slice ad n c, .int .i64 s, .int .i64 k] 27) := ⟨_, rfl⟩
  rw [← hU] at hb
  have hX : U.heap[w.heap.size]? = some (.cells #[.slice ad n c, .int .i64 s, .int .i64 k] 27 (0, 0)) := by rw [hU]; exact heap_alloc_new w _
  have hck := rcheck9 (c := c) (s := s) (k := k) (hP.kept hb hb.size)
  rw [hm] at hck
  simp only [Bool.false_eq_true, if_false] at hck
  obtain ⟨x, hx⟩ : ∃ x, x = w.heap.size := ⟨_, rfl⟩
  have HB := hid hb
  rw [← hx] at hX HB ⊢
  have hxl : x < U.heap.size := (Array.getElem?_eq_some_iff.1 hX).1
  obtain ⟨c0, c1, c2⟩ := three_cells hX
  have HCK := hid hck
  clear hck hb hP hX hm
  go_enter Try.func12, Try.ntmps12
  go_upto_region 1 with fail
  rw [← hU, ← hx]
  clear hU hx
  go_wp2_with (go_at_call 24; (with_reducible refine HCK.out.mono ?_); rintro e w2 ⟨rfl, hb2⟩; have HB2 := hid hb2; clear hb2)
  go_ret2
  exact ⟨rfl, HB.out.trans (Joins.below_le HB2.out (by omega))⟩
set_option maxRecDepth 100000 in
set_option maxHeartbeats 8000000 in
theorem rprefix12_ok {w : World} {ad : Option Addr} {n c : Nat} {s k : Int} {l : List In} (hP : PI w w.heap.size ad n l) (hmay : mayB l s k = true) : Calls Try.prog 12 #[pv ad n c s k] w fun e w' => ∃ v, e = .returned (.tuple #[v, .bool (rowP l s.toNat).2]) ∧ w'.ownsRow w.heap.size 3 1 v (rowP l s.toNat).1.length (I64 (rowP l s.toNat).1) ∧ Below w.heap.size w w' := by
  have hm := may_ok hmay
  have hln := hP.len
  obtain ⟨S, rfl⟩ := Int.eq_ofNat_of_zero_le hm.2.1
  have hn20 : n ≤ 20000 := by omega
  have hSn : S < n := by omega
  have hway := Way.start (l := l) (S := S) (by omega)
  have hOK : ∀ i, i < n → (l.getD i default).okB l.length k = true := fun i hi => by
    rw [getD_in' (by omega)]
    exact hm.2.2.2.2.2 _ (List.getElem_mem _)
  have HP := hid hP
  have HOK := hid hOK
  have HLN := hid hln
  have HMK := fun W => make63 n hn20 W
  have hb := Joins.below_alloc1 w (.cells #[.slice ad n c, .int .i64 (S : Int), .int .i64 k] 27)
  obtain ⟨U, hU⟩ : ∃ U, U = w.alloc (.cells #[.slice ad n c, .int .i64 (S : Int), .int .i64 k] 27) := ⟨_, rfl⟩
  rw [← hU] at hb
  have hX : U.heap[w.heap.size]? = some (.cells #[.slice ad n c, .int .i64 (S : Int), .int .i64 k] 27 (0, 0)) := by rw [hU]; exact heap_alloc_new w _
  have hck := rcheck9 (c := c) (s := (S : Int)) (k := k) (hP.kept hb hb.size)
  rw [hmay] at hck
  simp only [if_true] at hck
  obtain ⟨x, hx⟩ : ∃ x, x = w.heap.size := ⟨_, rfl⟩
  have HB := hid hb
  rw [← hx] at hX HB
  have hxl : x < U.heap.size := (Array.getElem?_eq_some_iff.1 hX).1
  obtain ⟨c0, c1, c2⟩ := three_cells hX
  have HCK := hid hck
  have HX := hid hX
  have HWAY := hid hway
  clear hP hm hln hway hmay hOK hck hb hX
  go_enter Try.func12, Try.ntmps12
  go_upto_region 1 with fail
  rw [← hU, ← hx]
  have HXE := hid hx
  clear hU hx
  go_upto_region 5 with (go_at_call 24; (with_reducible refine HCK.out.mono ?_); rintro e w2 ⟨rfl, hb2⟩; obtain ⟨c0, c1, c2⟩ := three_cells ((hb2.block x hxl).trans HX.out); have HB2 := hid hb2; clear hb2)
  have hbx : Below x w w2 := HB.out.trans (Joins.below_le HB2.out (by omega))
  have hst := RSt.new' (w := w) n ((HB2.out.block x hxl).trans HX.out) hbx
  obtain ⟨mb, hmb⟩ : ∃ mb, mb = w2.heap.size := ⟨_, rfl⟩
  obtain ⟨U2, hU2⟩ : ∃ U2, U2 = w2.alloc (.cells (madeCells #[.bool false] n) 4) := ⟨_, rfl⟩
  rw [← hmb, ← hU2] at hst
  go_upto_region 6 with fail
  rw [← hU2, ← hmb]
  have HST := hid hst
  obtain ⟨t0, t1, t2⟩ := three_cells hst.box
  clear hU2 hmb HMK hst hbx
  go_wp2_with fail
  clear t0 t1 t2 c0 c1 c2
  go_loopw [5, 7] (fun v5 v7 wr => ∃ (i : Nat) (met : List Nat) (acc : List Int) (v : Value), v = v5 ∧ v7 = .int .i64 (i : Int) ∧ i < n ∧ Hid (RSt w x mb n #[.slice ad n c, .int .i64 (S : Int), .int .i64 k] wr met v acc) ∧ Hid (Way l S met acc i)) (fun _ _ wr => cW wr mb n)
  case atStart => exact ⟨S, [], [], _, rfl, rfl, hSn, HST.out, HWAY.out⟩
  case round =>
    obtain ⟨i, met, acc, v, rfl, rfl, hin, HR, HW⟩ := hrel
    obtain ⟨t0, t1, t2⟩ := three_cells HR.out.box
    have cm := HR.out.met.cell hin
    have fm := HR.out.met.unf i
    have b2 : (i : Int) < (n : Int) := by omega
    by_cases hmem : i ∈ met
    · rw [show met.contains i = true by simpa using hmem] at cm
      have HE := hid (HW.out.again hmem)
      go_wp2
      go_ret2
      refine ⟨v, by simp only [Int.toNat_natCast]; rw [HE.out]; rfl, ?_, ?_⟩
      · simp only [Int.toNat_natCast]
        rw [HE.out, ← HXE.out]
        exact HR.out.row
      · rw [← HXE.out]
        exact HR.out.bel
    · rw [show met.contains i = false by simpa using hmem] at cm
      obtain ⟨pb, po, N, hpa, hpb, hrd⟩ := pi_read HP.out hin
      subst hpa
      have hR1 := HR.out.mark hin
      have HF := hid (HR.out.met.fewer hin hmem)
      obtain ⟨I, hI⟩ : ∃ I, I = l.getD i default := ⟨_, rfl⟩
      have hwf := fun h5 => HW.out.fit hmem h5
      have hws := fun h5 h1 h7 h3 => HW.out.stop hmem h5 h1 h7 h3
      have hok := HOK.out i hin
      have hwo : oneB I = true → ∃ y : Nat, I.x = (y : Int) ∧ y < n ∧ Way l S (i :: met) (acc ++ [runeI I]) y := fun h1 => by
        rw [← hI] at hok
        have hx := ok_x hok (by rw [one_op h1]; rfl)
        refine ⟨I.x.toNat, by omega, by rw [HLN.out]; omega, ?_⟩
        have := HW.out.one hmem (by rw [← hI]; exact h1) (by rw [← hI]; omega)
        rw [← hI] at this
        exact this
      have hwp : I.op = 7 ∨ I.op = 3 → ∃ y : Nat, I.x = (y : Int) ∧ y < n ∧ Way l S (i :: met) acc y := fun h1 => by
        rw [← hI] at hok
        have hx := ok_x hok (by rcases h1 with h | h <;> rw [h] <;> rfl)
        refine ⟨I.x.toNat, by omega, by rw [HLN.out]; omega, ?_⟩
        have := HW.out.pass hmem (by rw [← hI]; exact h1) (by rw [← hI]; omega)
        rw [← hI] at this
        exact this
      rw [← hI] at hwf hws
      have HWF := hid hwf
      have HWS := hid hws
      have HWO := hid hwo
      have HWP := hid hwp
      have hrd' : ∀ W, Below x w W → I5 W pb po i N ∧ IM W W.heap.size N I := fun W hW => by rw [hI]; exact hrd W (by rw [← HXE.out]; exact hW)
      have HRD := hid hrd'
      have hpx : pb < x := by rw [HXE.out]; exact hpb
      obtain ⟨W1, hW1⟩ : ∃ W1, W1 = wr.setCell ⟨mb, i, none⟩ (.bool true) := ⟨_, rfl⟩
      rw [← hW1] at hR1 HF
      have HR1 := hid hR1
      have HW1 := hid hW1
      have h5 := (hrd' W1 hR1.bel).1
      obtain ⟨op, xx, yy, aa, r1, r2, r3⟩ := N
      obtain ⟨m0, m1, m2, m3, m4⟩ := h5
      obtain ⟨a0, a1, a2⟩ := three_cells hR1.box
      clear hR1 hW1 hI hwf hws hwo hwp hok hrd hrd' hmem HR HW hpb
      go_upto_region 9 with fail
      rw [← HW1.out]
      clear t0 t1 t2 cm fm HW1
      go_upto_region 11 with fail
      obtain ⟨V, hV⟩ : ∃ V, V = W1.alloc (.cells #[.int .i64 op, .int .i64 xx, .int .i64 yy, .int .i64 aa, .slice r1 r2 r3] 60) := ⟨_, rfl⟩
      rw [← hV]
      have hbV : Below W1.heap.size W1 V := by rw [hV]; exact Joins.below_alloc1 W1 _
      have hY : V.heap[W1.heap.size]? = some (.cells #[.int .i64 op, .int .i64 xx, .int .i64 yy, .int .i64 aa, .slice r1 r2 r3] 60 (0, 0)) := by rw [hV]; exact heap_alloc_new W1 _
      obtain ⟨y, hy⟩ : ∃ y, y = W1.heap.size := ⟨_, rfl⟩
      rw [← hy] at hY ⊢
      have hRV := HR1.out.below hbV
      have hIM := (HRD.out V hRV.bel).2
      have hFV : cW V mb n = cW W1 mb n := cW_kept (hbV.block mb HR1.out.met.lt)
      have HOP : Hid (op = I.op) := hIM.op
      have HXX : Hid (xx = I.x) := hIM.x
      have HIM := hid hIM
      have HRV := hid hRV
      have HFV := hid hFV
      have HY := hid hY
      obtain ⟨v0, v1, v2, v3, v4⟩ := five hY
      have hyl : y < V.heap.size := (Array.getElem?_eq_some_iff.1 hY).1
      clear hV hbV hY hy m0 m1 m2 m3 m4 a0 a1 a2 hRV hIM hFV HR1
      have HF2 : Hid (cW V mb n < cW wr mb n) := by show _ < _; rw [HFV.out]; exact HF.out
      by_cases g5 : op = 5
      · have b1 : (op == 5) = true := by simp [g5]
        have HE := hid (HWF.out (by rw [← HOP.out]; exact g5))
        clear g5
        go_wp2
        go_ret2
        refine ⟨v, by simp only [Int.toNat_natCast]; rw [HE.out]; rfl, ?_, ?_⟩
        · simp only [Int.toNat_natCast]
          rw [HE.out, ← HXE.out]
          exact HRV.out.row
        · rw [← HXE.out]
          exact HRV.out.bel
      · have b1 : (op == 5) = false := by simp [g5]
        have G5 : Hid (I.op ≠ 5) := by show I.op ≠ 5; rw [← HOP.out]; exact g5
        clear g5
        by_cases g7 : op = 7 ∨ op = 3
        · obtain ⟨z, hz, hzn, hway⟩ := HWP.out (by rw [← HOP.out]; exact g7)
          have HWY := hid hway
          have HXZ : Hid (xx = (z : Int)) := by show xx = z; rw [HXX.out, hz]
          rw [HXZ.out] at v1
          clear hz hway
          by_cases g8 : op = 7
          · have b3 : (op == 7) = true := by simp [g8]
            clear g7 g8
            go_wp2
            exact ⟨⟨z, _, _, v, rfl, rfl, hzn, HRV.out, HWY.out⟩, HF2.out⟩
          · have b3 : (op == 7) = false := by simp [g8]
            have b4 : (op == 3) = true := by simp; omega
            clear g7 g8
            go_wp2
            exact ⟨⟨z, _, _, v, rfl, rfl, hzn, HRV.out, HWY.out⟩, HF2.out⟩
        · have b3 : (op == 7) = false := by simp; omega
          have b4 : (op == 3) = false := by simp; omega
          have G7 : Hid (I.op ≠ 7 ∧ I.op ≠ 3) := by show _ ∧ _; rw [← HOP.out]; omega
          clear g7
          by_cases g1 : op = 1
          · have b5 : (op == 1) = true := by simp [g1]
            by_cases g2 : r2 = 1
            · have b6 : ((r2 : Int) == 1) = true := by simp; omega
              have b7 : (0 : Int) < (r2 : Int) := by omega
              obtain ⟨ad', cap, e, h0 | ⟨lb, off, rfl, hlb, hc0, hc1⟩⟩ := HIM.out.row
              · have := HIM.out.len; dsimp only at this; omega
              · simp only [Value.slice.injEq] at e
                obtain ⟨e1, -, -⟩ := e
                subst e1
                have hl1 : I.R.length = 1 := by have := HIM.out.len; dsimp only at this; omega
                have d0 := hc0 0 (by omega)
                have d1 := hc1 0 (by omega)
                simp only [Nat.zero_mul, Nat.add_zero] at d0 d1
                obtain ⟨lo, hlo⟩ : ∃ lo, lo = (I.R.getD 0 (0, 0)).1 := ⟨_, rfl⟩
                obtain ⟨hi, hhi⟩ : ∃ hi, hi = (I.R.getD 0 (0, 0)).2 := ⟨_, rfl⟩
                rw [← hlo] at d0
                rw [← hhi] at d1
                have hone : oneB I = decide (lo = hi) := by
                  have hop1 : I.op = 1 := by rw [← HOP.out]; exact g1
                  rw [oneB, hop1, hl1, ← hlo, ← hhi]
                  by_cases h : lo = hi <;> simp [h]
                have hrI : runeI I = lo := hlo.symm
                have HONE := hid hone
                have HRI := hid hrI
                have HLB := hid hlb
                clear hone hrI hlo hhi hc0 hc1 hl1 g1 g2
                by_cases g3 : lo = hi
                · have b8 : (lo == hi) = true := by simp [g3]
                  obtain ⟨z, hz, hzn, hway⟩ := HWO.out (by rw [HONE.out]; simpa using g3)
                  rw [HRI.out] at hway
                  have hal : acc.length ≤ n := by
                    have h1 := hway.ln
                    have h2 := nodup_le hway.nd hway.lt
                    rw [← HLN.out] at h2
                    simp at h1 h2
                    omega
                  have HWY := hid hway
                  have HXZ : Hid (xx = (z : Int)) := by show xx = z; rw [HXX.out, hz]
                  clear hz hway g3
                  go_upto_region 15 with fail
                  go_quiet (fail)
                  go_upto_region 16 with fail
                  obtain ⟨V2, hV2⟩ : ∃ V2, V2 = V.drewN nq := ⟨_, rfl⟩
                  rw [← hV2]
                  have hE2 : Eqw V V2 := by rw [hV2]; exact Eqw.drewN _ _
                  have hR2 := HRV.out.below (hE2.below _)
                  have HR2 := hid hR2
                  have HFX : Hid (cW V2 mb n < cW wr mb n) := by show _ < _; rw [cW_kept (hE2.blk mb)]; exact HF2.out
                  have d0' := (cell_eq (hE2.blk lb) off).trans d0
                  obtain ⟨v0, v1, v2, v3, v4⟩ := five ((hE2.blk y).trans HY.out)
                  have hyl2 : y < V2.heap.size := by rw [hE2.heap]; exact hyl
                  have HY2 := hid ((hE2.blk y).trans HY.out)
                  clear hV2 hE2 d0 d1 hR2
                  have HAPP : Hid (∀ v' w3, w3.ownsRow x 3 1 v' (acc.length + 1) (I64 acc ++ [.int .i64 lo]) → Moved (V2.alloc (.cells #[.int .i64 lo] 3)) w3 v v' → w3.cell? ⟨y, 1, none⟩ = some (.int .i64 (z : Int)) ∧ RSt w x mb n #[.slice (some ⟨pb, po, none⟩) n c, .int .i64 (S : Int), .int .i64 k] w3 (i :: met) v' (acc ++ [lo]) ∧ cW w3 mb n < cW wr mb n) := fun v' w3 ho hmv => by
                    have hR3 := HR2.out.app ho hmv
                    have hc := chg_moved hmv []
                    obtain ⟨arr, ha⟩ := met_type HR2.out.met
                    refine ⟨?_, hR3, ?_⟩
                    · rw [← HXZ.out]
                      exact (five ((hc.block y hyl2 (fun h => own_ne HR2.out.row HY2.out (by decide) (by simpa using h))).trans HY2.out)).2.1
                    · rw [cW_kept (hc.block mb HR2.out.met.lt (fun h => own_ne HR2.out.row ha (by decide) (by simpa using h)))]
                      exact HFX.out
                  go_wp2_with (at_builtin; refine wpList_append_one rfl (.tmp 72) (.tmp 78) 29 rfl x 3 (.int .i64 0) 8 Try.underlying29 info3 rfl v (.int .i64 lo) acc.length 1 (I64 acc) rfl HR2.out.row V2.heap.size rfl rfl rfl (by unfold maxLen; omega) (by omega) (by have := (Array.getElem?_eq_some_iff.1 HR2.out.box).1; omega) ?_; intro v' w3 ho hmv; obtain ⟨x1, hR3, hF3⟩ := HAPP.out v' w3 ho.out hmv.out; have HR3 := hid hR3; have HF3 := hid hF3; clear hR3 hF3 ho hmv)
                  exact ⟨⟨z, _, _, v', rfl, rfl, hzn, HR3.out, HWY.out⟩, HF3.out⟩
                · have b8 : (lo == hi) = false := by simp [g3]
                  have HE := hid (HWS.out G5.out (by rw [HONE.out]; simpa using g3) G7.out.1 G7.out.2)
                  clear g3
                  go_upto_region 15 with fail
                  go_quiet (fail)
                  go_wp2
                  go_ret2
                  refine ⟨v, by simp only [Int.toNat_natCast]; rw [HE.out]; rfl, ?_, ?_⟩
                  · simp only [Int.toNat_natCast]
                    rw [HE.out, ← HXE.out]
                    exact HRV.out.row
                  · rw [← HXE.out]
                    exact HRV.out.bel.trans ((Eqw.drewN _ _).below _)
            · have b6 : ((r2 : Int) == 1) = false := by simp; omega
              have HE := hid (HWS.out G5.out (by
                cases h : oneB I
                · rfl
                · simp only [oneB, Bool.and_eq_true, decide_eq_true_eq] at h
                  have := HIM.out.len
                  dsimp only at this
                  omega) G7.out.1 G7.out.2)
              clear g1 g2
              go_upto_region 15 with fail
              go_quiet (fail)
              go_wp2
              go_ret2
              refine ⟨v, by simp only [Int.toNat_natCast]; rw [HE.out]; rfl, ?_, ?_⟩
              · simp only [Int.toNat_natCast]
                rw [HE.out, ← HXE.out]
                exact HRV.out.row
              · rw [← HXE.out]
                exact HRV.out.bel.trans ((Eqw.drewN _ _).below _)
          · have b5 : (op == 1) = false := by simp [g1]
            have HE := hid (HWS.out G5.out (by
              cases h : oneB I
              · rfl
              · exact absurd (one_op h) (by rw [← HOP.out]; exact g1)) G7.out.1 G7.out.2)
            clear g1
            go_upto_region 15 with fail
            go_quiet (fail)
            go_wp2
            go_ret2
            refine ⟨v, by simp only [Int.toNat_natCast]; rw [HE.out]; rfl, ?_, ?_⟩
            · simp only [Int.toNat_natCast]
              rw [HE.out, ← HXE.out]
              exact HRV.out.row
            · rw [← HXE.out]
              exact HRV.out.bel.trans ((Eqw.drewN _ _).below _)
/-- the document's Prefix of any program -/
theorem rprefix12 {w : World} {ad : Option Addr} {n c : Nat} {s k : Int} {l : List In} (hP : PI w w.heap.size ad n l) : Calls Try.prog 12 #[pv ad n c s k] w fun e w' => ∃ v, e = .returned (.tuple #[v, .bool (preP l s k).2]) ∧ w'.ownsRow w.heap.size 3 1 v (preP l s k).1.length (I64 (preP l s k).1) ∧ Below w.heap.size w w' := by
  cases hm : mayB l s k
  · have hpre : preP l s k = ([], false) := by unfold preP; rw [hm]; rfl
    rw [hpre]
    exact (rprefix12_no hP hm).mono fun e w' ⟨h1, h2⟩ => ⟨_, h1, World.ownsRow_nil _ _ _ _, h2⟩
  · have hpre : preP l s k = rowP l s.toNat := by unfold preP; rw [if_pos hm]
    rw [hpre]
    exact rprefix12_ok hP hm
end Go.Proofs.Ytiggbgmnibndoaa
/- HELPERS: what holds through the loops of owned. Made by tools/genowned.py. -/
namespace Go.Proofs.Ytiggbgmnibndoaa
open Go.RowKit
set_option linter.unusedVariables false
set_option linter.unusedSimpArgs false
/-- all n cells of a slice are c -/
def Mark (w : World) (v : Value) (n : Nat) (c : Value) : Prop := ∃ ad cap, v = .slice ad n cap ∧ (n = 0 ∨ ∃ b, ad = some ⟨b, 0, none⟩ ∧ ∀ k, k < n → w.cell? ⟨b, k, none⟩ = some c)
theorem Mark.kept {w w' : World} {v : Value} {n : Nat} {c : Value} (h : Mark w v n c) (hk : ∀ b, v.ownBlock = some b → w'.heap[b]? = w.heap[b]?) : Mark w' v n c := by
  obtain ⟨ad, cap, rfl, h | ⟨b, rfl, hc⟩⟩ := h
  · exact ⟨ad, cap, rfl, .inl h⟩
  · exact ⟨_, cap, rfl, .inr ⟨b, rfl, fun k hk' => (World.cell?_of_block (a := ⟨b, k, none⟩) (hk b rfl)).trans (hc k hk')⟩⟩
theorem mark_own {w : World} {base e n : Nat} {v : Value} {c : Value} (h : w.ownsRow base e 1 v n (List.replicate n c)) : Mark w v n c := by
  rcases Joins.ownsRow_forms h with ⟨rfl, h0⟩ | ⟨g, cap, rfl⟩
  · exact ⟨none, 0, by rw [h0], .inl h0⟩
  · refine ⟨_, cap, rfl, .inr ⟨g, rfl, fun k hk => ?_⟩⟩
    rw [h.cellAt k (by omega)]
    simp [hk]
/-- a shorter slice at the head of an owned row's block -/
theorem mark_head {w : World} {base e n m : Nat} {v g : Value} {c : Value} (h : w.ownsRow base e 1 g m (List.replicate m c)) (hn : n ≤ m) (hf : ∃ ad cap, v = .slice ad n cap) (hb : ∀ ad cap, v = .slice ad n cap → 0 < n → ∃ b, ad = some ⟨b, 0, none⟩) (hbl : g.ownBlock = v.ownBlock) : Mark w v n c := by
  obtain ⟨ad, cap, rfl⟩ := hf
  by_cases h0 : n = 0
  · exact ⟨ad, cap, rfl, .inl h0⟩
  · obtain ⟨b, rfl⟩ := hb ad cap rfl (by omega)
    refine ⟨_, cap, rfl, .inr ⟨b, rfl, fun k hk => ?_⟩⟩
    rcases Joins.ownsRow_forms h with ⟨rfl, h1⟩ | ⟨g', cap', rfl⟩
    · simp [Value.ownBlock] at hbl
    · simp only [Value.ownBlock, Option.some.injEq] at hbl
      subst hbl
      rw [h.cellAt k (by omega)]
      simp [show k < m by omega]
/-- rows of one-cell elements of type E, in slices of type T, n of them; they lie as values in the block g; mk j is the j-th row's mark -/
structure Rws (E T : TypeId) (base g n : Nat) (v : Nat → Value) (len : Nat → Nat) (mk : Nat → Value) (w0 : World) : Prop where
  hg : g < w0.heap.size
  hgb : base ≤ w0.heap.size
  hd : ∀ i j, i < n → j < n → i ≠ j → ∀ b, (v i).ownBlock = some b → (v j).ownBlock ≠ some b
  hgv : ∀ j, j < n → (v j).ownBlock ≠ some g
  hlt : ∀ j, j < n → ∀ b, (v j).ownBlock = some b → base ≤ b ∧ b < w0.heap.size
  hone : ∀ j, (mk j).oneCell' = true
theorem own_kept {w w' : World} {base e n : Nat} {v : Value} {xs : List Value} (h : w.ownsRow base e 1 v n xs) (hk : ∀ b, v.ownBlock = some b → w'.heap[b]? = w.heap[b]?) : w'.ownsRow base e 1 v n xs := by
  refine ⟨h.1, ?_⟩
  rcases h.2 with hn | ⟨g, cap, cur, hv, hb, hg, rest⟩
  · exact .inl hn
  · exact .inr ⟨g, cap, cur, hv, hb, by rw [hk g (by rw [hv]; rfl)]; exact hg, rest⟩
section
variable {E T : TypeId} {base g n : Nat} {v : Nat → Value} {len : Nat → Nat} {mk : Nat → Value} {w0 : World}
/-- the first loops -/
structure I1 (E : TypeId) (base g n : Nat) (v : Nat → Value) (len : Nat → Nat) (w0 : World) (X : Nat → List Value) (w : World) : Prop where
  own : ∀ j, j < n → w.ownsRow base E 1 (v j) (len j) (X j)
  cel : ∀ j, j < n → w.cell? ⟨g, j, none⟩ = some (v j)
  siz : w.heap.size = w0.heap.size
  bel : Below base w0 w
def updR (X : Nat → List Value) (i : Nat) (l : List Value) : Nat → List Value := fun j => if j = i then l else X j
theorem I1.step {X : Nat → List Value} {w : World} (R : Rws E T base g n v len mk w0) (h : I1 E base g n v len w0 X w) {i k b cap : Nat} (hi : i < n) (hv : v i = .slice (some ⟨b, 0, none⟩) (len i) cap) (c : Value) :
    I1 E base g n v len w0 (updR X i ((X i).set k c)) (w.setCell ⟨b, k, none⟩ c) := by
  have hb : (v i).ownBlock = some b := by rw [hv]; rfl
  have hlt := R.hlt i hi b hb
  refine ⟨fun j hj => ?_, fun j hj => ?_, by simp [World.setCell, h.siz], h.bel.setCell hlt.1 _⟩
  · unfold updR
    split
    · rename_i e
      subst e
      have h1 := h.own j hj
      rw [hv] at h1 ⊢
      exact (h1.stored k c).1
    · rename_i e
      refine own_kept (h.own j hj) (fun b' hb' => heap_setCell_other w ⟨b, k, none⟩ b' c ?_)
      intro e2
      exact R.hd i j hi hj (fun e3 => e e3.symm) b hb (by rw [hb', e2])
  · rw [World.cell?_of_block (a := ⟨g, j, none⟩) (heap_setCell_other w ⟨b, k, none⟩ g c (fun e => R.hgv i hi (by rw [hb, e])))]
    exact h.cel j hj
def cnt (len : Nat → Nat) (q : Nat) : Nat := len (q / 2) + (if q % 2 = 0 then 20 else 0)
/-- where a value's block lies to the rest -/
def Sep (n : Nat) (v : Nat → Value) (w : World) (long : Value) (i : Nat) (x : Value) : Prop := ∀ b, x.ownBlock = some b → b < w.heap.size ∧ long.ownBlock ≠ some b ∧ ∀ t, i ≤ t → t < n → (v t).ownBlock ≠ some b
/-- the rows that are still to come, and what was kept -/
structure I3 (E T : TypeId) (base g n : Nat) (v : Nat → Value) (len : Nat → Nat) (mk : Nat → Value) (w0 : World) (i i' : Nat) (long : Value) (L : List Value) (w : World) : Prop where
  own : ∀ j, i' ≤ j → j < n → w.ownsRow base E 1 (v j) (len j) (List.replicate (len j) (mk j))
  cel : ∀ j, j < n → w.cell? ⟨g, j, none⟩ = some (v j)
  lon : w.ownsRow w0.heap.size T 1 long (2 * i) L
  mar : ∀ q, q < 2 * i → Mark w (L.getD q undef) (cnt len q) (mk (q / 2)) ∧ Sep n v w long i (L.getD q undef)
  siz : w0.heap.size ≤ w.heap.size
  bel : Below base w0 w
/-- what stays as it was where only one block, that of none of these, is written -/
theorem I3.kept {i i' : Nat} {long : Value} {L : List Value} {w w' : World} (R : Rws E T base g n v len mk w0) (h : I3 E T base g n v len mk w0 i i' long L w) (row : Option Nat)
    (hk : ∀ k, k < w.heap.size → row ≠ some k → w'.heap[k]? = w.heap[k]?) (hsz : w.heap.size ≤ w'.heap.size) (hb : Below base w0 w')
    (h1 : ∀ j, i' ≤ j → j < n → ∀ b, (v j).ownBlock = some b → row ≠ some b) (h2 : row ≠ some g) (h3 : ∀ b, long.ownBlock = some b → row ≠ some b) (h4 : ∀ q, q < 2 * i → ∀ b, (L.getD q undef).ownBlock = some b → row ≠ some b) :
    I3 E T base g n v len mk w0 i i' long L w' := by
  refine ⟨fun j hj hjn => own_kept (h.own j hj hjn) (fun b hb' => hk b (by have := (R.hlt j hjn b hb').2; have := h.siz; omega) (h1 j hj hjn b hb')), fun j hj => ?_, own_kept h.lon (fun b hb' => hk b (h.lon.lt b hb').2 (h3 b hb')), fun q hq => ?_, by have := h.siz; omega, hb⟩
  · rw [World.cell?_of_block (a := ⟨g, j, none⟩) (hk g (by have := R.hg; have := h.siz; omega) h2)]
    exact h.cel j hj
  · obtain ⟨hm, hs⟩ := h.mar q hq
    refine ⟨hm.kept (fun b hb' => hk b (hs b hb').1 (h4 q hq b hb')), fun b hb' => ?_⟩
    obtain ⟨s1, s2, s3⟩ := hs b hb'
    exact ⟨by omega, s2, s3⟩
/-- the row that grows -/
structure I4 (E T : TypeId) (base g n : Nat) (v : Nat → Value) (len : Nat → Nat) (mk : Nat → Value) (w0 : World) (i t : Nat) (long : Value) (L : List Value) (x : Value) (w : World) : Prop where
  inv : I3 E T base g n v len mk w0 i (i + 1) long L w
  mar : Mark w (v i) (len i) (mk i)
  own : w.ownsRow base E 1 x (len i + t) (List.replicate (len i + t) (mk i))
  blk : x.ownBlock = (v i).ownBlock ∨ ∃ b, x.ownBlock = some b ∧ w0.heap.size ≤ b ∧ long.ownBlock ≠ some b ∧ ∀ q, q < 2 * i → (L.getD q undef).ownBlock ≠ some b
theorem I4.start {i : Nat} {long : Value} {L : List Value} {w : World} (h : I3 E T base g n v len mk w0 i i long L w) (hi : i < n) : I4 E T base g n v len mk w0 i 0 long L (v i) w :=
  ⟨⟨fun j hj hjn => h.own j (by omega) hjn, h.cel, h.lon, h.mar, h.siz, h.bel⟩, mark_own (h.own i (Nat.le_refl _) hi), h.own i (Nat.le_refl _) hi, .inl rfl⟩
theorem form_head {w : World} {base e n : Nat} {v : Value} {xs : List Value} (h : w.ownsRow base e 1 v n xs) : (∃ ad cap, v = .slice ad n cap) ∧ ∀ ad cap, v = .slice ad n cap → 0 < n → ∃ b, ad = some ⟨b, 0, none⟩ := by
  rcases Joins.ownsRow_forms h with ⟨rfl, h0⟩ | ⟨g, cap, rfl⟩
  · refine ⟨⟨none, 0, by rw [h0]⟩, fun ad cap he hp => by omega⟩
  · refine ⟨⟨_, cap, rfl⟩, fun ad cap' he _ => ?_⟩
    simp only [Value.slice.injEq] at he
    exact ⟨g, he.1.symm⟩
theorem I4.step {i t : Nat} {long x x' : Value} {L : List Value} {w w' : World} {o : Obj} (R : Rws E T base g n v len mk w0) (h : I4 E T base g n v len mk w0 i t long L x w) (hi : i < n)
    (hf : ∃ ad cap, v i = .slice ad (len i) cap) (hfb : ∀ ad cap, v i = .slice ad (len i) cap → 0 < len i → ∃ b, ad = some ⟨b, 0, none⟩)
    (ho : w'.ownsRow base E 1 x' (len i + t + 1) (List.replicate (len i + t) (mk i) ++ [mk i])) (hm : Moved (w.alloc o) w' x x') : I4 E T base g n v len mk w0 i (t + 1) long L x' w' := by
  have ho' : w'.ownsRow base E 1 x' (len i + (t + 1)) (List.replicate (len i + (t + 1)) (mk i)) := by
    rw [← List.replicate_succ'] at ho
    exact ho
  have hsa : (w.alloc o).heap.size = w.heap.size + 1 := by simp
  have hBx : ∀ k, x.ownBlock = some k → base ≤ k ∧ k < w.heap.size := fun k hk => h.own.lt k hk
  -- which blocks are as they were
  have hkeep : ∀ k, k < w.heap.size → x.ownBlock ≠ some k → w'.heap[k]? = w.heap[k]? := by
    intro k hk hne
    have ha : (w.alloc o).heap[k]? = w.heap[k]? := heap_alloc_old w o hk
    rcases hm with ⟨_, hg⟩ | ⟨_, hg⟩
    · rw [hg.block k (by omega) (fun e => hne e.symm), ha]
    · rw [hg.block k (by omega) (by simp), ha]
  have hsz : w.heap.size ≤ w'.heap.size := by
    rcases hm with ⟨_, hg⟩ | ⟨_, hg⟩ <;> (have := hg.size; omega)
  have hbel : Below base w0 w' := by
    have hb0 : Below base w0 (w.alloc o) := h.inv.bel.alloc (by have := R.hgb; have := h.inv.siz; omega) o
    have hbs : base ≤ (w.alloc o).heap.size := by have := R.hgb; have := h.inv.siz; omega
    rcases hm with ⟨_, hg⟩ | ⟨_, hg⟩
    · exact hb0.grown hg hbs (fun k hk => (hBx k hk).1)
    · exact hb0.grown hg hbs (fun k hk => by cases hk)
  have hlong : ∀ b, long.ownBlock = some b → w0.heap.size ≤ b ∧ b < w.heap.size := fun b hb => h.inv.lon.lt b hb
  have hinv : I3 E T base g n v len mk w0 i (i + 1) long L w' := by
    refine h.inv.kept R x.ownBlock hkeep hsz hbel ?_ ?_ ?_ ?_
    · intro j hj hjn b hb e
      rcases h.blk with hx | ⟨b', hx, hb1, _, _⟩
      · exact R.hd i j hi hjn (by omega) b (by rw [← hx]; exact e) hb
      · have := (R.hlt j hjn b hb).2
        rw [hx] at e
        injection e with e
        omega
    · intro e
      rcases h.blk with hx | ⟨b', hx, hb1, _, _⟩
      · exact R.hgv i hi (by rw [← hx]; exact e)
      · have := R.hg
        rw [hx] at e
        injection e with e
        omega
    · intro b hb e
      rcases h.blk with hx | ⟨b', hx, _, hl, _⟩
      · have h1 := hlong b hb
        have h2 := (R.hlt i hi b (by rw [← hx]; exact e)).2
        omega
      · rw [hx] at e
        exact hl (by rw [hb, e])
    · intro q hq b hb e
      rcases h.blk with hx | ⟨b', hx, _, _, hl⟩
      · exact ((h.inv.mar q hq).2 b hb).2.2 i (Nat.le_refl _) hi (by rw [← hx]; exact e)
      · rw [hx] at e
        exact hl q hq (by rw [hb, e])
  refine ⟨hinv, ?_, ho', ?_⟩
  · by_cases hsame : x.ownBlock = (v i).ownBlock
    · rcases hm with ⟨h5, hg⟩ | ⟨h5, hg⟩
      · exact mark_head ho' (by omega) hf hfb (by rw [h5, hsame])
      · refine h.mar.kept (fun b hb => ?_)
        have hbl := (R.hlt i hi b hb).2
        have := h.inv.siz
        rw [hg.block b (by omega) (by simp), heap_alloc_old w o (by omega)]
    · refine h.mar.kept (fun b hb => hkeep b (by have := (R.hlt i hi b hb).2; have := h.inv.siz; omega) (fun e => hsame (by rw [hb, e])))
  · rcases hm with ⟨h5, hg⟩ | ⟨h5, hg⟩
    · rw [h5]; exact h.blk
    · right
      have := h.inv.siz
      refine ⟨_, h5, by omega, fun e => ?_, fun q hq e => ?_⟩
      · have := (hlong _ e).2; omega
      · have := ((h.inv.mar q hq).2 _ e).1; omega
/-- the two that are put behind -/
theorem I4.put {i : Nat} {long long' x : Value} {L : List Value} {w w' : World} {o : Obj} (R : Rws E T base g n v len mk w0) (h : I4 E T base g n v len mk w0 i 20 long L x w) (hi : i < n)
    (ho : w'.ownsRow w0.heap.size T 1 long' (2 * i + 2) (L ++ [x, v i])) (hm : Moved (w.alloc o) w' long long') : I3 E T base g n v len mk w0 (i + 1) (i + 1) long' (L ++ [x, v i]) w' := by
  have hsa : (w.alloc o).heap.size = w.heap.size + 1 := by simp
  have hlong : ∀ b, long.ownBlock = some b → w0.heap.size ≤ b ∧ b < w.heap.size := fun b hb => h.inv.lon.lt b hb
  have hsiz := h.inv.siz
  have hkeep : ∀ k, k < w.heap.size → long.ownBlock ≠ some k → w'.heap[k]? = w.heap[k]? := by
    intro k hk hne
    have ha : (w.alloc o).heap[k]? = w.heap[k]? := heap_alloc_old w o hk
    rcases hm with ⟨_, hg⟩ | ⟨_, hg⟩
    · rw [hg.block k (by omega) (fun e => hne e.symm), ha]
    · rw [hg.block k (by omega) (by simp), ha]
  have hsz : w.heap.size ≤ w'.heap.size := by
    rcases hm with ⟨_, hg⟩ | ⟨_, hg⟩ <;> (have := hg.size; omega)
  have hbel : Below base w0 w' := by
    have hb0 : Below base w0 (w.alloc o) := h.inv.bel.alloc (by have := R.hgb; omega) o
    have hbs : base ≤ (w.alloc o).heap.size := by have := R.hgb; omega
    rcases hm with ⟨_, hg⟩ | ⟨_, hg⟩
    · exact hb0.grown hg hbs (fun k hk => by have := (hlong k hk).1; have := R.hgb; omega)
    · exact hb0.grown hg hbs (fun k hk => by cases hk)
  have hlong' : ∀ b, long'.ownBlock = some b → w0.heap.size ≤ b := fun b hb => (ho.lt b hb).1
  have hneL : ∀ b, b < w.heap.size → long.ownBlock ≠ some b → long'.ownBlock ≠ some b := by
    intro b hb hne
    rcases hm with ⟨h5, _⟩ | ⟨h5, _⟩
    · rw [h5]; exact hne
    · rw [h5]; intro e; injection e with e; omega
  have hvi : ∀ j, j < n → ∀ b, (v j).ownBlock = some b → b < w.heap.size ∧ long.ownBlock ≠ some b := fun j hj b hb => by
    have h1 := (R.hlt j hj b hb).2
    exact ⟨by omega, fun e => by have := (hlong b e).1; omega⟩
  have hx : ∀ b, x.ownBlock = some b → b < w.heap.size ∧ long.ownBlock ≠ some b ∧ ∀ t, i + 1 ≤ t → t < n → (v t).ownBlock ≠ some b := by
    intro b hb
    have hlt := (h.own.lt b hb).2
    rcases h.blk with hxv | ⟨b', hxb, hb1, hl, _⟩
    · rw [hxv] at hb
      exact ⟨hlt, (hvi i hi b hb).2, fun t ht htn => R.hd i t hi htn (by omega) b hb⟩
    · rw [hxb] at hb
      injection hb with hb
      subst hb
      exact ⟨hlt, hl, fun t ht htn e => by have := (R.hlt t htn _ e).2; omega⟩
  have hLl : L.length = 2 * i := by have := h.inv.lon.1; omega
  refine ⟨fun j hj hjn => own_kept (h.inv.own j hj hjn) (fun b hb => hkeep b (hvi j hjn b hb).1 (hvi j hjn b hb).2), fun j hj => ?_, ?_, fun q hq => ?_, by omega, hbel⟩
  · rw [World.cell?_of_block (a := ⟨g, j, none⟩) (hkeep g (by have := R.hg; omega) (fun e => by have := (hlong g e).1; have := R.hg; omega))]
    exact h.inv.cel j hj
  · exact ho
  · by_cases h1 : q < 2 * i
    · have e : (L ++ [x, v i]).getD q undef = L.getD q undef := by simp [List.getD_eq_getElem?_getD, List.getElem?_append_left (show q < L.length by omega)]
      rw [e]
      obtain ⟨hmk, hs⟩ := h.inv.mar q h1
      refine ⟨hmk.kept (fun b hb => hkeep b (hs b hb).1 (hs b hb).2.1), fun b hb => ?_⟩
      obtain ⟨s1, s2, s3⟩ := hs b hb
      exact ⟨by omega, hneL b s1 s2, fun t ht htn => s3 t (by omega) htn⟩
    · by_cases h2 : q = 2 * i
      · subst h2
        have e : (L ++ [x, v i]).getD (2 * i) undef = x := by simp [List.getD_eq_getElem?_getD, ← hLl]
        have ec : cnt len (2 * i) = len i + 20 := by unfold cnt; rw [show (2 * i) / 2 = i by omega, show (2 * i) % 2 = 0 by omega]; rfl
        rw [e, ec, show (2 * i) / 2 = i by omega]
        refine ⟨(mark_own h.own).kept (fun b hb => hkeep b (hx b hb).1 (hx b hb).2.1), fun b hb => ?_⟩
        obtain ⟨s1, s2, s3⟩ := hx b hb
        exact ⟨by omega, hneL b s1 s2, s3⟩
      · have h3 : q = 2 * i + 1 := by omega
        subst h3
        have e : (L ++ [x, v i]).getD (2 * i + 1) undef = v i := by simp [List.getD_eq_getElem?_getD, ← hLl]
        have ec : cnt len (2 * i + 1) = len i := by unfold cnt; rw [show (2 * i + 1) / 2 = i by omega, show (2 * i + 1) % 2 = 1 by omega]; rfl
        rw [e, ec, show (2 * i + 1) / 2 = i by omega]
        refine ⟨h.mar.kept (fun b hb => hkeep b (hvi i hi b hb).1 (hvi i hi b hb).2), fun b hb => ?_⟩
        exact ⟨by have := (hvi i hi b hb).1; omega, hneL b (hvi i hi b hb).1 (hvi i hi b hb).2, fun t ht htn => R.hd i t hi htn (by omega) b hb⟩
end
end Go.Proofs.Ytiggbgmnibndoaa
/- HELPERS: the contract of owned. Made by tools/genowned.py. -/
namespace Go.Proofs.Ytiggbgmnibndoaa
open Go.RowKit
set_option linter.unusedVariables false
set_option linter.unusedSimpArgs false
theorem infoInts : (Try.prog.info? 29).map (fun i => (i.zero, i.size, i.bytes)) = some (some (.slice none 0 0), 1, 24) := by kernel_rfl
def mk64 (j : Nat) : Value := .int .i64 (-9 - (j : Int))
theorem news_one (w : World) (u : Value) (t : TypeId) (G : Nat) (hG : G = w.heap.size) : ∀ (j : Nat) (y : Value), [u][j]? = some y → (w.alloc (.cells #[u] t)).cell? ((⟨G, 0, none⟩ : Addr).add j) = some y := by
  subst hG
  intro j y hj
  match j, hj with
  | 0, hj => simp at hj; subst hj; simp [Addr.add]
theorem cell_two_new (w : World) (a b : Value) (t : TypeId) : ∀ (j : Nat) (u : Value), [a, b][j]? = some u → (w.alloc (.cells #[a, b] t)).cell? ((⟨w.heap.size, 0, none⟩ : Addr).add j) = some u := by
  intro j u hj
  match j, hj with
  | 0, hj => simp at hj; subst hj; simp [Addr.add]
  | 1, hj => simp at hj; subst hj; simp [Addr.add]
theorem one_cell_int (k : IntKind) (z : Int) : ∀ u ∈ [Value.int k z], u.oneCell' = true := by
  intro u hu
  simp at hu
  subst hu
  rfl
theorem take_set_snoc (X : List Value) (t m : Nat) (c : Value) (hX : X.length = m) (ht : t < m) (h : X.take t = List.replicate t c) : (X.set t c).take (t + 1) = List.replicate (t + 1) c := by
  rw [List.take_set, List.take_succ_eq_append_getElem (by omega), h, List.replicate_succ']
  simp
set_option maxHeartbeats 8000000 in
set_option maxRecDepth 1000000 in
theorem owned17 (base g n cp : Nat) (v : Nat → Value) (len : Nat → Nat) (w0 : World) (hn : n ≤ 1048578) (R : Hid (Rws 3 29 base g n v len mk64 w0)) (hO : Hid (∀ j, j < n → ∃ X, w0.ownsRow base 3 1 (v j) (len j) X)) (hc : Hid (∀ j, j < n → w0.cell? ⟨g, j, none⟩ = some (v j)))
    (hl : Hid (∀ j, j < n → len j ≤ 100000000)) :
    Calls Try.prog 17 #[.slice (some ⟨g, 0, none⟩) n cp] w0 fun e w' => e = .returned (.bool true) ∧ Below base w0 w' := by
  obtain ⟨i0, hi0, hz0, hz1, hz2⟩ := info_parts info3
  obtain ⟨i1, hj0, hy0, hy1, hy2⟩ := info_parts infoInts
  go_enter Try.func17, Try.ntmps17
  go_wp2
  go_loopw [3] (fun i wr => ∃ (k : Nat), k ≤ n ∧ i = .int .i64 k ∧ Hid (∃ X, I1 3 base g n v len w0 X wr ∧ ∀ j, j < k → X j = List.replicate (len j) (mk64 j))) (fun i _ => n - (intOf i).toNat)
  case atStart =>
    refine ⟨0, by omega, rfl, ?_⟩
    obtain ⟨X, hX⟩ := Deep.choose_lt (α := List Value) (n := n) (p := fun j X => w0.ownsRow base 3 1 (v j) (len j) X) hO.out
    exact ⟨X, ⟨hX, hc.out, rfl, Below.refl _ _⟩, fun j hj => absurd hj (by omega)⟩
  case round =>
    obtain ⟨k, hk, rfl, HI⟩ := hrel
    by_cases hlt : k < n
    · have hform : ∃ ad m cap, v k = .slice ad m cap ∧ m = len k ∧ (0 < m → ∃ b, ad = some ⟨b, 0, none⟩) := by
        obtain ⟨X, h1, _⟩ := HI.out
        obtain ⟨⟨ad, cap, he⟩, hb⟩ := form_head (h1.own k hlt)
        exact ⟨ad, _, cap, he, rfl, fun hp => hb ad cap he hp⟩
      obtain ⟨ad, m, cap, hv, hm, hb⟩ := hform
      have HV : Hid (v k = .slice ad m cap) := hv
      have HM : Hid (m = len k) := hm
      have HB : Hid (0 < m → ∃ b, ad = some ⟨b, 0, none⟩) := hb
      have hm8 : m ≤ 100000000 := by rw [hm]; exact hl.out k hlt
      clear hv hm hb
      go_wp2
      go_loopw [4] (fun i wr => ∃ (t : Nat), t ≤ m ∧ i = .int .i64 t ∧ Hid (∃ X, I1 3 base g n v len w0 X wr ∧ (∀ j, j < k → X j = List.replicate (len j) (mk64 j)) ∧ (X k).take t = List.replicate t (mk64 k))) (fun i _ => m - (intOf i).toNat)
      case atStart =>
        refine ⟨0, by omega, rfl, ?_⟩
        obtain ⟨X, h1, h2⟩ := HI.out
        exact ⟨X, h1, h2, rfl⟩
      case round =>
        clear HI
        obtain ⟨t, ht, rfl, HT⟩ := hrel
        have c0 : wr.cell? ⟨g, k, none⟩ = some (.slice ad m cap) := by
          obtain ⟨X, h1, _⟩ := HT.out
          rw [h1.cel k hlt, HV.out]
        by_cases hlt2 : t < m
        · obtain ⟨b, rfl⟩ := HB.out (by omega)
          have hcell : ∃ y, wr.cell? ⟨b, t, none⟩ = some y := by
            obtain ⟨X, h1, _⟩ := HT.out
            have ho := h1.own k hlt
            rw [HV.out, ← HM.out] at ho
            refine ⟨_, (ho.cellAt t (by omega)).trans (List.getElem?_eq_getElem (by have := ho.1; omega))⟩
          have hfr : wr.frozen? ⟨b, t, none⟩ = false := by
            obtain ⟨X, h1, _⟩ := HT.out
            have ho := h1.own k hlt
            rw [HV.out, ← HM.out] at ho
            exact ho.frozenAt t
          obtain ⟨y, hy⟩ := hcell
          have HN : Hid (∃ X, I1 3 base g n v len w0 X (wr.setCell ⟨b, t, none⟩ (mk64 k)) ∧ (∀ j, j < k → X j = List.replicate (len j) (mk64 j)) ∧ (X k).take (t + 1) = List.replicate (t + 1) (mk64 k)) := by
            obtain ⟨X, h1, h2, h3⟩ := HT.out
            refine ⟨updR X k ((X k).set t (mk64 k)), h1.step R.out hlt (by rw [HV.out, HM.out]) _, fun j hj => ?_, ?_⟩
            · unfold updR
              rw [if_neg (by omega)]
              exact h2 j hj
            · unfold updR
              rw [if_pos rfl]
              exact take_set_snoc _ _ m _ (by have := (h1.own k hlt).1; rw [this, HM.out]; omega) hlt2 h3
          clear HT
          go_wp2
          go_roundw
          case rel => exact ⟨t + 1, by omega, by go_num, HN⟩
          case measure => simp [intOf]; omega
        · have htm : t = m := by omega
          have HN : Hid (∃ X, I1 3 base g n v len w0 X wr ∧ ∀ j, j < k + 1 → X j = List.replicate (len j) (mk64 j)) := by
            obtain ⟨X, h1, h2, h3⟩ := HT.out
            refine ⟨X, h1, fun j hj => ?_⟩
            by_cases hjk : j = k
            · subst hjk
              rw [htm, List.take_of_length_le (by have := (h1.own j hlt).1; rw [this, HM.out]; omega)] at h3
              rw [h3, HM.out]
            · exact h2 j (by omega)
          clear HT
          go_wp2
          go_roundw
          case rel => exact ⟨k + 1, by omega, by go_num, HN⟩
          case measure => simp [intOf]; omega
    · have hkn : k = n := by omega
      have HS : Hid (I3 3 29 base g n v len mk64 w0 0 0 (.slice none 0 0) [] wr) := by
        obtain ⟨X, h1, h2⟩ := HI.out
        refine ⟨fun j _ hj => by rw [← h2 j (by omega)]; exact h1.own j hj, h1.cel, World.ownsRow_nil _ _ _ _, fun q hq => absurd hq (by omega), by rw [h1.siz]; exact Nat.le_refl _, h1.bel⟩
      clear HI hO hc hkn
      go_wp2
      go_loopw [5, 6] (fun lo i wr => ∃ (k : Nat) (L : List Value) (lo' : Value), k ≤ n ∧ i = .int .i64 k ∧ lo' = lo ∧ Hid (I3 3 29 base g n v len mk64 w0 k k lo' L wr)) (fun _ i _ => n - (intOf i).toNat)
      case atStart => exact ⟨0, [], _, by omega, rfl, rfl, HS⟩
      case round =>
        clear HS
        obtain ⟨k, L, lo, hk, rfl, rfl, HI⟩ := hrel
        by_cases hlt : k < n
        · have c0 := HI.out.cel k hlt
          have H4 : Hid (I4 3 29 base g n v len mk64 w0 k 0 lo L (v k) wr) := I4.start HI.out hlt
          have HF := form_head (HI.out.own k (Nat.le_refl _) hlt)
          have HF1 : Hid (∃ ad cap, v k = .slice ad (len k) cap) := HF.1
          have HF2 : Hid (∀ ad cap, v k = .slice ad (len k) cap → 0 < len k → ∃ b, ad = some ⟨b, 0, none⟩) := HF.2
          have hm8 := hl.out k hlt
          clear HF HI
          obtain ⟨vk, hvk⟩ : ∃ vk, vk = v k := ⟨_, rfl⟩
          rw [← hvk] at c0 H4
          have HVK : Hid (vk = v k) := hvk
          clear hvk
          go_wp2
          go_loopw [7, 8] (fun x i wr => ∃ (t : Nat) (x' : Value), t ≤ 20 ∧ i = .int .i64 t ∧ x' = x ∧ Hid (I4 3 29 base g n v len mk64 w0 k t lo L x' wr)) (fun _ i _ => 20 - (intOf i).toNat)
          case atStart => exact ⟨0, _, by omega, rfl, rfl, H4⟩
          case round =>
            clear H4 c0
            obtain ⟨t, x, ht, rfl, rfl, H4⟩ := hrel
            by_cases hlt2 : t < 20
            · go_wp2_with (at_builtin; refine wpList_append_move rfl (.tmp 48) (.tmp 51) 29 rfl base 3 i0 (.int .i64 0) 8 Try.underlying29 hi0 hz0 hz1 hz2 rfl x (len k + t) _ rfl (H4.out.own.alloc _) ⟨wr.heap.size, 0, none⟩ 1 1 [.int .i64 (-9 - (k : Int))] rfl rfl (by decide) (by exact news_one _ _ _ _ rfl) (one_cell_int _ _) (by unfold maxLen; omega) (by omega) (by have := H4.out.inv.siz; have := R.out.hgb; simp; omega) ?_; intro x' w' ho hmv)
              have HN : Hid (I4 3 29 base g n v len mk64 w0 k (t + 1) lo L x' w') := H4.out.step R.out hlt HF1.out HF2.out ho.out hmv.out
              clear ho hmv H4
              go_wp2
              go_roundw
              case rel => exact ⟨t + 1, _, by omega, by go_num, rfl, HN⟩
              case measure => simp [intOf]; omega
            · have ht9 : t = 20 := by omega
              subst ht9
              have c0 := H4.out.inv.cel k hlt
              rw [← HVK.out] at c0
              obtain ⟨⟨adx, capx, hex⟩, -⟩ := form_head H4.out.own
              obtain ⟨lx, hlx⟩ : ∃ lx, lx = len k + 20 := ⟨_, rfl⟩
              rw [← hlx] at hex
              obtain ⟨adv, capv, hev0⟩ := HF1.out
              obtain ⟨lv, hlv⟩ : ∃ lv, lv = len k := ⟨_, rfl⟩
              rw [← hlv] at hev0
              have hev : vk = .slice adv lv capv := by rw [HVK.out]; exact hev0
              subst hex hev
              clear hlx hlv hev0
              have n1 : ∀ (j : Nat) (u : Value), [Value.slice adx lx capx, .slice adv lv capv][j]? = some u → (wr.alloc (.cells #[.slice adx lx capx, .slice adv lv capv] 29)).cell? ((⟨wr.heap.size, 0, none⟩ : Addr).add j) = some u := cell_two_new wr _ _ 29
              have n2 : ∀ u ∈ [Value.slice adx lx capx, .slice adv lv capv], u.oneCell' = true := by
                intro u hu
                simp only [List.mem_cons, List.not_mem_nil, or_false] at hu
                rcases hu with rfl | rfl <;> rfl
              have N1 : Hid (∀ (j : Nat) (u : Value), [Value.slice adx lx capx, .slice adv lv capv][j]? = some u → (wr.alloc (.cells #[.slice adx lx capx, .slice adv lv capv] 29)).cell? ((⟨wr.heap.size, 0, none⟩ : Addr).add j) = some u) := n1
              have N2 : Hid (∀ u ∈ [Value.slice adx lx capx, .slice adv lv capv], u.oneCell' = true) := n2
              clear n1 n2
              go_wp2_with (at_builtin; refine wpList_append_move rfl (.tmp 53) (.tmp 59) 37 rfl w0.heap.size 29 i1 (.slice none 0 0) 24 Try.underlying37 hj0 hy0 hy1 hy2 rfl lo (2 * k) L rfl (H4.out.inv.lon.alloc _) ⟨wr.heap.size, 0, none⟩ 2 2 [.slice adx lx capx, .slice adv lv capv] rfl rfl (by decide) N1.out N2.out (by unfold maxLen; omega) (by omega) (by have := H4.out.inv.siz; simp; omega) ?_; intro lo2 w' ho hmv)
              have HN : Hid (∃ L', I3 3 29 base g n v len mk64 w0 (k + 1) (k + 1) lo2 L' w') := by
                have ho' := ho.out
                rw [HVK.out] at ho'
                exact ⟨_, H4.out.put R.out hlt ho' hmv.out⟩
              obtain ⟨L2, hN⟩ := HN.out
              have HN2 : Hid (I3 3 29 base g n v len mk64 w0 (k + 1) (k + 1) lo2 L2 w') := hN
              clear ho hmv H4 HN hN N1 N2
              go_wp2
              go_roundw
              case rel => exact ⟨k + 1, L2, _, by omega, by go_num, rfl, HN2⟩
              case measure => simp [intOf]; omega
        · have hkn2 : k = n := by omega
          rw [hkn2] at HI
          clear hkn2
          have hLf : ∃ adL capL, lo = .slice adL (2 * n) capL ∧ (0 < 2 * n → ∃ b, adL = some ⟨b, 0, none⟩) := by
            obtain ⟨⟨ad, cap, he⟩, hb⟩ := form_head HI.out.lon
            exact ⟨ad, cap, he, fun hp => hb ad cap he hp⟩
          obtain ⟨adL, capL, rfl, hLb⟩ := hLf
          have HLB : Hid (0 < 2 * n → ∃ b, adL = some ⟨b, 0, none⟩) := hLb
          clear hLb
          go_wp2
          go_loopw [9] (fun i wr' => ∃ (q : Nat), q ≤ 2 * n ∧ i = .int .i64 q ∧ wr' = wr) (fun i _ => 2 * n - (intOf i).toNat)
          case atStart => exact ⟨0, by omega, rfl, rfl⟩
          case round =>
            obtain ⟨q, hq, rfl, rfl⟩ := hrel
            by_cases hlq : q < 2 * n
            · obtain ⟨gL, rfl⟩ := HLB.out (by omega)
              have c0 : wr.cell? ⟨gL, q, none⟩ = some (L.getD q undef) := by
                have hll := HI.out.lon.1
                rw [HI.out.lon.cellAt q (by omega)]
                simp [show q < L.length by omega]
              obtain ⟨ad, cap, hv, hmk⟩ := (HI.out.mar q hlq).1
              have hm8 : cnt len q ≤ 100000100 := by
                have := hl.out (q / 2) (by omega)
                unfold cnt
                split <;> omega
              rw [hv] at c0
              generalize cnt len q = m at c0 hmk hm8
              have HMK : Hid (m = 0 ∨ ∃ b, ad = some ⟨b, 0, none⟩ ∧ ∀ k, k < m → wr.cell? ⟨b, k, none⟩ = some (mk64 (q / 2))) := hmk
              clear hv hmk
              go_wp2
              go_loopw [10] (fun i wr' => ∃ (t : Nat), t ≤ m ∧ i = .int .i64 t ∧ wr' = wr) (fun i _ => m - (intOf i).toNat)
              case atStart => exact ⟨0, by omega, rfl, rfl⟩
              case round =>
                obtain ⟨t, ht, rfl, rfl⟩ := hrel
                by_cases hlt3 : t < m
                · obtain ⟨b, rfl, hcb⟩ := HMK.out.resolve_left (by omega)
                  have d0 : wr.cell? ⟨b, t, none⟩ = some (.int .i64 (-9 - (q : Int) / 2)) := by
                    have := hcb t hlt3
                    rw [mk64, show ((q / 2 : Nat) : Int) = (q : Int) / 2 by omega] at this
                    exact this
                  clear hcb
                  go_wp2
                  go_roundw
                  case rel => exact ⟨t + 1, by omega, by go_num, trivial⟩
                  case measure => simp [intOf]; omega
                · have htm : t = m := by omega
                  go_wp2
                  go_roundw
                  case rel => exact ⟨q + 1, by omega, by go_num, trivial⟩
                  case measure => simp [intOf]; omega
            · have hqn : q = 2 * n := by omega
              have HBX : Hid (Below base w0 wr) := HI.out.bel
              clear HI
              go_wp2
              go_ret
              exact ⟨rfl, HBX.out⟩
end Go.Proofs.Ytiggbgmnibndoaa
/- HELPERS: what holds through the loops of owned, of rows whose room was cut off. Made by tools/gen_litown.py. -/
namespace Go.Proofs.Ytiggbgmnibndoaa
open Go.RowKit
set_option linter.unusedVariables false
set_option linter.unusedSimpArgs false
theorem OC.alloc {w : World} {base e n : Nat} {v : Value} {xs : List Value} (h : OC w base e v n xs) (o : Obj) : OC (w.alloc o) base e v n xs := h.kept (fun b hb => heap_alloc_old w o (h.lt b hb).2)
theorem OC.forms {w : World} {base e n : Nat} {v : Value} {xs : List Value} (h : OC w base e v n xs) : (v = .slice none 0 0 ∧ n = 0) ∨ ∃ g cap, v = .slice (some ⟨g, 0, none⟩) n cap := by
  rcases h.2 with h | ⟨g, cap, cur, h1, _⟩
  · exact .inl h
  · exact .inr ⟨g, cap, h1⟩
theorem OC.frozenAt {w : World} {base e n g cap : Nat} {xs : List Value} (h : OC w base e (.slice (some ⟨g, 0, none⟩) n cap) n xs) (k : Nat) : w.frozen? ⟨g, k, none⟩ = false := by
  rcases h.2 with ⟨h', _⟩ | ⟨g', cap', cur, h1, h2, h3, _⟩
  · cases h'
  · simp only [Value.slice.injEq, Option.some.injEq, Addr.mk.injEq] at h1
    obtain ⟨⟨rfl, _⟩, _, rfl⟩ := h1
    exact Joins.unfrozen_of_block h3 k
theorem OC.stored {w : World} {base e n g cap : Nat} {xs : List Value} (h : OC w base e (.slice (some ⟨g, 0, none⟩) n cap) n xs) (k : Nat) (c : Value) : OC (w.setCell ⟨g, k, none⟩ c) base e (.slice (some ⟨g, 0, none⟩) n cap) n (xs.set k c) := by
  refine ⟨by rw [List.length_set]; exact h.1, .inr ?_⟩
  rcases h.2 with ⟨h', _⟩ | ⟨g', cap', cur, h1, h2, h3, h4, h5, h6, h7⟩
  · cases h'
  · simp only [Value.slice.injEq, Option.some.injEq, Addr.mk.injEq] at h1
    obtain ⟨⟨rfl, _⟩, _, rfl⟩ := h1
    refine ⟨g, cap, cur.setIfInBounds k c, rfl, h2, Joins.block_setCell (i := k) h3 c, h4, h5, by simpa using h6, ?_⟩
    rw [← h7, Array.toList_setIfInBounds, List.take_set]
theorem OC.mark {w : World} {base e n : Nat} {v : Value} {c : Value} (h : OC w base e v n (List.replicate n c)) : Mark w v n c := by
  rcases h.forms with ⟨rfl, h0⟩ | ⟨g, cap, rfl⟩
  · exact ⟨none, 0, by rw [h0], .inl h0⟩
  · refine ⟨_, cap, rfl, .inr ⟨g, rfl, fun k hk => ?_⟩⟩
    rw [h.cellAt k hk]
    simp [hk]
theorem OC.markHead {w : World} {base e n m : Nat} {v g : Value} {c : Value} (h : OC w base e g m (List.replicate m c)) (hn : n ≤ m) (hf : ∃ ad cap, v = .slice ad n cap) (hb : ∀ ad cap, v = .slice ad n cap → 0 < n → ∃ b, ad = some ⟨b, 0, none⟩) (hbl : g.ownBlock = v.ownBlock) : Mark w v n c := by
  obtain ⟨ad, cap, rfl⟩ := hf
  by_cases h0 : n = 0
  · exact ⟨ad, cap, rfl, .inl h0⟩
  · obtain ⟨b, rfl⟩ := hb ad cap rfl (by omega)
    refine ⟨_, cap, rfl, .inr ⟨b, rfl, fun k hk => ?_⟩⟩
    rcases h.forms with ⟨rfl, h1⟩ | ⟨g', cap', rfl⟩
    · simp [Value.ownBlock] at hbl
    · simp only [Value.ownBlock, Option.some.injEq] at hbl
      subst hbl
      rw [h.cellAt k (by omega)]
      simp [show k < m by omega]
theorem OC.form_head {w : World} {base e n : Nat} {v : Value} {xs : List Value} (h : OC w base e v n xs) : (∃ ad cap, v = .slice ad n cap) ∧ ∀ ad cap, v = .slice ad n cap → 0 < n → ∃ b, ad = some ⟨b, 0, none⟩ := by
  rcases h.forms with ⟨rfl, h0⟩ | ⟨g, cap, rfl⟩
  · refine ⟨⟨none, 0, by rw [h0]⟩, fun ad cap he hp => by omega⟩
  · refine ⟨⟨_, cap, rfl⟩, fun ad cap' he _ => ?_⟩
    simp only [Value.slice.injEq] at he
    exact ⟨g, he.1.symm⟩
/-- append onto such a row -/
theorem run_append_moveC {P : Program} (w : World) (base : Nat) (t ty e : TypeId) (i : TypeInfo) (z : Value) (bytes : Nat) (ht : P.underlying t = some (.slice e)) (hi : P.info? e = some i) (hz : i.zero = some z)
    (hsize : i.size = 1) (hby : i.bytes = bytes) (hzs : z.cells.size = 1)
    (v : Value) (n : Nat) (xs : List Value) (hown : OC w base e v n xs)
    (a : Addr) (m c : Nat) (news : List Value) (hl : news.length = m) (hm : 0 < m) (hnews : ∀ j u, news[j]? = some u → w.cell? (a.add j) = some u) (h1 : ∀ u ∈ news, u.oneCell' = true)
    (h63 : n + m ≤ maxLen) (hbytes : (n + m) * bytes ≤ 140737488355328) (hbase : base ≤ w.heap.size) :
    ∃ v' w', (Builtin.append_ #[t, t] ty #[v, .slice (some a) m c]).run P w = .ok v' w' ∧ OC w' base e v' (n + m) (xs ++ news) ∧ Moved w w' v v' := by
  rcases hown.2 with ⟨rfl, rfl⟩ | ⟨g, cap, cur, rfl, hbg, hg, hnc, hcm, hcs, htake⟩
  · obtain ⟨v', w', h2, h3, h4⟩ := run_append_move (P := P) w base t ty e i z bytes ht hi hz hsize hby hzs (.slice none 0 0) 0 xs ⟨by have := hown.1; omega, .inl ⟨rfl, rfl⟩⟩ a m c news hl hm hnews h1 h63 hbytes hbase
    exact ⟨v', w', h2, OC.of h3, h4⟩
  · by_cases hroom : n + m ≤ cap
    · have hr := run_append_room (P := P) w t ty e i ht hi g n cap cur hg a m c news (by rw [hsize]; omega) hnews h1 hroom (by rw [hsize]; omega)
      refine ⟨_, _, hr, ⟨by rw [List.length_append, hown.1, hl], .inr ⟨g, cap, _, rfl, hbg, setRow_heap w g cur _ e _ hg, hroom, hcm, ?_, ?_⟩⟩, .inl ⟨rfl, ⟨rfl, rfl, rfl, by simp, fun k _ hk => setRow_other w g k _ (fun e => hk (by simp [Value.ownBlock, e]))⟩⟩⟩
      · simp only [List.size_toArray, List.length_append, List.length_take, List.length_drop, Array.length_toList, hsize]
        omega
      · rw [hsize, Nat.mul_one, htake]
        have hlen : (xs ++ news).length = n + m := by rw [List.length_append, hown.1, hl]
        rw [← hlen]
        exact List.take_left
    · have holds : ∀ j u, xs[j]? = some u → w.cell? ((⟨g, 0, none⟩ : Addr).add j) = some u := fun j u hj => by
        have hjn : j < n := by have := (List.getElem?_eq_some_iff.1 hj).1; have := hown.1; omega
        rw [Addr.add_mid, Nat.zero_add, hown.cellAt j hjn, hj]
      have hr := run_append_grow (P := P) w t ty e i z ht hi hz ⟨g, 0, none⟩ n cap xs (by rw [hsize]; have := hown.1; omega) holds a m c news (by rw [hsize]; omega) hnews (by omega) (by unfold maxLen at h63; omega) (growslice_fits (by omega) (by rw [hby]; exact hbytes))
      have hlen : (xs ++ news).length = n + m := by rw [List.length_append, hown.1, hl]
      have hge := grownCap_ge w (n + m) cap e
      have hcm' : grownCap w (n + m) cap e ≤ maxLen := grownCap_le_maxLen w (n + m) cap e h63
      refine ⟨_, _, hr, ⟨hlen, .inr ⟨w.heap.size, _, _, rfl, hbase, heap_alloc_new w.drew _, hge, hcm', ?_, ?_⟩⟩, .inr ⟨rfl, ⟨rfl, rfl, rfl, by simp, fun k hk _ => heap_alloc_old w.drew _ hk⟩⟩⟩
      · simp only [Array.size_append, List.size_toArray, size_zeroCells, hzs, hown.1, hl]
        omega
      · simp only [Array.toList_append, List.append_assoc]
        rw [← List.append_assoc, ← hlen]
        exact List.take_left
theorem wpList_append_moveC {P : Program} {w : World} {ops : Array Oper} {rest : List Oper} {o : Oper} {a : Act} {Q : Exit → Act → World → Prop} (hgd : o.guard = none) (s x : Operand) (t : TypeId)
    (ho : o.op = .call { callee := .builtin .append, args := #[s, x], argTypes := #[t, t] })
    (base : Nat) (e : TypeId) (i : TypeInfo) (z : Value) (bytes : Nat) (ht : P.underlying t = some (.slice e)) (hi : P.info? e = some i) (hz : i.zero = some z)
    (hsize : i.size = 1) (hby : i.bytes = bytes) (hzs : z.cells.size = 1)
    (v : Value) (n : Nat) (xs : List Value) (hs : a.eval s = v) (hown : OC w base e v n xs)
    (ad : Addr) (m c : Nat) (news : List Value) (hx : a.eval x = .slice (some ad) m c) (hl : news.length = m) (hm : 0 < m) (hnews : ∀ j u, news[j]? = some u → w.cell? (ad.add j) = some u) (h1 : ∀ u ∈ news, u.oneCell' = true)
    (h63 : n + m ≤ maxLen) (hbytes : (n + m) * bytes ≤ 140737488355328) (hbase : base ≤ w.heap.size)
    (h : ∀ v' w', Hid (OC w' base e v' (n + m) (xs ++ news)) → Hid (Moved w w' v v') → wpList P ops Q rest (a.put o.dst v') w') : wpList P ops Q (o :: rest) a w := by
  refine wpList_plain hgd fun K hK => ?_
  obtain ⟨v', w', hr, h2, h3⟩ := run_append_moveC (P := P) w base t o.type e i z bytes ht hi hz hsize hby hzs v n xs hown ad m c news hl hm hnews h1 h63 hbytes hbase
  unfold Oper.wp execOp
  simp only [ho, resolve, invoke, builtin, Sem.run_bind, Sem.run_pure, Result.andThen_ok, List.map_toArray, List.map_cons, List.map_nil, hs, hx, hr]
  exact hK _ _ (h v' w' h2 h3)
section
variable {E T : TypeId} {base g n : Nat} {v : Nat → Value} {len : Nat → Nat} {mk : Nat → Value} {w0 : World}
/-- the first loops -/
structure J1 (E : TypeId) (base g n : Nat) (v : Nat → Value) (len : Nat → Nat) (w0 : World) (X : Nat → List Value) (w : World) : Prop where
  own : ∀ j, j < n → OC w base E (v j) (len j) (X j)
  cel : ∀ j, j < n → w.cell? ⟨g, j, none⟩ = some (v j)
  siz : w.heap.size = w0.heap.size
  bel : Below base w0 w
theorem J1.step {X : Nat → List Value} {w : World} (R : Rws E T base g n v len mk w0) (h : J1 E base g n v len w0 X w) {i k b cap : Nat} (hi : i < n) (hv : v i = .slice (some ⟨b, 0, none⟩) (len i) cap) (c : Value) :
    J1 E base g n v len w0 (updR X i ((X i).set k c)) (w.setCell ⟨b, k, none⟩ c) := by
  have hb : (v i).ownBlock = some b := by rw [hv]; rfl
  have hlt := R.hlt i hi b hb
  refine ⟨fun j hj => ?_, fun j hj => ?_, by simp [World.setCell, h.siz], h.bel.setCell hlt.1 _⟩
  · unfold updR
    split
    · rename_i e
      subst e
      have h1 := h.own j hj
      rw [hv] at h1 ⊢
      exact (h1.stored k c)
    · rename_i e
      refine OC.kept (h.own j hj) (fun b' hb' => heap_setCell_other w ⟨b, k, none⟩ b' c ?_)
      intro e2
      exact R.hd i j hi hj (fun e3 => e e3.symm) b hb (by rw [hb', e2])
  · rw [World.cell?_of_block (a := ⟨g, j, none⟩) (heap_setCell_other w ⟨b, k, none⟩ g c (fun e => R.hgv i hi (by rw [hb, e])))]
    exact h.cel j hj
/-- the rows that are still to come, and what was kept -/
structure J3 (E T : TypeId) (base g n : Nat) (v : Nat → Value) (len : Nat → Nat) (mk : Nat → Value) (w0 : World) (i i' : Nat) (long : Value) (L : List Value) (w : World) : Prop where
  own : ∀ j, i' ≤ j → j < n → OC w base E (v j) (len j) (List.replicate (len j) (mk j))
  cel : ∀ j, j < n → w.cell? ⟨g, j, none⟩ = some (v j)
  lon : w.ownsRow w0.heap.size T 1 long (2 * i) L
  mar : ∀ q, q < 2 * i → Mark w (L.getD q undef) (cnt len q) (mk (q / 2)) ∧ Sep n v w long i (L.getD q undef)
  siz : w0.heap.size ≤ w.heap.size
  bel : Below base w0 w
/-- what stays as it was where only one block, that of none of these, is written -/
theorem J3.kept {i i' : Nat} {long : Value} {L : List Value} {w w' : World} (R : Rws E T base g n v len mk w0) (h : J3 E T base g n v len mk w0 i i' long L w) (row : Option Nat)
    (hk : ∀ k, k < w.heap.size → row ≠ some k → w'.heap[k]? = w.heap[k]?) (hsz : w.heap.size ≤ w'.heap.size) (hb : Below base w0 w')
    (h1 : ∀ j, i' ≤ j → j < n → ∀ b, (v j).ownBlock = some b → row ≠ some b) (h2 : row ≠ some g) (h3 : ∀ b, long.ownBlock = some b → row ≠ some b) (h4 : ∀ q, q < 2 * i → ∀ b, (L.getD q undef).ownBlock = some b → row ≠ some b) :
    J3 E T base g n v len mk w0 i i' long L w' := by
  refine ⟨fun j hj hjn => OC.kept (h.own j hj hjn) (fun b hb' => hk b (by have := (R.hlt j hjn b hb').2; have := h.siz; omega) (h1 j hj hjn b hb')), fun j hj => ?_, own_kept h.lon (fun b hb' => hk b (h.lon.lt b hb').2 (h3 b hb')), fun q hq => ?_, by have := h.siz; omega, hb⟩
  · rw [World.cell?_of_block (a := ⟨g, j, none⟩) (hk g (by have := R.hg; have := h.siz; omega) h2)]
    exact h.cel j hj
  · obtain ⟨hm, hs⟩ := h.mar q hq
    refine ⟨hm.kept (fun b hb' => hk b (hs b hb').1 (h4 q hq b hb')), fun b hb' => ?_⟩
    obtain ⟨s1, s2, s3⟩ := hs b hb'
    exact ⟨by omega, s2, s3⟩
/-- the row that grows -/
structure J4 (E T : TypeId) (base g n : Nat) (v : Nat → Value) (len : Nat → Nat) (mk : Nat → Value) (w0 : World) (i t : Nat) (long : Value) (L : List Value) (x : Value) (w : World) : Prop where
  inv : J3 E T base g n v len mk w0 i (i + 1) long L w
  mar : Mark w (v i) (len i) (mk i)
  own : OC w base E x (len i + t) (List.replicate (len i + t) (mk i))
  blk : x.ownBlock = (v i).ownBlock ∨ ∃ b, x.ownBlock = some b ∧ w0.heap.size ≤ b ∧ long.ownBlock ≠ some b ∧ ∀ q, q < 2 * i → (L.getD q undef).ownBlock ≠ some b
theorem J4.start {i : Nat} {long : Value} {L : List Value} {w : World} (h : J3 E T base g n v len mk w0 i i long L w) (hi : i < n) : J4 E T base g n v len mk w0 i 0 long L (v i) w :=
  ⟨⟨fun j hj hjn => h.own j (by omega) hjn, h.cel, h.lon, h.mar, h.siz, h.bel⟩, OC.mark (h.own i (Nat.le_refl _) hi), h.own i (Nat.le_refl _) hi, .inl rfl⟩
theorem J4.step {i t : Nat} {long x x' : Value} {L : List Value} {w w' : World} {o : Obj} (R : Rws E T base g n v len mk w0) (h : J4 E T base g n v len mk w0 i t long L x w) (hi : i < n)
    (hf : ∃ ad cap, v i = .slice ad (len i) cap) (hfb : ∀ ad cap, v i = .slice ad (len i) cap → 0 < len i → ∃ b, ad = some ⟨b, 0, none⟩)
    (ho : OC w' base E x' (len i + t + 1) (List.replicate (len i + t) (mk i) ++ [mk i])) (hm : Moved (w.alloc o) w' x x') : J4 E T base g n v len mk w0 i (t + 1) long L x' w' := by
  have ho' : OC w' base E x' (len i + (t + 1)) (List.replicate (len i + (t + 1)) (mk i)) := by
    rw [← List.replicate_succ'] at ho
    exact ho
  have hsa : (w.alloc o).heap.size = w.heap.size + 1 := by simp
  have hBx : ∀ k, x.ownBlock = some k → base ≤ k ∧ k < w.heap.size := fun k hk => h.own.lt k hk
  -- which blocks are as they were
  have hkeep : ∀ k, k < w.heap.size → x.ownBlock ≠ some k → w'.heap[k]? = w.heap[k]? := by
    intro k hk hne
    have ha : (w.alloc o).heap[k]? = w.heap[k]? := heap_alloc_old w o hk
    rcases hm with ⟨_, hg⟩ | ⟨_, hg⟩
    · rw [hg.block k (by omega) (fun e => hne e.symm), ha]
    · rw [hg.block k (by omega) (by simp), ha]
  have hsz : w.heap.size ≤ w'.heap.size := by
    rcases hm with ⟨_, hg⟩ | ⟨_, hg⟩ <;> (have := hg.size; omega)
  have hbel : Below base w0 w' := by
    have hb0 : Below base w0 (w.alloc o) := h.inv.bel.alloc (by have := R.hgb; have := h.inv.siz; omega) o
    have hbs : base ≤ (w.alloc o).heap.size := by have := R.hgb; have := h.inv.siz; omega
    rcases hm with ⟨_, hg⟩ | ⟨_, hg⟩
    · exact hb0.grown hg hbs (fun k hk => (hBx k hk).1)
    · exact hb0.grown hg hbs (fun k hk => by cases hk)
  have hlong : ∀ b, long.ownBlock = some b → w0.heap.size ≤ b ∧ b < w.heap.size := fun b hb => h.inv.lon.lt b hb
  have hinv : J3 E T base g n v len mk w0 i (i + 1) long L w' := by
    refine h.inv.kept R x.ownBlock hkeep hsz hbel ?_ ?_ ?_ ?_
    · intro j hj hjn b hb e
      rcases h.blk with hx | ⟨b', hx, hb1, _, _⟩
      · exact R.hd i j hi hjn (by omega) b (by rw [← hx]; exact e) hb
      · have := (R.hlt j hjn b hb).2
        rw [hx] at e
        injection e with e
        omega
    · intro e
      rcases h.blk with hx | ⟨b', hx, hb1, _, _⟩
      · exact R.hgv i hi (by rw [← hx]; exact e)
      · have := R.hg
        rw [hx] at e
        injection e with e
        omega
    · intro b hb e
      rcases h.blk with hx | ⟨b', hx, _, hl, _⟩
      · have h1 := hlong b hb
        have h2 := (R.hlt i hi b (by rw [← hx]; exact e)).2
        omega
      · rw [hx] at e
        exact hl (by rw [hb, e])
    · intro q hq b hb e
      rcases h.blk with hx | ⟨b', hx, _, _, hl⟩
      · exact ((h.inv.mar q hq).2 b hb).2.2 i (Nat.le_refl _) hi (by rw [← hx]; exact e)
      · rw [hx] at e
        exact hl q hq (by rw [hb, e])
  refine ⟨hinv, ?_, ho', ?_⟩
  · by_cases hsame : x.ownBlock = (v i).ownBlock
    · rcases hm with ⟨h5, hg⟩ | ⟨h5, hg⟩
      · exact OC.markHead ho' (by omega) hf hfb (by rw [h5, hsame])
      · refine h.mar.kept (fun b hb => ?_)
        have hbl := (R.hlt i hi b hb).2
        have := h.inv.siz
        rw [hg.block b (by omega) (by simp), heap_alloc_old w o (by omega)]
    · refine h.mar.kept (fun b hb => hkeep b (by have := (R.hlt i hi b hb).2; have := h.inv.siz; omega) (fun e => hsame (by rw [hb, e])))
  · rcases hm with ⟨h5, hg⟩ | ⟨h5, hg⟩
    · rw [h5]; exact h.blk
    · right
      have := h.inv.siz
      refine ⟨_, h5, by omega, fun e => ?_, fun q hq e => ?_⟩
      · have := (hlong _ e).2; omega
      · have := ((h.inv.mar q hq).2 _ e).1; omega
/-- the two that are put behind -/
theorem J4.put {i : Nat} {long long' x : Value} {L : List Value} {w w' : World} {o : Obj} (R : Rws E T base g n v len mk w0) (h : J4 E T base g n v len mk w0 i 20 long L x w) (hi : i < n)
    (ho : w'.ownsRow w0.heap.size T 1 long' (2 * i + 2) (L ++ [x, v i])) (hm : Moved (w.alloc o) w' long long') : J3 E T base g n v len mk w0 (i + 1) (i + 1) long' (L ++ [x, v i]) w' := by
  have hsa : (w.alloc o).heap.size = w.heap.size + 1 := by simp
  have hlong : ∀ b, long.ownBlock = some b → w0.heap.size ≤ b ∧ b < w.heap.size := fun b hb => h.inv.lon.lt b hb
  have hsiz := h.inv.siz
  have hkeep : ∀ k, k < w.heap.size → long.ownBlock ≠ some k → w'.heap[k]? = w.heap[k]? := by
    intro k hk hne
    have ha : (w.alloc o).heap[k]? = w.heap[k]? := heap_alloc_old w o hk
    rcases hm with ⟨_, hg⟩ | ⟨_, hg⟩
    · rw [hg.block k (by omega) (fun e => hne e.symm), ha]
    · rw [hg.block k (by omega) (by simp), ha]
  have hsz : w.heap.size ≤ w'.heap.size := by
    rcases hm with ⟨_, hg⟩ | ⟨_, hg⟩ <;> (have := hg.size; omega)
  have hbel : Below base w0 w' := by
    have hb0 : Below base w0 (w.alloc o) := h.inv.bel.alloc (by have := R.hgb; omega) o
    have hbs : base ≤ (w.alloc o).heap.size := by have := R.hgb; omega
    rcases hm with ⟨_, hg⟩ | ⟨_, hg⟩
    · exact hb0.grown hg hbs (fun k hk => by have := (hlong k hk).1; have := R.hgb; omega)
    · exact hb0.grown hg hbs (fun k hk => by cases hk)
  have hlong' : ∀ b, long'.ownBlock = some b → w0.heap.size ≤ b := fun b hb => (ho.lt b hb).1
  have hneL : ∀ b, b < w.heap.size → long.ownBlock ≠ some b → long'.ownBlock ≠ some b := by
    intro b hb hne
    rcases hm with ⟨h5, _⟩ | ⟨h5, _⟩
    · rw [h5]; exact hne
    · rw [h5]; intro e; injection e with e; omega
  have hvi : ∀ j, j < n → ∀ b, (v j).ownBlock = some b → b < w.heap.size ∧ long.ownBlock ≠ some b := fun j hj b hb => by
    have h1 := (R.hlt j hj b hb).2
    exact ⟨by omega, fun e => by have := (hlong b e).1; omega⟩
  have hx : ∀ b, x.ownBlock = some b → b < w.heap.size ∧ long.ownBlock ≠ some b ∧ ∀ t, i + 1 ≤ t → t < n → (v t).ownBlock ≠ some b := by
    intro b hb
    have hlt := (h.own.lt b hb).2
    rcases h.blk with hxv | ⟨b', hxb, hb1, hl, _⟩
    · rw [hxv] at hb
      exact ⟨hlt, (hvi i hi b hb).2, fun t ht htn => R.hd i t hi htn (by omega) b hb⟩
    · rw [hxb] at hb
      injection hb with hb
      subst hb
      exact ⟨hlt, hl, fun t ht htn e => by have := (R.hlt t htn _ e).2; omega⟩
  have hLl : L.length = 2 * i := by have := h.inv.lon.1; omega
  refine ⟨fun j hj hjn => OC.kept (h.inv.own j hj hjn) (fun b hb => hkeep b (hvi j hjn b hb).1 (hvi j hjn b hb).2), fun j hj => ?_, ?_, fun q hq => ?_, by omega, hbel⟩
  · rw [World.cell?_of_block (a := ⟨g, j, none⟩) (hkeep g (by have := R.hg; omega) (fun e => by have := (hlong g e).1; have := R.hg; omega))]
    exact h.inv.cel j hj
  · exact ho
  · by_cases h1 : q < 2 * i
    · have e : (L ++ [x, v i]).getD q undef = L.getD q undef := by simp [List.getD_eq_getElem?_getD, List.getElem?_append_left (show q < L.length by omega)]
      rw [e]
      obtain ⟨hmk, hs⟩ := h.inv.mar q h1
      refine ⟨hmk.kept (fun b hb => hkeep b (hs b hb).1 (hs b hb).2.1), fun b hb => ?_⟩
      obtain ⟨s1, s2, s3⟩ := hs b hb
      exact ⟨by omega, hneL b s1 s2, fun t ht htn => s3 t (by omega) htn⟩
    · by_cases h2 : q = 2 * i
      · subst h2
        have e : (L ++ [x, v i]).getD (2 * i) undef = x := by simp [List.getD_eq_getElem?_getD, ← hLl]
        have ec : cnt len (2 * i) = len i + 20 := by unfold cnt; rw [show (2 * i) / 2 = i by omega, show (2 * i) % 2 = 0 by omega]; rfl
        rw [e, ec, show (2 * i) / 2 = i by omega]
        refine ⟨(OC.mark h.own).kept (fun b hb => hkeep b (hx b hb).1 (hx b hb).2.1), fun b hb => ?_⟩
        obtain ⟨s1, s2, s3⟩ := hx b hb
        exact ⟨by omega, hneL b s1 s2, s3⟩
      · have h3 : q = 2 * i + 1 := by omega
        subst h3
        have e : (L ++ [x, v i]).getD (2 * i + 1) undef = v i := by simp [List.getD_eq_getElem?_getD, ← hLl]
        have ec : cnt len (2 * i + 1) = len i := by unfold cnt; rw [show (2 * i + 1) / 2 = i by omega, show (2 * i + 1) % 2 = 1 by omega]; rfl
        rw [e, ec, show (2 * i + 1) / 2 = i by omega]
        refine ⟨h.mar.kept (fun b hb => hkeep b (hvi i hi b hb).1 (hvi i hi b hb).2), fun b hb => ?_⟩
        exact ⟨by have := (hvi i hi b hb).1; omega, hneL b (hvi i hi b hb).1 (hvi i hi b hb).2, fun t ht htn => R.hd i t hi htn (by omega) b hb⟩
end
end Go.Proofs.Ytiggbgmnibndoaa
/- HELPERS: numbers that came out are their owner's, also where their room was cut off. Made by tools/gen_litown.py. -/
namespace Go.Proofs.Ytiggbgmnibndoaa
open Go.RowKit
set_option linter.unusedVariables false
set_option linter.unusedSimpArgs false
set_option maxHeartbeats 8000000 in
set_option maxRecDepth 1000000 in
theorem ownedC (base g n cp : Nat) (v : Nat → Value) (len : Nat → Nat) (w0 : World) (hn : n ≤ 1048578) (R : Hid (Rws 3 29 base g n v len mk64 w0)) (hO : Hid (∀ j, j < n → ∃ X, OC w0 base 3 (v j) (len j) X)) (hc : Hid (∀ j, j < n → w0.cell? ⟨g, j, none⟩ = some (v j)))
    (hl : Hid (∀ j, j < n → len j ≤ 100000000)) :
    Calls Try.prog 17 #[.slice (some ⟨g, 0, none⟩) n cp] w0 fun e w' => e = .returned (.bool true) ∧ Below base w0 w' := by
  obtain ⟨i0, hi0, hz0, hz1, hz2⟩ := info_parts info3
  obtain ⟨i1, hj0, hy0, hy1, hy2⟩ := info_parts infoInts
  go_enter Try.func17, Try.ntmps17
  go_wp2
  go_loopw [3] (fun i wr => ∃ (k : Nat), k ≤ n ∧ i = .int .i64 k ∧ Hid (∃ X, J1 3 base g n v len w0 X wr ∧ ∀ j, j < k → X j = List.replicate (len j) (mk64 j))) (fun i _ => n - (intOf i).toNat)
  case atStart =>
    refine ⟨0, by omega, rfl, ?_⟩
    obtain ⟨X, hX⟩ := Deep.choose_lt (α := List Value) (n := n) (p := fun j X => OC w0 base 3 (v j) (len j) X) hO.out
    exact ⟨X, ⟨hX, hc.out, rfl, Below.refl _ _⟩, fun j hj => absurd hj (by omega)⟩
  case round =>
    obtain ⟨k, hk, rfl, HI⟩ := hrel
    by_cases hlt : k < n
    · have hform : ∃ ad m cap, v k = .slice ad m cap ∧ m = len k ∧ (0 < m → ∃ b, ad = some ⟨b, 0, none⟩) := by
        obtain ⟨X, h1, _⟩ := HI.out
        obtain ⟨⟨ad, cap, he⟩, hb⟩ := OC.form_head (h1.own k hlt)
        exact ⟨ad, _, cap, he, rfl, fun hp => hb ad cap he hp⟩
      obtain ⟨ad, m, cap, hv, hm, hb⟩ := hform
      have HV : Hid (v k = .slice ad m cap) := hv
      have HM : Hid (m = len k) := hm
      have HB : Hid (0 < m → ∃ b, ad = some ⟨b, 0, none⟩) := hb
      have hm8 : m ≤ 100000000 := by rw [hm]; exact hl.out k hlt
      clear hv hm hb
      go_wp2
      go_loopw [4] (fun i wr => ∃ (t : Nat), t ≤ m ∧ i = .int .i64 t ∧ Hid (∃ X, J1 3 base g n v len w0 X wr ∧ (∀ j, j < k → X j = List.replicate (len j) (mk64 j)) ∧ (X k).take t = List.replicate t (mk64 k))) (fun i _ => m - (intOf i).toNat)
      case atStart =>
        refine ⟨0, by omega, rfl, ?_⟩
        obtain ⟨X, h1, h2⟩ := HI.out
        exact ⟨X, h1, h2, rfl⟩
      case round =>
        clear HI
        obtain ⟨t, ht, rfl, HT⟩ := hrel
        have c0 : wr.cell? ⟨g, k, none⟩ = some (.slice ad m cap) := by
          obtain ⟨X, h1, _⟩ := HT.out
          rw [h1.cel k hlt, HV.out]
        by_cases hlt2 : t < m
        · obtain ⟨b, rfl⟩ := HB.out (by omega)
          have hcell : ∃ y, wr.cell? ⟨b, t, none⟩ = some y := by
            obtain ⟨X, h1, _⟩ := HT.out
            have ho := h1.own k hlt
            rw [HV.out, ← HM.out] at ho
            refine ⟨_, (ho.cellAt t (by omega)).trans (List.getElem?_eq_getElem (by have := ho.1; omega))⟩
          have hfr : wr.frozen? ⟨b, t, none⟩ = false := by
            obtain ⟨X, h1, _⟩ := HT.out
            have ho := h1.own k hlt
            rw [HV.out, ← HM.out] at ho
            exact ho.frozenAt t
          obtain ⟨y, hy⟩ := hcell
          have HN : Hid (∃ X, J1 3 base g n v len w0 X (wr.setCell ⟨b, t, none⟩ (mk64 k)) ∧ (∀ j, j < k → X j = List.replicate (len j) (mk64 j)) ∧ (X k).take (t + 1) = List.replicate (t + 1) (mk64 k)) := by
            obtain ⟨X, h1, h2, h3⟩ := HT.out
            refine ⟨updR X k ((X k).set t (mk64 k)), h1.step R.out hlt (by rw [HV.out, HM.out]) _, fun j hj => ?_, ?_⟩
            · unfold updR
              rw [if_neg (by omega)]
              exact h2 j hj
            · unfold updR
              rw [if_pos rfl]
              exact take_set_snoc _ _ m _ (by have := (h1.own k hlt).1; have := HM.out; omega) hlt2 h3
          clear HT
          go_wp2
          go_roundw
          case rel => exact ⟨t + 1, by omega, by go_num, HN⟩
          case measure => simp [intOf]; omega
        · have htm : t = m := by omega
          have HN : Hid (∃ X, J1 3 base g n v len w0 X wr ∧ ∀ j, j < k + 1 → X j = List.replicate (len j) (mk64 j)) := by
            obtain ⟨X, h1, h2, h3⟩ := HT.out
            refine ⟨X, h1, fun j hj => ?_⟩
            by_cases hjk : j = k
            · subst hjk
              rw [htm, List.take_of_length_le (by have := (h1.own j hlt).1; rw [this, HM.out]; omega)] at h3
              rw [h3, HM.out]
            · exact h2 j (by omega)
          clear HT
          go_wp2
          go_roundw
          case rel => exact ⟨k + 1, by omega, by go_num, HN⟩
          case measure => simp [intOf]; omega
    · have hkn : k = n := by omega
      have HS : Hid (J3 3 29 base g n v len mk64 w0 0 0 (.slice none 0 0) [] wr) := by
        obtain ⟨X, h1, h2⟩ := HI.out
        refine ⟨fun j _ hj => by rw [← h2 j (by omega)]; exact h1.own j hj, h1.cel, World.ownsRow_nil _ _ _ _, fun q hq => absurd hq (by omega), by rw [h1.siz]; exact Nat.le_refl _, h1.bel⟩
      clear HI hO hc hkn
      go_wp2
      go_loopw [5, 6] (fun lo i wr => ∃ (k : Nat) (L : List Value) (lo' : Value), k ≤ n ∧ i = .int .i64 k ∧ lo' = lo ∧ Hid (J3 3 29 base g n v len mk64 w0 k k lo' L wr)) (fun _ i _ => n - (intOf i).toNat)
      case atStart => exact ⟨0, [], _, by omega, rfl, rfl, HS⟩
      case round =>
        clear HS
        obtain ⟨k, L, lo, hk, rfl, rfl, HI⟩ := hrel
        by_cases hlt : k < n
        · have c0 := HI.out.cel k hlt
          have H4 : Hid (J4 3 29 base g n v len mk64 w0 k 0 lo L (v k) wr) := J4.start HI.out hlt
          have HF := OC.form_head (HI.out.own k (Nat.le_refl _) hlt)
          have HF1 : Hid (∃ ad cap, v k = .slice ad (len k) cap) := HF.1
          have HF2 : Hid (∀ ad cap, v k = .slice ad (len k) cap → 0 < len k → ∃ b, ad = some ⟨b, 0, none⟩) := HF.2
          have hm8 := hl.out k hlt
          clear HF HI
          obtain ⟨vk, hvk⟩ : ∃ vk, vk = v k := ⟨_, rfl⟩
          rw [← hvk] at c0 H4
          have HVK : Hid (vk = v k) := hvk
          clear hvk
          go_wp2
          go_loopw [7, 8] (fun x i wr => ∃ (t : Nat) (x' : Value), t ≤ 20 ∧ i = .int .i64 t ∧ x' = x ∧ Hid (J4 3 29 base g n v len mk64 w0 k t lo L x' wr)) (fun _ i _ => 20 - (intOf i).toNat)
          case atStart => exact ⟨0, _, by omega, rfl, rfl, H4⟩
          case round =>
            clear H4 c0
            obtain ⟨t, x, ht, rfl, rfl, H4⟩ := hrel
            by_cases hlt2 : t < 20
            · go_wp2_with (at_builtin; refine wpList_append_moveC rfl (.tmp 48) (.tmp 51) 29 rfl base 3 i0 (.int .i64 0) 8 Try.underlying29 hi0 hz0 hz1 hz2 rfl x (len k + t) _ rfl (H4.out.own.alloc _) ⟨wr.heap.size, 0, none⟩ 1 1 [.int .i64 (-9 - (k : Int))] rfl rfl (by decide) (by exact news_one _ _ _ _ rfl) (one_cell_int _ _) (by unfold maxLen; omega) (by omega) (by have := H4.out.inv.siz; have := R.out.hgb; simp; omega) ?_; intro x' w' ho hmv)
              have HN : Hid (J4 3 29 base g n v len mk64 w0 k (t + 1) lo L x' w') := H4.out.step R.out hlt HF1.out HF2.out ho.out hmv.out
              clear ho hmv H4
              go_wp2
              go_roundw
              case rel => exact ⟨t + 1, _, by omega, by go_num, rfl, HN⟩
              case measure => simp [intOf]; omega
            · have ht9 : t = 20 := by omega
              subst ht9
              have c0 := H4.out.inv.cel k hlt
              rw [← HVK.out] at c0
              obtain ⟨⟨adx, capx, hex⟩, -⟩ := OC.form_head H4.out.own
              obtain ⟨lx, hlx⟩ : ∃ lx, lx = len k + 20 := ⟨_, rfl⟩
              rw [← hlx] at hex
              obtain ⟨adv, capv, hev0⟩ := HF1.out
              obtain ⟨lv, hlv⟩ : ∃ lv, lv = len k := ⟨_, rfl⟩
              rw [← hlv] at hev0
              have hev : vk = .slice adv lv capv := by rw [HVK.out]; exact hev0
              subst hex hev
              clear hlx hlv hev0
              have n1 : ∀ (j : Nat) (u : Value), [Value.slice adx lx capx, .slice adv lv capv][j]? = some u → (wr.alloc (.cells #[.slice adx lx capx, .slice adv lv capv] 29)).cell? ((⟨wr.heap.size, 0, none⟩ : Addr).add j) = some u := cell_two_new wr _ _ 29
              have n2 : ∀ u ∈ [Value.slice adx lx capx, .slice adv lv capv], u.oneCell' = true := by
                intro u hu
                simp only [List.mem_cons, List.not_mem_nil, or_false] at hu
                rcases hu with rfl | rfl <;> rfl
              have N1 : Hid (∀ (j : Nat) (u : Value), [Value.slice adx lx capx, .slice adv lv capv][j]? = some u → (wr.alloc (.cells #[.slice adx lx capx, .slice adv lv capv] 29)).cell? ((⟨wr.heap.size, 0, none⟩ : Addr).add j) = some u) := n1
              have N2 : Hid (∀ u ∈ [Value.slice adx lx capx, .slice adv lv capv], u.oneCell' = true) := n2
              clear n1 n2
              go_wp2_with (at_builtin; refine wpList_append_move rfl (.tmp 53) (.tmp 59) 37 rfl w0.heap.size 29 i1 (.slice none 0 0) 24 Try.underlying37 hj0 hy0 hy1 hy2 rfl lo (2 * k) L rfl (H4.out.inv.lon.alloc _) ⟨wr.heap.size, 0, none⟩ 2 2 [.slice adx lx capx, .slice adv lv capv] rfl rfl (by decide) N1.out N2.out (by unfold maxLen; omega) (by omega) (by have := H4.out.inv.siz; simp; omega) ?_; intro lo2 w' ho hmv)
              have HN : Hid (∃ L', J3 3 29 base g n v len mk64 w0 (k + 1) (k + 1) lo2 L' w') := by
                have ho' := ho.out
                rw [HVK.out] at ho'
                exact ⟨_, H4.out.put R.out hlt ho' hmv.out⟩
              obtain ⟨L2, hN⟩ := HN.out
              have HN2 : Hid (J3 3 29 base g n v len mk64 w0 (k + 1) (k + 1) lo2 L2 w') := hN
              clear ho hmv H4 HN hN N1 N2
              go_wp2
              go_roundw
              case rel => exact ⟨k + 1, L2, _, by omega, by go_num, rfl, HN2⟩
              case measure => simp [intOf]; omega
        · have hkn2 : k = n := by omega
          rw [hkn2] at HI
          clear hkn2
          have hLf : ∃ adL capL, lo = .slice adL (2 * n) capL ∧ (0 < 2 * n → ∃ b, adL = some ⟨b, 0, none⟩) := by
            obtain ⟨⟨ad, cap, he⟩, hb⟩ := form_head HI.out.lon
            exact ⟨ad, cap, he, fun hp => hb ad cap he hp⟩
          obtain ⟨adL, capL, rfl, hLb⟩ := hLf
          have HLB : Hid (0 < 2 * n → ∃ b, adL = some ⟨b, 0, none⟩) := hLb
          clear hLb
          go_wp2
          go_loopw [9] (fun i wr' => ∃ (q : Nat), q ≤ 2 * n ∧ i = .int .i64 q ∧ wr' = wr) (fun i _ => 2 * n - (intOf i).toNat)
          case atStart => exact ⟨0, by omega, rfl, rfl⟩
          case round =>
            obtain ⟨q, hq, rfl, rfl⟩ := hrel
            by_cases hlq : q < 2 * n
            · obtain ⟨gL, rfl⟩ := HLB.out (by omega)
              have c0 : wr.cell? ⟨gL, q, none⟩ = some (L.getD q undef) := by
                have hll := HI.out.lon.1
                rw [HI.out.lon.cellAt q (by omega)]
                simp [show q < L.length by omega]
              obtain ⟨ad, cap, hv, hmk⟩ := (HI.out.mar q hlq).1
              have hm8 : cnt len q ≤ 100000100 := by
                have := hl.out (q / 2) (by omega)
                unfold cnt
                split <;> omega
              rw [hv] at c0
              generalize cnt len q = m at c0 hmk hm8
              have HMK : Hid (m = 0 ∨ ∃ b, ad = some ⟨b, 0, none⟩ ∧ ∀ k, k < m → wr.cell? ⟨b, k, none⟩ = some (mk64 (q / 2))) := hmk
              clear hv hmk
              go_wp2
              go_loopw [10] (fun i wr' => ∃ (t : Nat), t ≤ m ∧ i = .int .i64 t ∧ wr' = wr) (fun i _ => m - (intOf i).toNat)
              case atStart => exact ⟨0, by omega, rfl, rfl⟩
              case round =>
                obtain ⟨t, ht, rfl, rfl⟩ := hrel
                by_cases hlt3 : t < m
                · obtain ⟨b, rfl, hcb⟩ := HMK.out.resolve_left (by omega)
                  have d0 : wr.cell? ⟨b, t, none⟩ = some (.int .i64 (-9 - (q : Int) / 2)) := by
                    have := hcb t hlt3
                    rw [mk64, show ((q / 2 : Nat) : Int) = (q : Int) / 2 by omega] at this
                    exact this
                  clear hcb
                  go_wp2
                  go_roundw
                  case rel => exact ⟨t + 1, by omega, by go_num, trivial⟩
                  case measure => simp [intOf]; omega
                · have htm : t = m := by omega
                  go_wp2
                  go_roundw
                  case rel => exact ⟨q + 1, by omega, by go_num, trivial⟩
                  case measure => simp [intOf]; omega
            · have hqn : q = 2 * n := by omega
              have HBX : Hid (Below base w0 wr) := HI.out.bel
              clear HI
              go_wp2
              go_ret
              exact ⟨rfl, HBX.out⟩
end Go.Proofs.Ytiggbgmnibndoaa
/- HELPERS: two finds that hold the same. -/
namespace Go.Proofs.Ytiggbgmnibndoaa
open Go.RowKit Go.Lk
set_option linter.unusedVariables false
set_option linter.unusedSimpArgs false
end Go.Proofs.Ytiggbgmnibndoaa
/- HELPERS: a program that is lent: two marks behind each list. -/
namespace Go.Proofs.Ytiggbgmnibndoaa
open Go.RowKit
set_option linter.unusedVariables false
set_option linter.unusedSimpArgs false
abbrev mkI (k : Int) : Iv := ⟨k, 0, 0, 0, none, 0, 0⟩
/-- an instruction whose ranges, with two marks behind them, lie in a block by themselves, apart from a row -/
structure LO (w : World) (base : Nat) (z : Value) (N : Iv) (I : In) : Prop where
  op : N.op = I.op
  x : N.x = I.x
  y : N.y = I.y
  a : N.a = I.a
  len : N.r2 = I.R.length
  sm : N.r2 * 16 ≤ 140737488351232
  rr : w.ownsRow base 62 2 (.slice N.r1 (I.R.length + 2) N.r3) (I.R.length + 2) (O2 (I.R ++ M2))
  ne : ∀ b, N.rv.ownBlock = some b → z.ownBlock ≠ some b
/-- a program that is lent -/
structure PL (w : World) (base : Nat) (ad : Option Addr) (n c : Nat) (l : List In) (MS : List Iv) : Prop where
  len : n = l.length
  lms : MS.length = n
  row : w.ownsRow base 60 5 (.slice ad (n + 2) c) (n + 2) ((MS ++ [mkI (-77), mkI (-78)]).flatMap Iv.cs)
  lo : ∀ j (hj : j < l.length), LO w base (.slice ad (n + 2) c) (MS.getD j default) l[j]
  pw : ∀ j j' b, j < n → j' < n → j ≠ j' → (MS.getD j default).rv.ownBlock = some b → (MS.getD j' default).rv.ownBlock ≠ some b
theorem RowAt.kept {w w' : World} {N : Nat} {v : Value} {L : List (Int × Int)} (h : RowAt N w v L) (hk : ∀ b, b < N → w'.heap[b]? = w.heap[b]?) : RowAt N w' v L := by
  obtain ⟨ad, cap, e, h1⟩ := h
  refine ⟨ad, cap, e, h1.imp id ?_⟩
  rintro ⟨b, off, e1, h2, h3, h4⟩
  exact ⟨b, off, e1, h2, fun k hk' => (cell_eq (hk b h2) _).trans (h3 k hk'), fun k hk' => (cell_eq (hk b h2) _).trans (h4 k hk')⟩
end Go.Proofs.Ytiggbgmnibndoaa
/- HELPERS: the marks behind the lists of a program that was lent stand. -/
namespace Go.Proofs.Ytiggbgmnibndoaa
open Go.RowKit
set_option linter.unusedVariables false
set_option linter.unusedSimpArgs false
theorem O2_marks (R : List (Int × Int)) : (O2 (R ++ M2))[R.length * 2]? = some (.int .i64 (-77)) ∧ (O2 (R ++ M2))[(R.length + 1) * 2]? = some (.int .i64 (-78)) := by
  have h0 := (O2_at (R ++ M2) R.length (by simp)).1
  have h1 := (O2_at (R ++ M2) (R.length + 1) (by simp)).1
  simp at h0 h1
  exact ⟨by simpa using h0, by simpa using h1⟩
theorem insts_marks (MS : List Iv) : ((MS ++ [mkI (-77), mkI (-78)]).flatMap Iv.cs)[MS.length * 5]? = some (.int .i64 (-77)) ∧ ((MS ++ [mkI (-77), mkI (-78)]).flatMap Iv.cs)[(MS.length + 1) * 5]? = some (.int .i64 (-78)) := by
  have h0 := flat5 (MS ++ [mkI (-77), mkI (-78)]) MS.length 0 (by simp) (by omega)
  have h1 := flat5 (MS ++ [mkI (-77), mkI (-78)]) (MS.length + 1) 0 (by simp) (by omega)
  rw [Nat.add_zero] at h0 h1
  rw [h0, h1]
  simp
/-- what is read of the i-th instruction of a lent program -/
theorem PL.at5 {w : World} {base n c gz : Nat} {l : List In} {MS : List Iv} (h : PL w base (some ⟨gz, 0, none⟩) n c l MS) (i : Nat) (hi : i < n) : I5 w gz 0 i (MS.getD i default) := by
  have hjl : i < MS.length := by have := h.lms; omega
  have hg : MS.getD i default = MS[i] := by simp [List.getD_eq_getElem?_getD, List.getElem?_eq_getElem hjl]
  have f : ∀ q, q < 5 → w.cell? ⟨gz, i * 5 + q, none⟩ = (Iv.cs MS[i])[q]? := fun q hq => by
    rw [h.row.cellAt (i * 5 + q) (by omega), flat5 (MS ++ [mkI (-77), mkI (-78)]) i q (by simp; omega) hq, List.getElem_append_left hjl]
  have f0 := f 0 (by omega)
  rw [Nat.add_zero] at f0
  rw [hg]
  unfold I5
  rw [Nat.zero_add]
  exact ⟨f0, f 1 (by omega), f 2 (by omega), f 3 (by omega), f 4 (by omega)⟩
theorem PL.blk {w : World} {base n c : Nat} {ad : Option Addr} {l : List In} {MS : List Iv} (h : PL w base ad n c l MS) : ∃ gz, ad = some ⟨gz, 0, none⟩ ∧ n + 2 ≤ c ∧ c ≤ maxLen := by
  obtain ⟨a, c', e, h1, h2⟩ := row_shape h.row
  simp only [Value.slice.injEq] at e
  obtain ⟨_, _, rfl⟩ := e
  rcases h.row.2 with ⟨_, e⟩ | ⟨g, cap, cur, e, _⟩
  · omega
  · simp only [Value.slice.injEq] at e; exact ⟨g, e.1, h1, h2⟩
theorem LO.blk {w : World} {base : Nat} {z : Value} {N : Iv} {I : In} (h : LO w base z N I) : ∃ g, N.r1 = some ⟨g, 0, none⟩ ∧ I.R.length + 2 ≤ N.r3 ∧ N.r3 ≤ maxLen := by
  obtain ⟨a, c', e, h1, h2⟩ := row_shape h.rr
  simp only [Value.slice.injEq] at e
  obtain ⟨_, _, rfl⟩ := e
  rcases h.rr.2 with ⟨_, e⟩ | ⟨g, cap, cur, e, _⟩
  · omega
  · simp only [Value.slice.injEq] at e; exact ⟨g, e.1, h1, h2⟩
theorem PL.below {w w' : World} {base n c : Nat} {ad : Option Addr} {l : List In} {MS : List Iv} (h : PL w base ad n c l MS) (hb : Below w.heap.size w w') : PL w' base ad n c l MS :=
  ⟨h.len, h.lms, row_kept h.row (fun b hb' => hb.block b (h.row.lt b hb').2), fun j hj => by
    have hO := h.lo j hj
    exact ⟨hO.op, hO.x, hO.y, hO.a, hO.len, hO.sm, row_kept hO.rr (fun b hb' => hb.block b (hO.rr.lt b hb').2), hO.ne⟩, h.pw⟩
/-- a lent program can be read -/
theorem PL.pi {w : World} {base n c : Nat} {ad : Option Addr} {l : List In} {MS : List Iv} (h : PL w base ad n c l MS) : PI w w.heap.size ad n l := by
  obtain ⟨gz, rfl, _, _⟩ := h.blk
  refine ⟨h.len, fun hp => ⟨gz, 0, fun j => MS.getD j default, rfl, (h.row.lt gz rfl).2, fun i hi => ⟨h.at5 i (by have := h.len; omega), ?_⟩⟩⟩
  have hO := h.lo i hi
  refine ⟨hO.op, hO.x, hO.y, hO.a, hO.len, hO.sm, ?_⟩
  obtain ⟨g, e, _, _⟩ := hO.blk
  have hrr := hO.rr
  rw [e] at hrr
  refine ⟨_, _, by rw [hO.len], ?_⟩
  right
  refine ⟨g, 0, e, (hrr.lt g rfl).2, fun k hk => ?_, fun k hk => ?_⟩
  · rw [Nat.zero_add, hrr.cellAt (k * 2) (by omega), (O2_at (l[i].R ++ M2) k (by simp; omega)).1, List.getElem_append_left hk]
    simp [List.getD_eq_getElem?_getD, List.getElem?_eq_getElem hk]
  · rw [Nat.zero_add, hrr.cellAt (k * 2 + 1) (by omega), (O2_at (l[i].R ++ M2) k (by simp; omega)).2, List.getElem_append_left hk]
    simp [List.getD_eq_getElem?_getD, List.getElem?_eq_getElem hk]
set_option maxRecDepth 100000 in
set_option maxHeartbeats 8000000 in
theorem kept12 {w : World} {ad : Option Addr} {n c : Nat} {l : List In} {MS : List Iv} {s k : Int} {base : Nat} (h : PL w base ad n c l MS) (hn : n * 56 ≤ 140737488351232) :
    Calls Try.prog 13 #[pv ad n c s k] w fun e w' => e = .returned (.bool true) ∧ Below w.heap.size w w' := by
  obtain ⟨gz, rfl, hc1, hc2⟩ := h.blk
  have hb := Joins.below_alloc1 w (.cells #[.slice (some ⟨gz, 0, none⟩) n c, .int .i64 s, .int .i64 k] 27)
  obtain ⟨U, hU⟩ : ∃ U, U = w.alloc (.cells #[.slice (some ⟨gz, 0, none⟩) n c, .int .i64 s, .int .i64 k] 27) := ⟨_, rfl⟩
  rw [← hU] at hb
  have hX : U.heap[w.heap.size]? = some (.cells #[.slice (some ⟨gz, 0, none⟩) n c, .int .i64 s, .int .i64 k] 27 (0, 0)) := by rw [hU]; exact heap_alloc_new w _
  have hP := h.below hb
  have hm := insts_marks MS
  rw [h.lms] at hm
  have m0 : U.cell? ⟨gz, n * 5, none⟩ = some (.int .i64 (-77)) := (hP.row.cellAt (n * 5) (by omega)).trans hm.1
  have m1 : U.cell? ⟨gz, (n + 1) * 5, none⟩ = some (.int .i64 (-78)) := (hP.row.cellAt ((n + 1) * 5) (by omega)).trans hm.2
  have HP := hid hP
  have HB := hid hb
  have HL := hid h.len
  have ad3 : IntKind.i64.wrap ((n : Int) + 2) = (n : Int) + 2 := by simp [IntKind.wrap, IntKind.bits, IntKind.signed]; omega
  have ad4 : IntKind.i64.wrap ((n : Int) + 1) = (n : Int) + 1 := by simp [IntKind.wrap, IntKind.bits, IntKind.signed]; omega
  have hsz : w.heap.size < U.heap.size := (Array.getElem?_eq_some_iff.1 hX).1
  obtain ⟨b, hbe⟩ : ∃ b, b = w.heap.size := ⟨_, rfl⟩
  have u1 : (0 : Int) ≤ (n : Int) + 2 := by omega
  have u2 : (n : Int) + 2 ≤ (c : Int) := by omega
  have u3 : (n : Int) < (n : Int) + 2 := by omega
  have u4 : (n : Int) + 1 < (n : Int) + 2 := by omega
  clear h hb hP hm
  go_enter Try.func13, Try.ntmps13
  go_upto_region 1 with fail
  rw [← hU, ← hbe]
  rw [← hbe] at hX hsz HB
  have HX := hid hX
  have HBE := hid hbe
  obtain ⟨p0, p1, p2⟩ := three_cells hX
  clear hU hbe hX
  go_wp2_with fail
  clear p0 p1 p2 m0 m1 ad3 ad4 u1 u2 u3 u4
  go_loopw [5] (fun y wq => ∃ i : Nat, y = .int .i64 (i : Int) ∧ i ≤ n ∧ Hid (Below U.heap.size U wq)) (fun y _ => n - (intOf y).toNat)
  case atStart => exact ⟨0, rfl, by omega, Below.refl _ _⟩
  case round =>
    obtain ⟨i, rfl, hi, BK⟩ := hrel
    by_cases hil : i < n
    · have b1 : decide ((i : Int) < (n : Int)) = true := by simp; omega
      have b2 : (i : Int) < (n : Int) := by omega
      have b3 : (i : Int) < (n : Int) + 2 := by omega
      have ad1 : IntKind.i64.wrap ((i : Int) + 1) = (i : Int) + 1 := by simp [IntKind.wrap, IntKind.bits, IntKind.signed]; omega
      have hlt : i < l.length := by have := HL.out; omega
      have hPq := HP.out.below BK.out
      have hI5 := hPq.at5 i hil
      have hO := hPq.lo i hlt
      obtain ⟨N, hN⟩ : ∃ N, N = MS.getD i default := ⟨_, rfl⟩
      rw [← hN] at hI5 hO
      obtain ⟨g, e, h1, h2⟩ := hO.blk
      obtain ⟨op, xx, yy, aa, r1, r2, r3⟩ := N
      dsimp only at e h1 h2
      subst e
      have hlen : r2 = l[i].R.length := hO.len
      have hsm : r2 * 16 ≤ 140737488351232 := hO.sm
      have hrr := hO.rr
      dsimp only at hrr
      have hmm := O2_marks l[i].R
      rw [← hlen] at hrr hmm h1
      have q0 : wr.cell? ⟨g, r2 * 2, none⟩ = some (.int .i64 (-77)) := (hrr.cellAt (r2 * 2) (by omega)).trans hmm.1
      have q1 : wr.cell? ⟨g, (r2 + 1) * 2, none⟩ = some (.int .i64 (-78)) := (hrr.cellAt ((r2 + 1) * 2) (by omega)).trans hmm.2
      unfold I5 at hI5
      simp only [Nat.zero_add] at hI5
      obtain ⟨n0, n1, n2, n3, n4⟩ := hI5
      have a1 : IntKind.i64.wrap ((r2 : Int) + 2) = (r2 : Int) + 2 := by simp [IntKind.wrap, IntKind.bits, IntKind.signed]; omega
      have a2 : IntKind.i64.wrap ((r2 : Int) + 1) = (r2 : Int) + 1 := by simp [IntKind.wrap, IntKind.bits, IntKind.signed]; omega
      have u1 : (0 : Int) ≤ (r2 : Int) + 2 := by omega
      have u2 : (r2 : Int) + 2 ≤ (r3 : Int) := by omega
      have u3 : (r2 : Int) < (r2 : Int) + 2 := by omega
      have u4 : (r2 : Int) + 1 < (r2 : Int) + 2 := by omega
      clear hN hO hPq hrr hmm hlen
      go_wp2
      exact ⟨⟨i + 1, by push_cast; rfl, by omega, BK.out⟩, by simp [intOf]; omega⟩
    · have b1 : decide ((i : Int) < (n : Int)) = false := by simp; omega
      go_wp2
      all_goals go_ret
      all_goals refine ⟨rfl, ?_⟩
      rw [← HBE.out]
      exact HB.out.trans (Joins.below_le BK.out (by omega))
end Go.Proofs.Ytiggbgmnibndoaa
/- HELPERS: a program that was lent, with other things in the same lists. -/
namespace Go.Proofs.Ytiggbgmnibndoaa
open Go.RowKit
set_option linter.unusedVariables false
set_option linter.unusedSimpArgs false
theorem LO.kept {w w' : World} {base : Nat} {z : Value} {N : Iv} {I : In} (h : LO w base z N I) (hk : ∀ b, N.rv.ownBlock = some b → w'.heap[b]? = w.heap[b]?) : LO w' base z N I :=
  ⟨h.op, h.x, h.y, h.a, h.len, h.sm, row_kept h.rr (fun b hb => hk b ((ob_len _ _ _ _ _).trans hb)), h.ne⟩
theorem O2_set : ∀ (L : List (Int × Int)) (i : Nat) (x y : Int), ((O2 L).set (i * 2) (.int .i64 x)).set (i * 2 + 1) (.int .i64 y) = O2 (L.set i (x, y)) := by
  intro L
  induction L with
  | nil => intro i x y; simp [O2]
  | cons a L ih =>
    intro i x y
    cases i with
    | zero => simp [O2]
    | succ i =>
      have h := ih i x y
      have e : O2 (a :: L) = .int .i64 a.1 :: .int .i64 a.2 :: O2 L := by simp [O2]
      have e2 : O2 ((a :: L).set (i + 1) (x, y)) = .int .i64 a.1 :: .int .i64 a.2 :: O2 (L.set i (x, y)) := by simp [O2]
      rw [e, e2, ← h, show (i + 1) * 2 = i * 2 + 1 + 1 by omega]
      simp
theorem flat5_xy : ∀ (L : List Iv) (i : Nat) (x y : Int) (hi : i < L.length), ((L.flatMap Iv.cs).set (i * 5 + 1) (.int .i64 x)).set (i * 5 + 2) (.int .i64 y) = (L.set i { L[i] with x := x, y := y }).flatMap Iv.cs := by
  intro L
  induction L with
  | nil => intro i x y h; simp at h
  | cons a L ih =>
    intro i x y h
    cases i with
    | zero => simp [List.flatMap_cons, Iv.cs]
    | succ i =>
      have h1 := ih i x y (by simpa using h)
      have hl : (Iv.cs a).length = 5 := rfl
      rw [List.set_cons_succ, List.flatMap_cons, List.flatMap_cons, List.getElem_cons_succ, ← h1]
      rw [List.set_append_right _ _ (by omega), List.set_append_right _ _ (by omega), hl, show (i + 1) * 5 + 1 - 5 = i * 5 + 1 by omega, show (i + 1) * 5 + 2 - 5 = i * 5 + 2 by omega]
/-- one pair of an instruction's ranges is written -/
theorem PL.setR {w : World} {base n c gz g r3 : Nat} {l : List In} {MS : List Iv} {op x y a : Int} {r2 : Nat} (h : PL w base (some ⟨gz, 0, none⟩) n c l MS) (i : Nat) (hi : i < n) (hN : MS.getD i default = ⟨op, x, y, a, some ⟨g, 0, none⟩, r2, r3⟩) (k : Nat) (hk : k < r2) (p q : Int) :
    ∃ l', PL ((w.setCell ⟨g, k * 2, none⟩ (.int .i64 p)).setCell ⟨g, k * 2 + 1, none⟩ (.int .i64 q)) base (some ⟨gz, 0, none⟩) n c l' MS := by
  have hl := h.len
  have hil : i < l.length := by omega
  have hO := h.lo i hil
  rw [hN] at hO
  have hne : gz ≠ g := fun e => hO.ne g rfl (by rw [e]; rfl)
  have hkeep : ∀ b, b ≠ g → ((w.setCell ⟨g, k * 2, none⟩ (.int .i64 p)).setCell ⟨g, k * 2 + 1, none⟩ (.int .i64 q)).heap[b]? = w.heap[b]? := fun b hb => (Below.heap_setCell _ _ _ _ hb).trans (Below.heap_setCell _ _ _ _ hb)
  have hlen : r2 = l[i].R.length := hO.len
  refine ⟨l.set i { l[i] with R := l[i].R.set k (p, q) }, by simpa using hl, h.lms, row_kept h.row (fun b hb => hkeep b (by cases hb; exact hne)), fun j hj => ?_, h.pw⟩
  have hjl : j < l.length := by simpa using hj
  by_cases e : i = j
  · subst e
    rw [hN, List.getElem_set_self]
    refine ⟨hO.op, hO.x, hO.y, hO.a, by simpa using hlen, hO.sm, ?_, hO.ne⟩
    have h1 := row_setC (row_setC hO.rr (k * 2) (.int .i64 p)) (k * 2 + 1) (.int .i64 q)
    rw [O2_set, List.set_append_left _ _ (by omega)] at h1
    simpa using h1
  · rw [List.getElem_set_ne e]
    refine (h.lo j hjl).kept (fun b hb => hkeep b (fun eb => ?_))
    subst eb
    exact h.pw j i b (by omega) hi (fun e' => e e'.symm) hb (by rw [hN]; rfl)
/-- one instruction's two targets are turned -/
theorem PL.swap {w : World} {base n c gz : Nat} {l : List In} {MS : List Iv} {op x y a : Int} {r1 : Option Addr} {r2 r3 : Nat} (h : PL w base (some ⟨gz, 0, none⟩) n c l MS) (i : Nat) (hi : i < n) (hN : MS.getD i default = ⟨op, x, y, a, r1, r2, r3⟩) :
    ∃ l', PL ((w.setCell ⟨gz, i * 5 + 1, none⟩ (.int .i64 y)).setCell ⟨gz, i * 5 + 2, none⟩ (.int .i64 x)) base (some ⟨gz, 0, none⟩) n c l' (MS.set i ⟨op, y, x, a, r1, r2, r3⟩) := by
  have hl := h.len
  have hm := h.lms
  have hil : i < l.length := by omega
  have him : i < MS.length := by omega
  have hNi : MS[i] = ⟨op, x, y, a, r1, r2, r3⟩ := by rw [← hN]; simp [List.getD_eq_getElem?_getD, him]
  have hkeep : ∀ b, b ≠ gz → ((w.setCell ⟨gz, i * 5 + 1, none⟩ (.int .i64 y)).setCell ⟨gz, i * 5 + 2, none⟩ (.int .i64 x)).heap[b]? = w.heap[b]? := fun b hb => (Below.heap_setCell _ _ _ _ hb).trans (Below.heap_setCell _ _ _ _ hb)
  have hget : ∀ j, (MS.set i ⟨op, y, x, a, r1, r2, r3⟩).getD j default = if j = i then ⟨op, y, x, a, r1, r2, r3⟩ else MS.getD j default := fun j => by
    by_cases e : j = i
    · subst e; rw [if_pos rfl]; simp [List.getD_eq_getElem?_getD, him]
    · rw [if_neg e]; simp [List.getD_eq_getElem?_getD, List.getElem?_set_ne (fun e' => e e'.symm)]
  have hrv : ∀ j, ((MS.set i ⟨op, y, x, a, r1, r2, r3⟩).getD j default).rv = (MS.getD j default).rv := fun j => by
    rw [hget]
    by_cases e : j = i
    · rw [if_pos e, e, hN]
    · rw [if_neg e]
  have h1 := row_setC (row_setC h.row (i * 5 + 1) (.int .i64 y)) (i * 5 + 2) (.int .i64 x)
  rw [flat5_xy _ i y x (by simp; omega), List.set_append_left _ _ (by omega), List.getElem_append_left him, hNi] at h1
  refine ⟨l.set i { l[i] with x := l[i].y, y := l[i].x }, by simpa using hl, by simpa using hm, h1, fun j hj => ?_, fun j j' b hj hj' hne e1 e2 => ?_⟩
  · have hjl : j < l.length := by simpa using hj
    rw [hget]
    by_cases e : i = j
    · subst e
      have hO := h.lo i hil
      rw [hN] at hO
      rw [if_pos rfl, List.getElem_set_self]
      exact ⟨hO.op, hO.y, hO.x, hO.a, hO.len, hO.sm, row_kept hO.rr (fun b hb => hkeep b (fun eb => hO.ne b ((ob_len _ _ _ _ _).symm.trans hb) (by rw [eb]; rfl))), hO.ne⟩
    · rw [if_neg (fun e' => e e'.symm), List.getElem_set_ne e]
      exact (h.lo j hjl).kept (fun b hb => hkeep b (fun eb => (h.lo j hjl).ne b hb (by rw [eb]; rfl)))
  · rw [hrv] at e1 e2
    exact h.pw j j' b hj hj' hne e1 e2
theorem size49 : (Try.prog.info? 62).map (·.size) = some 2 := by kernel_rfl
theorem store49 {ops : Array Oper} {rest : List Oper} {op : Oper} {a : Act} {w : World} {Q : Exit → Act → World → Prop} (hgd : op.guard = none) (x y : Operand) (ho : op.op = .store 62 x y)
    (b i : Nat) (p q : Int) (hx : a.eval x = .pointer (some ⟨b, i * 2, none⟩)) (hy : a.eval y = .agg #[.int .i64 p, .int .i64 q]) (ht : w.there b (i * 2) 2)
    (h : wpList Try.prog ops Q rest (a.put op.dst undef) ((w.setCell ⟨b, i * 2, none⟩ (.int .i64 p)).setCell ⟨b, i * 2 + 1, none⟩ (.int .i64 q))) : wpList Try.prog ops Q (op :: rest) a w :=
  wpList_store_mid hgd 62 x y ho b (i * 2) #[.int .i64 p, .int .i64 q] hx hy ht size49 (by simp [Value.oneCell']) h
end Go.Proofs.Ytiggbgmnibndoaa
/- HELPERS: ranges copied. -/
namespace Go.Proofs.Ytiggbgmnibndoaa
open Go.RowKit Go.Lk
set_option linter.unusedVariables false
set_option linter.unusedSimpArgs false
theorem run_copy_two (w : World) (dT sT ty elem : TypeId) (b o dLen dCap : Nat) (a : Addr) (sLen sCap : Nat) (cs : List Value)
    (hu : Try.prog.underlying dT = some (.slice elem)) (hs : (Try.prog.info? elem).map (·.size) = some 2) (hn : cs.length = Nat.min sLen dLen * 2)
    (hsrc : ∀ j v, cs[j]? = some v → w.cell? (a.add j) = some v) (hc : ∀ j, j < cs.length → (w.cell? ⟨b, o + j, none⟩).isSome = true) (hf : ∀ j, j < cs.length → w.frozen? ⟨b, o + j, none⟩ = false) (h1 : ∀ v ∈ cs, v.oneCell' = true) :
    (Builtin.copy_ #[dT, sT] ty #[.slice (some ⟨b, o, none⟩) dLen dCap, .slice (some a) sLen sCap]).run Try.prog w = .ok (goInt (Nat.min sLen dLen)) (w.setCells b o cs) := by
  have hl := run_loadCells_list (P := Try.prog) w a cs hsrc
  have hst := run_storeCells_cells (P := Try.prog) b o cs 0 w (by simpa using hc) (by simpa using hf) h1
  cases hq : Try.prog.info? elem with
  | none => simp [hq] at hs
  | some i =>
    have hi : i.size = 2 := by simpa [hq] using hs
    rw [hn] at hl
    simp [Builtin.copy_, run_underlying hu, Builtin.lenOf, Builtin.firstCells, sizeOf, typeInfo, hq, hi, hl]
    have hst' : Sem.run Try.prog (storeCells { block := b, off := o } cs) w = Result.ok () (w.setCells b o cs) := by simpa using hst
    rw [hst']
    rfl
theorem run_copy_two0 (w : World) (dT sT ty elem : TypeId) (d a : Option Addr) (dLen dCap sLen sCap : Nat) (hu : Try.prog.underlying dT = some (.slice elem)) (hs : (Try.prog.info? elem).map (·.size) = some 2) (hn : Nat.min sLen dLen = 0) :
    (Builtin.copy_ #[dT, sT] ty #[.slice d dLen dCap, .slice a sLen sCap]).run Try.prog w = .ok (goInt 0) w := by
  cases hq : Try.prog.info? elem with
  | none => simp [hq] at hs
  | some i =>
    have hl : ∀ (x : Addr), (loadCells x 0).run Try.prog w = .ok #[] w := fun x => by simpa using run_loadCells_list (P := Try.prog) w x [] (by simp)
    cases d <;> cases a <;> simp [Builtin.copy_, run_underlying hu, Builtin.lenOf, Builtin.firstCells, sizeOf, typeInfo, hq, hn, storeCells, hl]
theorem makeR (c : Nat) (hc : c * 16 ≤ 140737488355328) (w : World) : (Instr.makeSlice 58 (.int .i64 (c : Int)) (.int .i64 (c : Int))).run Try.prog w = .ok (.slice (some ⟨w.heap.size, 0, none⟩) c c) (w.alloc (.cells (madeCells (Value.agg #[.int .i64 0, .int .i64 0]).cells (c * 2)) 62)) := by
  obtain ⟨i0, hi0, hz0, hz1, hz2⟩ := info_parts info49
  have h := run_make (P := Try.prog) w 58 62 i0 (.agg #[.int .i64 0, .int .i64 0]) Try.underlying58 hi0 hz0 .i64 .i64 c c (by omega) (by omega) (by rw [hz2]; omega) (by omega)
  simp only [Int.toNat_natCast, hz1] at h
  exact h
theorem makeI (c : Nat) (hc : c * 56 ≤ 140737488355328) (w : World) : (Instr.makeSlice 25 (.int .i64 (c : Int)) (.int .i64 (c : Int))).run Try.prog w = .ok (.slice (some ⟨w.heap.size, 0, none⟩) c c) (w.alloc (.cells (madeCells Z5.cells (c * 5)) 60)) := by
  obtain ⟨i0, hi0, hz0, hz1, hz2⟩ := info_parts info51
  have h := run_make (P := Try.prog) w 25 60 i0 Z5 Try.underlying25 hi0 hz0 .i64 .i64 c c (by omega) (by omega) (by rw [hz2]; omega) (by omega)
  simp only [Int.toNat_natCast, hz1] at h
  exact h
theorem made_rep (z : Array Value) (hz : 0 < z.size) : ∀ c : Nat, (madeCells z (c * z.size)).toList = (List.replicate c z.toList).flatten := by
  intro c
  apply List.ext_getElem?
  intro i
  have key : ∀ (c i : Nat), i < c * z.size → (List.replicate c z.toList).flatten[i]? = z[i % z.size]? := by
    intro c
    induction c with
    | zero => intro i h; simp at h
    | succ c ih =>
      intro i h
      rw [List.replicate_succ, List.flatten_cons]
      by_cases hi : i < z.size
      · rw [List.getElem?_append_left (by simpa using hi), Nat.mod_eq_of_lt hi]; simp
      · rw [List.getElem?_append_right (by simpa using Nat.le_of_not_lt hi)]
        have h2 : i - z.size < c * z.size := by rw [Nat.add_mul] at h; omega
        have := ih (i - z.size) h2
        rw [show i - z.toList.length = i - z.size by simp, this]
        rw [← Nat.mod_eq_sub_mod (by omega)]
  by_cases hi : i < c * z.size
  · rw [key c i hi]
    have hm : i % z.size < z.size := Nat.mod_lt _ hz
    simp [madeCells, hi, hm]
  · rw [List.getElem?_eq_none (by simp [madeCells]; omega), List.getElem?_eq_none (by simp; omega)]
theorem made_rowI (c N : Nat) (w : World) (hN : N ≤ w.heap.size) (hc : c ≤ maxLen) : (w.alloc (.cells (madeCells Z5.cells (c * 5)) 60)).ownsRow N 60 5 (.slice (some ⟨w.heap.size, 0, none⟩) c c) c ((List.replicate c (mkI 0)).flatMap Iv.cs) := by
  have h := World.ownsRow_lit (base := N) (e := 60) (size := 5) w (madeCells Z5.cells (c * 5)) c hN hc (by rw [size_madeCells])
  have e := made_rep Z5.cells (by decide) c
  rw [show Z5.cells.size = 5 from rfl] at e
  rw [e] at h
  have e2 : (List.replicate c Z5.cells.toList).flatten = (List.replicate c (mkI 0)).flatMap Iv.cs := by
    rw [List.flatMap_def, List.map_replicate]; rfl
  rw [e2] at h
  exact h
theorem made_rowR (c N : Nat) (w : World) (hN : N ≤ w.heap.size) (hc : c ≤ maxLen) : (w.alloc (.cells (madeCells (Value.agg #[.int .i64 0, .int .i64 0]).cells (c * 2)) 62)).ownsRow N 62 2 (.slice (some ⟨w.heap.size, 0, none⟩) c c) c (O2 (List.replicate c (0, 0))) := by
  have h := World.ownsRow_lit (base := N) (e := 62) (size := 2) w (madeCells (Value.agg #[.int .i64 0, .int .i64 0]).cells (c * 2)) c hN hc (by rw [size_madeCells])
  have e := made_rep (Value.agg #[.int .i64 0, .int .i64 0]).cells (by decide) c
  rw [show (Value.agg #[.int .i64 0, .int .i64 0]).cells.size = 2 from rfl] at e
  rw [e] at h
  have e2 : (List.replicate c (Value.agg #[.int .i64 0, .int .i64 0]).cells.toList).flatten = O2 (List.replicate c (0, 0)) := by
    unfold O2
    rw [List.flatMap_def, List.map_replicate]; rfl
  rw [e2] at h
  exact h
end Go.Proofs.Ytiggbgmnibndoaa
/- HELPERS: a list of ranges lent. -/
namespace Go.Proofs.Ytiggbgmnibndoaa
open Go.RowKit Go.Lk
set_option linter.unusedVariables false
set_option linter.unusedSimpArgs false
theorem copy_src {W : World} {lb lof : Nat} {R : List (Int × Int)} (h0 : ∀ k, k < R.length → W.cell? ⟨lb, lof + k * 2, none⟩ = some (.int .i64 (R.getD k (0, 0)).1)) (h1 : ∀ k, k < R.length → W.cell? ⟨lb, lof + (k * 2 + 1), none⟩ = some (.int .i64 (R.getD k (0, 0)).2)) : ∀ j v, (O2 R)[j]? = some v → W.cell? ((⟨lb, lof, none⟩ : Addr).add j) = some v := by
  intro j v hj
  have hjl := (List.getElem?_eq_some_iff.1 hj).1
  rw [O2_len] at hjl
  rw [Addr.add_mid, ← hj]
  by_cases e : j % 2 = 0
  · obtain ⟨k, rfl⟩ : ∃ k, j = k * 2 := ⟨j / 2, by omega⟩
    have hk : k < R.length := by omega
    rw [(O2_at R k hk).1, h0 k hk]
    simp [List.getD_eq_getElem?_getD, hk]
  · obtain ⟨k, rfl⟩ : ∃ k, j = k * 2 + 1 := ⟨j / 2, by omega⟩
    have hk : k < R.length := by omega
    rw [(O2_at R k hk).2, h1 k hk]
    simp [List.getD_eq_getElem?_getD, hk]
theorem O2_app (a b : List (Int × Int)) : O2 (a ++ b) = O2 a ++ O2 b := by simp [O2]
theorem copyR {W : World} {N B gr m r3 : Nat} {r1 : Option Addr} {R : List (Int × Int)} (hm : m = R.length) (hrow : W.ownsRow N 62 2 (.slice (some ⟨gr, 0, none⟩) (m + 2) (m + 2)) (m + 2) (O2 (List.replicate (m + 2) (0, 0)))) (hs : RowAt B W (.slice r1 m r3) R) :
    ∃ W', (Builtin.copy_ #[58, 58] 3 #[.slice (some ⟨gr, 0, none⟩) (m + 2) (m + 2), .slice r1 m r3]).run Try.prog W = .ok (.int .i64 (m : Int)) W' ∧ W'.ownsRow N 62 2 (.slice (some ⟨gr, 0, none⟩) (m + 2) (m + 2)) (m + 2) (O2 (R ++ [(0, 0), (0, 0)])) ∧ (∀ k, k ≠ gr → W'.heap[k]? = W.heap[k]?) ∧ W'.heap.size = W.heap.size ∧ W'.os = W.os ∧ W'.tape = W.tape ∧ W'.output = W.output := by
  obtain ⟨ad', cap', he, h0 | ⟨lb, lof, hr1, hlb, hc0, hc1⟩⟩ := hs
  · have hR : R = [] := List.length_eq_zero_iff.1 h0
    subst hR
    have hm0 : m = 0 := hm
    subst hm0
    refine ⟨W, ?_, by simpa using hrow, fun _ _ => rfl, rfl, rfl, rfl, rfl⟩
    have := run_copy_two0 W 58 58 3 62 (some ⟨gr, 0, none⟩) r1 (0 + 2) (0 + 2) 0 r3 Try.underlying58 size49 (by simp)
    simpa [goInt] using this
  · simp only [Value.slice.injEq] at he
    obtain ⟨e1, e2, e3⟩ := he
    rw [hr1] at e1
    subst e1
    have hl : (O2 R).length = m * 2 := by rw [O2_len, hm]
    have hrun := run_copy_two W 58 58 3 62 gr 0 (m + 2) (m + 2) ⟨lb, lof, none⟩ m r3 (O2 R) Try.underlying58 size49 (by rw [hl]; simp) (copy_src (fun k hk => hc0 k hk) (fun k hk => hc1 k hk)) (fun j hj => by
      rw [Nat.zero_add, hrow.cellAt j (by omega), List.getElem?_eq_getElem (by rw [O2_len]; simp; omega)]; rfl) (fun j hj => by rw [Nat.zero_add]; exact hrow.frozenAt j) (fun v hv => by
      simp only [O2, List.mem_flatMap, List.mem_cons, List.not_mem_nil, or_false] at hv
      obtain ⟨x, _, rfl | rfl⟩ := hv <;> rfl)
    refine ⟨W.setCells gr 0 (O2 R), by simpa [goInt] using hrun, ?_, fun k hk => setCells_old gr _ _ _ k hk, setCells_size gr _ _ _, ?_, ?_, ?_⟩
    · have h1 := row_setCells (O2 R) 0 W _ hrow (by rw [O2_len, O2_len]; simp; omega)
      rw [Nat.zero_add, List.take_zero, List.nil_append, hl, show List.replicate (m + 2) ((0 : Int), (0 : Int)) = List.replicate m (0, 0) ++ [(0, 0), (0, 0)] by rw [show m + 2 = m + 1 + 1 from rfl, List.replicate_succ', List.replicate_succ', List.append_assoc]; rfl, O2_app, List.drop_left' (by rw [O2_len]; simp), ← O2_app] at h1
      exact h1
    · exact (Below.setCells (B := 0) (Nat.zero_le _) (O2 R) 0 W W (Below.refl _ _)).os
    · exact (Below.setCells (B := 0) (Nat.zero_le _) (O2 R) 0 W W (Below.refl _ _)).tape
    · exact (Below.setCells (B := 0) (Nat.zero_le _) (O2 R) 0 W W (Below.refl _ _)).output
/-- the two marks are laid -/
theorem marksR {W : World} {N gr m : Nat} {R : List (Int × Int)} (hm : m = R.length) (hrow : W.ownsRow N 62 2 (.slice (some ⟨gr, 0, none⟩) (m + 2) (m + 2)) (m + 2) (O2 (R ++ [(0, 0), (0, 0)]))) :
    ((((W.setCell ⟨gr, m * 2, none⟩ (.int .i64 (-77))).setCell ⟨gr, m * 2 + 1, none⟩ (.int .i64 0)).setCell ⟨gr, (m + 1) * 2, none⟩ (.int .i64 (-78))).setCell ⟨gr, (m + 1) * 2 + 1, none⟩ (.int .i64 0)).ownsRow N 62 2 (.slice (some ⟨gr, 0, none⟩) (m + 2) (m + 2)) (m + 2) (O2 (R ++ M2)) := by
  have h1 := row_setC (row_setC hrow (m * 2) (.int .i64 (-77))) (m * 2 + 1) (.int .i64 0)
  rw [O2_set] at h1
  have h2 := row_setC (row_setC h1 ((m + 1) * 2) (.int .i64 (-78))) ((m + 1) * 2 + 1) (.int .i64 0)
  rw [O2_set] at h2
  have e : ((R ++ [(0, 0), (0, 0)]).set m (-77, 0)).set (m + 1) (-78, 0) = R ++ M2 := by
    subst hm
    rw [List.set_append_right _ _ (Nat.le_refl _), List.set_append_right _ _ (by omega)]
    simp
  rw [e] at h2
  exact h2
end Go.Proofs.Ytiggbgmnibndoaa
/- HELPERS: a program that is lent. -/
namespace Go.Proofs.Ytiggbgmnibndoaa
open Go.RowKit Go.Lk
set_option linter.unusedVariables false
set_option linter.unusedSimpArgs false
theorem size5 : (Try.prog.info? 60).map (·.size) = some 5 := by kernel_rfl
theorem store5 {ops : Array Oper} {rest : List Oper} {op : Oper} {a : Act} {w : World} {Q : Exit → Act → World → Prop} (hgd : op.guard = none) (x y : Operand) (ho : op.op = .store 60 x y)
    (b i : Nat) (N : Iv) (hx : a.eval x = .pointer (some ⟨b, i * 5, none⟩)) (hy : a.eval y = .agg #[.int .i64 N.op, .int .i64 N.x, .int .i64 N.y, .int .i64 N.a, .slice N.r1 N.r2 N.r3]) (ht : w.there b (i * 5) 5)
    (h : wpList Try.prog ops Q rest (a.put op.dst undef) (w.setCells b (i * 5) (Iv.cs N))) : wpList Try.prog ops Q (op :: rest) a w :=
  wpList_store_mid hgd 60 x y ho b (i * 5) #[.int .i64 N.op, .int .i64 N.x, .int .i64 N.y, .int .i64 N.a, .slice N.r1 N.r2 N.r3] hx hy ht size5 (by simp [Value.oneCell']) h
theorem flat5_set : ∀ (L : List Iv) (i : Nat) (M : Iv), i < L.length → (L.flatMap Iv.cs).take (i * 5) ++ Iv.cs M ++ (L.flatMap Iv.cs).drop (i * 5 + (Iv.cs M).length) = (L.set i M).flatMap Iv.cs := by
  intro L
  induction L with
  | nil => intro i M h; simp at h
  | cons a L ih =>
    intro i M h
    cases i with
    | zero => simp [List.flatMap_cons]
    | succ i =>
      have h1 := ih i M (by simpa using h)
      rw [List.set_cons_succ, List.flatMap_cons, List.flatMap_cons, ← h1]
      rw [show (i + 1) * 5 = (Iv.cs a).length + i * 5 by simp; omega, List.take_length_add_append, show (Iv.cs a).length + i * 5 + (Iv.cs M).length = (Iv.cs a).length + (i * 5 + (Iv.cs M).length) by omega, List.drop_length_add_append]
      simp
theorem getD_snoc (MS : List Iv) (N : Iv) (j : Nat) : (MS ++ [N]).getD j default = if j < MS.length then MS.getD j default else if j = MS.length then N else default := by
  by_cases h : j < MS.length
  · rw [if_pos h]; simp [List.getD_eq_getElem?_getD, List.getElem?_append_left h]
  · rw [if_neg h]
    by_cases e : j = MS.length
    · rw [if_pos e, e]; simp [List.getD_eq_getElem?_getD]
    · rw [if_neg e]; simp only [List.getD_eq_getElem?_getD]; rw [List.getElem?_eq_none (by simp; omega)]; rfl
/-- a round of Lent -/
theorem lent_step {wr V5 : World} {x gz gr n i : Nat} {l : List In} {MS : List Iv} {N' : Iv} (hil : i < l.length) (hin : i < n) (hML : MS.length = i) (hRZ : V5.ownsRow x 60 5 (.slice (some ⟨gz, 0, none⟩) (n + 2) (n + 2)) (n + 2) ((MS ++ List.replicate (n + 2 - i) (mkI 0)).flatMap Iv.cs))
    (hLO : ∀ j (hj : j < l.length), j < i → LO wr x (.slice (some ⟨gz, 0, none⟩) (n + 2) (n + 2)) (MS.getD j default) l[j]) (hPW : ∀ j j' b, j < i → j' < i → j ≠ j' → (MS.getD j default).rv.ownBlock = some b → (MS.getD j' default).rv.ownBlock ≠ some b)
    (hW5 : ∀ q, q < wr.heap.size → V5.heap[q]? = wr.heap[q]?) (hgz : gz < wr.heap.size) (hgr : wr.heap.size < gr) (hN : N'.r1 = some ⟨gr, 0, none⟩) (hO : LO V5 x (.slice (some ⟨gz, 0, none⟩) (n + 2) (n + 2)) N' l[i]) :
    (V5.setCells gz (i * 5) (Iv.cs N')).ownsRow x 60 5 (.slice (some ⟨gz, 0, none⟩) (n + 2) (n + 2)) (n + 2) (((MS ++ [N']) ++ List.replicate (n + 2 - (i + 1)) (mkI 0)).flatMap Iv.cs) ∧
    (∀ j (hj : j < l.length), j < i + 1 → LO (V5.setCells gz (i * 5) (Iv.cs N')) x (.slice (some ⟨gz, 0, none⟩) (n + 2) (n + 2)) ((MS ++ [N']).getD j default) l[j]) ∧
    (∀ j j' b, j < i + 1 → j' < i + 1 → j ≠ j' → ((MS ++ [N']).getD j default).rv.ownBlock = some b → ((MS ++ [N']).getD j' default).rv.ownBlock ≠ some b) := by
  have hset := row_setCells (Iv.cs N') (i * 5) V5 _ hRZ (by rw [flat5_len]; simp; omega)
  rw [flat5_set _ i N' (by simp; omega)] at hset
  have e : (MS ++ List.replicate (n + 2 - i) (mkI 0)).set i N' = (MS ++ [N']) ++ List.replicate (n + 2 - (i + 1)) (mkI 0) := by
    rw [List.set_append_right _ _ (by omega), show n + 2 - i = (n + 2 - (i + 1)) + 1 by omega, List.replicate_succ, hML, Nat.sub_self, List.set_cons_zero]
    simp
  rw [e] at hset
  have hNb : N'.rv.ownBlock = some gr := by show (Value.slice N'.r1 _ _).ownBlock = _; rw [hN]; rfl
  have hlow : ∀ j (hj : j < l.length), j < i → ∀ b, (MS.getD j default).rv.ownBlock = some b → b < wr.heap.size := fun j hj hji b hb => ((hLO j hj hji).rr.lt b ((ob_len _ _ _ _ _).trans hb)).2
  refine ⟨hset, fun j hj hji => ?_, fun j j' b hj hj' hne h1 h2 => ?_⟩
  · rw [getD_snoc]
    by_cases h : j < MS.length
    · rw [if_pos h]
      exact (hLO j hj (by omega)).kept (fun b hb => (setCells_old gz _ _ _ b (fun e' => (hLO j hj (by omega)).ne b hb (by rw [e']; rfl))).trans (hW5 b (hlow j hj (by omega) b hb)))
    · have ej : j = i := by omega
      subst ej
      rw [if_neg h, if_pos hML.symm]
      exact hO.kept (fun b hb => setCells_old gz _ _ _ b (fun e' => hO.ne b hb (by rw [e']; rfl)))
  · rw [getD_snoc] at h1 h2
    by_cases h : j < MS.length
    · rw [if_pos h] at h1
      by_cases h' : j' < MS.length
      · rw [if_pos h'] at h2; exact hPW j j' b (by omega) (by omega) hne h1 h2
      · rw [if_neg h', if_pos (by omega), hNb] at h2
        have := hlow j (by omega) (by omega) b h1
        simp at h2
        omega
    · rw [if_neg h, if_pos (by omega), hNb] at h1
      simp at h1
      rw [if_pos (by omega)] at h2
      have := hlow j' (by omega) (by omega) b h2
      omega
set_option maxRecDepth 100000 in
set_option maxHeartbeats 8000000 in
theorem lent9 {w : World} {ad : Option Addr} {n c : Nat} {l : List In} {s k : Int} (h : PI w w.heap.size ad n l) (hn : n * 56 ≤ 140737488351232) :
    Calls Try.prog 10 #[pv ad n c s k] w fun e w' => ∃ gz MS, e = .returned (pv (some ⟨gz, 0, none⟩) n (n + 2) s k) ∧ PL w' w.heap.size (some ⟨gz, 0, none⟩) n (n + 2) l MS ∧ Below w.heap.size w w' := by
  have HL := hid h.len
  obtain ⟨U, hU⟩ : ∃ U, U = (w.alloc (.cells #[.slice ad n c, .int .i64 s, .int .i64 k] 27)).alloc (.cells #[.slice none 0 0, .int .i64 0, .int .i64 0] 27) := ⟨_, rfl⟩
  have hb : Below w.heap.size w U := by rw [hU]; exact below_two' w _ _
  have hX : U.heap[w.heap.size]? = some (.cells #[.slice ad n c, .int .i64 s, .int .i64 k] 27 (0, 0)) := by rw [hU]; exact (heap_alloc_old _ _ (by simp)).trans (heap_alloc_new w _)
  have hY : U.heap[w.heap.size + 1]? = some (.cells #[.slice none 0 0, .int .i64 0, .int .i64 0] 27 (0, 0)) := by rw [hU]; exact two_new w _ _ _
  have hyU : w.heap.size + 1 < U.heap.size := (Array.getElem?_eq_some_iff.1 hY).1
  obtain ⟨x, hx⟩ : ∃ x, x = w.heap.size := ⟨_, rfl⟩
  obtain ⟨y, hy⟩ : ∃ y, y = w.heap.size + 1 := ⟨_, rfl⟩
  have hmk := makeI (n + 2) (by omega) U
  have HROW0 := hid (made_rowI (n + 2) x U (by omega) (by unfold maxLen; omega))
  obtain ⟨A, hA⟩ : ∃ A, A = U.alloc (.cells (madeCells Z5.cells ((n + 2) * 5)) 60) := ⟨_, rfl⟩
  obtain ⟨gz, hgz⟩ : ∃ gz, gz = U.heap.size := ⟨_, rfl⟩
  have hbA : Below U.heap.size U A := by rw [hA]; exact Joins.below_alloc1 U _
  rw [← hA, ← hgz] at hmk HROW0
  rw [show ((n + 2 : Nat) : Int) = (n : Int) + 2 by omega] at hmk
  rw [← hx] at hX hb h
  rw [← hy] at hY hyU
  have a2 : IntKind.i64.wrap ((n : Int) + 2) = (n : Int) + 2 := wrap_ok _ (by omega) (by omega)
  obtain ⟨c0, c1, c2⟩ := three_cells hX
  have hxy : x < y := by omega
  have hygz : y < gz := by omega
  have HX := hid ((hbA.block x (by omega)).trans hX)
  have HY := hid ((hbA.block y hyU).trans hY)
  have HB : Hid (Below x w A) := hb.trans (Joins.below_le hbA (by omega))
  have hgA : gz < A.heap.size := by rw [hA]; simp; omega
  have HXE := hid hx
  have HP := hid h
  clear h hb hX hY hbA hA hgz hyU
  go_enter Try.func10, Try.ntmps10
  go_upto_region 1 with fail
  rw [← hU, ← hy, ← hx]
  clear hU hy hx
  go_wp2_with fail
  clear hmk a2 c0 c1 c2
  go_loopw [4] (fun v wq => ∃ (i : Nat) (MS : List Iv), v = .int .i64 (i : Int) ∧ i ≤ n ∧ Hid (MS.length = i) ∧ Hid (wq.ownsRow x 60 5 (.slice (some ⟨gz, 0, none⟩) (n + 2) (n + 2)) (n + 2) ((MS ++ List.replicate (n + 2 - i) (mkI 0)).flatMap Iv.cs)) ∧ Hid (∀ j (hj : j < l.length), j < i → LO wq x (.slice (some ⟨gz, 0, none⟩) (n + 2) (n + 2)) (MS.getD j default) l[j]) ∧ Hid (∀ j j' b, j < i → j' < i → j ≠ j' → (MS.getD j default).rv.ownBlock = some b → (MS.getD j' default).rv.ownBlock ≠ some b) ∧ Hid (Below x w wq) ∧ Hid (wq.heap[x]? = some (.cells #[.slice ad n c, .int .i64 s, .int .i64 k] 27 (0, 0))) ∧ Hid (wq.heap[y]? = some (.cells #[.slice none 0 0, .int .i64 0, .int .i64 0] 27 (0, 0))) ∧ gz < wq.heap.size) (fun v _ => n - (intOf v).toNat)
  case atStart => exact ⟨0, [], rfl, by omega, rfl, hid (by simpa using HROW0.out), hid (fun j hj h => by omega), hid (fun j j' b h => by omega), HB.out, HX.out, HY.out, hgA⟩
  case round =>
    clear HROW0 HB HX HY hgA
    obtain ⟨i, MS, rfl, hi, HML, HROW, HLO, HPW, HB, HX, HY, hgw⟩ := hrel
    obtain ⟨p0, p1, p2⟩ := three_cells HX.out
    by_cases hil : i < n
    · have b1 : decide ((i : Int) < (n : Int)) = true := by simp; omega
      have b2 : (i : Int) < (n : Int) := by omega
      have ad1 : IntKind.i64.wrap ((i : Int) + 1) = (i : Int) + 1 := wrap_ok _ (by omega) (by omega)
      have hill : i < l.length := by have := HL.out; omega
      obtain ⟨pb, po, ND, hpa, hpb, hcs⟩ := HP.out.mem (by omega)
      subst hpa
      obtain ⟨h5, hIM⟩ := hcs i hill
      have h5' := h5.kept (HB.out.block pb hpb)
      have hIM' := hIM.kept HB.out (Nat.le_refl _)
      obtain ⟨N0, hN0⟩ : ∃ N0, N0 = ND i := ⟨_, rfl⟩
      rw [← hN0] at h5' hIM'
      obtain ⟨op, xx, yy, aa, r1, r2, r3⟩ := N0
      unfold I5 at h5'
      obtain ⟨m0, m1, m2, m3, m4⟩ := h5'
      have hsm : r2 * 16 ≤ 140737488351232 := hIM'.sm
      have hlen : r2 = l[i].R.length := hIM'.len
      have HIM := hid hIM'
      obtain ⟨V1, hV1⟩ : ∃ V1, V1 = wr.alloc (.cells #[.int .i64 op, .int .i64 xx, .int .i64 yy, .int .i64 aa, .slice r1 r2 r3] 60) := ⟨_, rfl⟩
      obtain ⟨bx, hbx⟩ : ∃ bx, bx = wr.heap.size := ⟨_, rfl⟩
      have hbV1 : Below wr.heap.size wr V1 := by rw [hV1]; exact Joins.below_alloc1 wr _
      have hBX : V1.heap[bx]? = some (.cells #[.int .i64 op, .int .i64 xx, .int .i64 yy, .int .i64 aa, .slice r1 r2 r3] 60 (0, 0)) := by rw [hV1, hbx]; exact heap_alloc_new wr _
      have hmkR := makeR (r2 + 2) (by omega) V1
      have hrow2 := made_rowR (r2 + 2) x V1 (by have := hbV1.size; omega) (by unfold maxLen; omega)
      obtain ⟨V2, hV2⟩ : ∃ V2, V2 = V1.alloc (.cells (madeCells (Value.agg #[.int .i64 0, .int .i64 0]).cells ((r2 + 2) * 2)) 62) := ⟨_, rfl⟩
      obtain ⟨gr, hgr⟩ : ∃ gr, gr = V1.heap.size := ⟨_, rfl⟩
      have hbV2 : Below V1.heap.size V1 V2 := by rw [hV2]; exact Joins.below_alloc1 V1 _
      rw [← hV2, ← hgr] at hmkR hrow2
      rw [show ((r2 + 2 : Nat) : Int) = (r2 : Int) + 2 by omega] at hmkR
      have hbx1 : bx < V1.heap.size := (Array.getElem?_eq_some_iff.1 hBX).1
      have hBX2 := (hbV2.block bx hbx1).trans hBX
      have hbw2 : Below x wr V2 := (hbV1.mono (by omega)).trans (hbV2.mono (by omega))
      obtain ⟨V3, hcp, hrow3, hk3, hs3, ho3, ht3, hu3⟩ := copyR (B := x) hlen hrow2 (HIM.out.row.below hbw2 (Nat.le_refl _) (Nat.le_refl _))
      have hgb : bx ≠ gr := by omega
      have hBX3 := (hk3 bx hgb).trans hBX2
      have hw3 : ∀ q, q < wr.heap.size → V3.heap[q]? = wr.heap[q]? := fun q hq => (hk3 q (by have := hbV1.size; omega)).trans ((hbV2.block q (by have := hbV1.size; omega)).trans (hbV1.block q hq))
      obtain ⟨V4a, hV4a⟩ : ∃ V4a, V4a = (V3.setCell ⟨gr, r2 * 2, none⟩ (.int .i64 (-77))).setCell ⟨gr, r2 * 2 + 1, none⟩ (.int .i64 0) := ⟨_, rfl⟩
      obtain ⟨V4, hV4⟩ : ∃ V4, V4 = (V4a.setCell ⟨gr, (r2 + 1) * 2, none⟩ (.int .i64 (-78))).setCell ⟨gr, (r2 + 1) * 2 + 1, none⟩ (.int .i64 0) := ⟨_, rfl⟩
      have hrow4 : V4.ownsRow x 62 2 (.slice (some ⟨gr, 0, none⟩) (r2 + 2) (r2 + 2)) (r2 + 2) (O2 (l[i].R ++ M2)) := by rw [hV4, hV4a]; exact marksR hlen hrow3
      have ht1 : V3.there gr (r2 * 2) 2 := row_there hrow3 (by omega)
      have hr4a := row_setC (row_setC hrow3 (r2 * 2) (.int .i64 (-77))) (r2 * 2 + 1) (.int .i64 0)
      rw [← hV4a] at hr4a
      have ht2 : V4a.there gr ((r2 + 1) * 2) 2 := row_there hr4a (by omega)
      have hk4a : ∀ q, q ≠ gr → V4a.heap[q]? = V3.heap[q]? := fun q hq => by rw [hV4a]; exact (Below.heap_setCell _ _ _ _ hq).trans (Below.heap_setCell _ _ _ _ hq)
      have hk4 : ∀ q, q ≠ gr → V4.heap[q]? = V3.heap[q]? := fun q hq => by rw [hV4]; exact (Below.heap_setCell _ _ _ _ hq).trans ((Below.heap_setCell _ _ _ _ hq).trans (hk4a q hq))
      have hBX4a := (hk4a bx hgb).trans hBX3
      have hBX4 := (hk4 bx hgb).trans hBX3
      obtain ⟨V5, hV5⟩ : ∃ V5, V5 = V4.setCell ⟨bx, 4, none⟩ (.slice (some ⟨gr, 0, none⟩) r2 (r2 + 2)) := ⟨_, rfl⟩
      have hBX5 : V5.heap[bx]? = some (.cells #[.int .i64 op, .int .i64 xx, .int .i64 yy, .int .i64 aa, .slice (some ⟨gr, 0, none⟩) r2 (r2 + 2)] 60 (0, 0)) := by rw [hV5]; exact Joins.block_setCell (i := 4) hBX4 _
      have hw5 : ∀ q, q < wr.heap.size → V5.heap[q]? = wr.heap[q]? := fun q hq => by rw [hV5]; exact (Below.heap_setCell _ _ _ _ (by show q ≠ bx; omega)).trans ((hk4 q (by have := hbV1.size; omega)).trans (hw3 q hq))
      have hrow5 : V5.ownsRow x 62 2 (.slice (some ⟨gr, 0, none⟩) (r2 + 2) (r2 + 2)) (r2 + 2) (O2 (l[i].R ++ M2)) := by rw [hV5]; exact own_setCell hrow4 (by simp [Value.ownBlock]; omega)
      have hrz := row_kept HROW.out (w' := V5) (fun q hq => hw5 q (by simp [Value.ownBlock] at hq; omega))
      have ht5 : V5.there gz (i * 5) 5 := row_there hrz (by omega)
      obtain ⟨g0, g1, g2, g3, g4⟩ := five hBX
      obtain ⟨e0, e1, e2, e3, e4⟩ := five hBX2
      obtain ⟨d0, d1, d2, d3, d4⟩ := five hBX3
      obtain ⟨f0, f1, f2, f3, f4⟩ := five hBX4a
      obtain ⟨q0, q1, q2, q3, q4⟩ := five hBX4
      obtain ⟨v0, v1, v2, v3, v4⟩ := five hBX5
      have uz4 := Joins.unfrozen_of_block hBX4 4
      have aR2 : IntKind.i64.wrap ((r2 : Int) + 2) = (r2 : Int) + 2 := wrap_ok _ (by omega) (by omega)
      have aR1 : IntKind.i64.wrap ((r2 : Int) + 1) = (r2 : Int) + 1 := wrap_ok _ (by omega) (by omega)
      have z1 : (r2 : Int) < (r2 : Int) + 2 := by omega
      have z2 : (r2 : Int) + 1 < (r2 : Int) + 2 := by omega
      have z3 : (r2 : Int) ≤ (r2 : Int) + 2 := by omega
      have z4 : (0 : Int) ≤ (r2 : Int) := by omega
      have z5 : (i : Int) < (n : Int) + 2 := by omega
      have HV1 := hid hV1
      have HV4a := hid hV4a
      have HV4 := hid hV4
      have HV5 := hid hV5
      have HBXE := hid hbx
      have HW5 := hid hw5
      have HR5 := hid hrow5
      have HRZ := hid hrz
      have HLEN := hid hlen
      have hgrx : wr.heap.size < gr := by have := hbV1.size; omega
      have hsz5 : V5.heap.size = gr + 1 := by rw [hV5, hV4, hV4a]; simp [World.setCell]; rw [hs3, hV2]; simp; omega
      have hen5 : V5.os = w.os ∧ V5.tape = w.tape ∧ V5.output = w.output := by
        rw [hV5, hV4, hV4a]
        exact ⟨ho3.trans (hbw2.os.trans HB.out.os), ht3.trans (hbw2.tape.trans HB.out.tape), hu3.trans (hbw2.output.trans HB.out.output)⟩
      have HEN := hid hen5
      have HSZ := hid hsz5
      clear hcs h5 hIM hN0 hV1 hbx hbV1 hBX hrow2 hV2 hgr hbV2 hBX2 hbw2 hrow3 hk3 hs3 ho3 ht3 hu3 hBX3 hw3 hV4a hV4 hrow4 hr4a hk4a hk4 hBX4a hBX4 hV5 hBX5 hw5 hrow5 hrz hlen hIM' hsz5 hen5 hbx1
      go_upto_region 6 with fail
      rw [← HV1.out, ← HBXE.out]
      clear m0 m1 m2 m3 m4
      go_upto_region 7 with fail
      clear hmkR g0 g1 g2 g3 g4
      go_upto_region 8 with fail
      clear hcp e0 e1 e2 e3 e4
      go_upto_region 9 with ((with_reducible refine store49 rfl (.tmp 38) (.tmp 37) rfl gr r2 (-77) 0 ?_ ?_ ht1 ?_); (rfl); (rfl))
      rw [← HV4a.out]
      clear ht1 d0 d1 d2 d3 d4
      go_upto_region 10 with ((with_reducible refine store49 rfl (.tmp 45) (.tmp 44) rfl gr (r2 + 1) (-78) 0 ?_ ?_ ht2 ?_); (rfl); (rfl))
      rw [← HV4.out]
      clear ht2 f0 f1 f2 f3 f4
      go_upto_region 11 with fail
      rw [← HV5.out]
      clear q0 q1 q2 q3 q4 uz4
      go_wp2_with ((with_reducible refine store5 rfl (.tmp 55) (.tmp 54) rfl gz i ⟨op, xx, yy, aa, some ⟨gr, 0, none⟩, r2, r2 + 2⟩ ?_ ?_ ht5 ?_); (rfl); (rfl))
      obtain ⟨s1, s2, s3⟩ := lent_step (N' := ⟨op, xx, yy, aa, some ⟨gr, 0, none⟩, r2, r2 + 2⟩) hill hil HML.out HRZ.out HLO.out HPW.out HW5.out hgw hgrx rfl ⟨HIM.out.op, HIM.out.x, HIM.out.y, HIM.out.a, HLEN.out, hsm, by rw [← HLEN.out]; exact HR5.out, fun b hb => by simp [Value.ownBlock] at hb ⊢; omega⟩
      have hold : ∀ q, q < wr.heap.size → q ≠ gz → (V5.setCells gz (i * 5) (Iv.cs ⟨op, xx, yy, aa, some ⟨gr, 0, none⟩, r2, r2 + 2⟩)).heap[q]? = wr.heap[q]? := fun q hq hne => (setCells_old gz _ _ _ q hne).trans (HW5.out q hq)
      have hxr := (Array.getElem?_eq_some_iff.1 HX.out).1
      have hyr := (Array.getElem?_eq_some_iff.1 HY.out).1
      have hbs := HB.out.size
      have hbe : Below V5.heap.size V5 (V5.setCells gz (i * 5) (Iv.cs ⟨op, xx, yy, aa, some ⟨gr, 0, none⟩, r2, r2 + 2⟩)) ∨ True := .inr trivial
      have hb0 := Below.setCells (B := 0) (Nat.zero_le gz) (Iv.cs ⟨op, xx, yy, aa, some ⟨gr, 0, none⟩, r2, r2 + 2⟩) (i * 5) V5 V5 (Below.refl _ _)
      refine ⟨⟨i + 1, MS ++ [⟨op, xx, yy, aa, some ⟨gr, 0, none⟩, r2, r2 + 2⟩], by push_cast; rfl, by omega, hid (by rw [List.length_append, HML.out]; rfl), hid s1, hid s2, hid s3, ⟨hb0.os.trans HEN.out.1, hb0.tape.trans HEN.out.2.1, hb0.output.trans HEN.out.2.2, by rw [setCells_size, HSZ.out]; omega, fun q hq => (hold q (by omega) (by omega)).trans (HB.out.block q hq)⟩, (hold x hxr (by omega)).trans HX.out, (hold y hyr (by omega)).trans HY.out, by rw [setCells_size, HSZ.out]; omega⟩, by simp [intOf]; omega⟩
    · have b1 : decide ((i : Int) < (n : Int)) = false := by simp; omega
      obtain rfl : n = i := by omega
      have hml := HML.out
      have an1 : IntKind.i64.wrap ((n : Int) + 1) = (n : Int) + 1 := wrap_ok _ (by omega) (by omega)
      have z1 : (n : Int) < (n : Int) + 2 := by omega
      have z2 : (n : Int) + 1 < (n : Int) + 2 := by omega
      have z3 : (n : Int) ≤ (n : Int) + 2 := by omega
      have z4 : (0 : Int) ≤ (n : Int) := by omega
      have ht1 : wr.there gz (n * 5) 5 := row_there HROW.out (by omega)
      have h1 := row_setCells (Iv.cs (mkI (-77))) (n * 5) wr _ HROW.out (by rw [flat5_len]; simp; omega)
      rw [flat5_set _ n (mkI (-77)) (by simp; have := HML.out; omega)] at h1
      obtain ⟨W1, hW1⟩ : ∃ W1, W1 = wr.setCells gz (n * 5) (Iv.cs (mkI (-77))) := ⟨_, rfl⟩
      rw [← hW1] at h1
      have ht2 : W1.there gz ((n + 1) * 5) 5 := row_there h1 (by omega)
      have h2 := row_setCells (Iv.cs (mkI (-78))) ((n + 1) * 5) W1 _ h1 (by rw [flat5_len]; simp; have := HML.out; omega)
      rw [flat5_set _ (n + 1) (mkI (-78)) (by simp; have := HML.out; omega)] at h2
      obtain ⟨W2, hW2⟩ : ∃ W2, W2 = W1.setCells gz ((n + 1) * 5) (Iv.cs (mkI (-78))) := ⟨_, rfl⟩
      rw [← hW2] at h2
      have e : ((MS ++ List.replicate (n + 2 - n) (mkI 0)).set n (mkI (-77))).set (n + 1) (mkI (-78)) = MS ++ [mkI (-77), mkI (-78)] := by
        have := HML.out
        rw [show n + 2 - n = 2 by omega, List.set_append_right _ _ (by omega), List.set_append_right _ _ (by omega), this, Nat.sub_self, show n + 1 - n = 1 by omega]
        rfl
      rw [e] at h2
      have hxr := (Array.getElem?_eq_some_iff.1 HX.out).1
      have hyr := (Array.getElem?_eq_some_iff.1 HY.out).1
      have hbs := HB.out.size
      have hx1 : W1.heap[x]? = _ := (show W1.heap[x]? = wr.heap[x]? by rw [hW1]; exact setCells_old gz _ _ _ x (by omega)).trans HX.out
      have hx2 : W2.heap[x]? = _ := (show W2.heap[x]? = W1.heap[x]? by rw [hW2]; exact setCells_old gz _ _ _ x (by omega)).trans hx1
      have hk2 : ∀ q, q ≠ gz → W2.heap[q]? = wr.heap[q]? := fun q hq => by rw [hW2]; exact (setCells_old gz _ _ _ q hq).trans (by rw [hW1]; exact setCells_old gz _ _ _ q hq)
      have hy2 := (hk2 y (by omega)).trans HY.out
      obtain ⟨W3, hW3⟩ : ∃ W3, W3 = W2.setCell ⟨x, 0, none⟩ (.slice (some ⟨gz, 0, none⟩) n (n + 2)) := ⟨_, rfl⟩
      have hx3 : W3.heap[x]? = some (.cells #[.slice (some ⟨gz, 0, none⟩) n (n + 2), .int .i64 s, .int .i64 k] 27 (0, 0)) := by rw [hW3]; exact Joins.block_setCell (i := 0) hx2 _
      have hy3 := (show W3.heap[y]? = W2.heap[y]? by rw [hW3]; exact Below.heap_setCell _ _ _ _ (by show y ≠ x; omega)).trans hy2
      obtain ⟨d0, d1, d2⟩ := three_cells hx1
      obtain ⟨e0, e1, e2⟩ := three_cells hx2
      obtain ⟨f0, f1, f2⟩ := three_cells hx3
      have u0 := Joins.unfrozen_of_block hx2 0
      have s0 := Joins.unfrozen_of_block hy3 0
      have s1 := Joins.unfrozen_of_block hy3 1
      have s2 := Joins.unfrozen_of_block hy3 2
      have y0 := Joins.cell_of_block hy3 0
      have y1 := Joins.cell_of_block hy3 1
      have y2 := Joins.cell_of_block hy3 2
      have hE2 : W2.heap.size = wr.heap.size ∧ W2.os = wr.os ∧ W2.tape = wr.tape ∧ W2.output = wr.output := by
        have hb0 := Below.setCells (B := 0) (Nat.zero_le gz) (Iv.cs (mkI (-77))) (n * 5) wr wr (Below.refl _ _)
        rw [← hW1] at hb0
        have hb1 := Below.setCells (B := 0) (Nat.zero_le gz) (Iv.cs (mkI (-78))) ((n + 1) * 5) W1 W1 (Below.refl _ _)
        rw [← hW2] at hb1
        refine ⟨?_, hb1.os.trans hb0.os, hb1.tape.trans hb0.tape, hb1.output.trans hb0.output⟩
        rw [hW2, setCells_size, hW1, setCells_size]
      have HE2 := hid hE2
      have HK2 := hid hk2
      have HH2 := hid h2
      have HY3 := hid hy3
      have HW1 := hid hW1
      have HW2 := hid hW2
      have HW3 := hid hW3
      clear h1 h2 e hW1 hW2 hW3 hx1 hx2 hx3 hy2 hy3 hk2 hml hE2
      go_upto_region 13 with ((with_reducible refine store5 rfl (.tmp 61) (.tmp 60) rfl gz n (mkI (-77)) ?_ ?_ ht1 ?_); (rfl); (rfl))
      rw [← HW1.out]
      clear ht1 p0 p1 p2
      go_upto_region 14 with ((with_reducible refine store5 rfl (.tmp 68) (.tmp 67) rfl gz (n + 1) (mkI (-78)) ?_ ?_ ht2 ?_); (rfl); (rfl))
      rw [← HW2.out]
      clear ht2 d0 d1 d2
      go_upto_region 15 with fail
      rw [← HW3.out]
      clear e0 e1 e2 u0
      go_wp2
      obtain ⟨F, hF⟩ : ∃ F, F = ((W3.setCell ⟨y, 0, none⟩ (.slice (some ⟨gz, 0, none⟩) n (n + 2))).setCell ⟨y, 1, none⟩ (.int .i64 s)).setCell ⟨y, 2, none⟩ (.int .i64 k) := ⟨_, rfl⟩
      rw [← hF]
      have hyF : F.heap[y]? = some (.cells #[.slice (some ⟨gz, 0, none⟩) n (n + 2), .int .i64 s, .int .i64 k] 27 (0, 0)) := by rw [hF]; exact Joins.block_setCell (i := 2) (Joins.block_setCell (i := 1) (Joins.block_setCell (i := 0) HY3.out _) _) _
      have hkF : ∀ q, q ≠ x → q ≠ y → F.heap[q]? = W2.heap[q]? := fun q h1 h2 => by rw [hF, HW3.out]; exact (Below.heap_setCell _ _ _ _ h2).trans ((Below.heap_setCell _ _ _ _ h2).trans ((Below.heap_setCell _ _ _ _ h2).trans (Below.heap_setCell _ _ _ _ h1)))
      have hsF : F.heap.size = wr.heap.size := by rw [hF, HW3.out]; simp [World.setCell]; exact HE2.out.1
      refine bodyPost_ret (results_cell_row rfl _ _ y 27 _ (0, 0) _ rfl hyF Try.underlying27 rfl (by kernel_rfl)) rfl ?_
      refine ⟨gz, MS, rfl, ?_, ?_⟩
      · rw [← HXE.out]
        refine ⟨HL.out, HML.out, row_kept HH2.out (fun q hq => hkF q (by simp [Value.ownBlock] at hq; omega) (by simp [Value.ownBlock] at hq; omega)), fun j hj => ?_, HPW.out⟩
        have hO := HLO.out j hj (by have := HL.out; omega)
        refine hO.kept (fun q hq => ?_)
        have hlt := hO.rr.lt q ((ob_len _ _ _ _ _).trans hq)
        have hne := hO.ne q hq
        have hqx : q ≠ x := fun e' => own_ne hO.rr HX.out (by decide) ((ob_len _ _ _ _ _).trans (e' ▸ hq))
        have hqy : q ≠ y := fun e' => own_ne hO.rr HY.out (by decide) ((ob_len _ _ _ _ _).trans (e' ▸ hq))
        exact (hkF q hqx hqy).trans (HK2.out q (fun e' => hne (by rw [e']; rfl)))
      · rw [← HXE.out]
        refine ⟨?_, ?_, ?_, by omega, fun q hq => (hkF q (by omega) (by omega)).trans ((HK2.out q (by omega)).trans (HB.out.block q hq))⟩
        · rw [hF, HW3.out]; exact HE2.out.2.1.trans HB.out.os
        · rw [hF, HW3.out]; exact HE2.out.2.2.1.trans HB.out.tape
        · rw [hF, HW3.out]; exact HE2.out.2.2.2.trans HB.out.output
end Go.Proofs.Ytiggbgmnibndoaa
