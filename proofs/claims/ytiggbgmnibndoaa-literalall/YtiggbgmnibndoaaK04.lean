/- HELPERS: Dg, Dh, Na, Nb, Nc, Nd, Ne, Nf, Ng, Nh, Ni, Nj, Nl, Nm. -/
import Derived.Test.YtiggbgmnibndoaaK03
import Derived.Deep.RegionHeld2
import Derived.Laws.CopyOwn
import Derived.Laws.IdiomCopy
import Derived.Deep.Cut
import Derived.Deep.CutRange
import Derived.Deep.Onto
import Derived.Deep.DeepAppendWide
import Derived.Laws.AppendOwnNone
import Derived.Test.YtiggbgmnibndoaaRows
import Derived.OpenShut
import Derived.SizedLaws
/- HELPERS: the document's Run. -/
namespace Go.Proofs.Ytiggbgmnibndoaa
open Go.RowKit Go.Lk
set_option linter.unusedVariables false
set_option linter.unusedSimpArgs false
theorem RT.kept_chg {w w' : World} {N b B0 K n c : Nat} {l : List In} {tx : List Int} {M : Rv} {s : Vst} {E E' : List Ef} {z : Option Addr} {F' : List Nat} (h : WJ w N b B0 l tx M s E') (hz : M.z = none) (hR : RT w N K z n c E) (hc : Chg w w' (UF b M) F') : RT w' N K z n c E := by
  obtain ⟨_, arr, ha, _⟩ := h.met
  refine ⟨hR.len, row_kept hR.row (fun k hk => hc.block k (hR.row.lt k hk).2 (fun hm => ?_)), fun e he => three_kept hc (hR.caps e he) h.no3⟩
  simp only [UF, zF, hz, List.mem_cons, Value.ownBlock] at hm
  rcases hm with rfl | rfl | hm
  · exact own_ne hR.row h.rb (by decide) hk
  · exact own_ne hR.row ha (by decide) hk
  · simp at hm
set_option maxRecDepth 100000 in
set_option maxHeartbeats 16000000 in
theorem run11_ok {w : World} {ad tad : Option Addr} {n c S K tn tc a : Nat} {anch : Bool} {l : List In} {tx : List Int} (hP : PI w w.heap.size ad n l) (hmay : mayB l (S : Int) (K : Int) = true) (hT : TextAt w.heap.size w tad tn tx) (hl : tn ≤ 4194304) (ha : a ≤ tn) :
    Calls Try.prog 25 #[pv ad n c (S : Int) (K : Int), .slice tad tn tc, .int .i64 (a : Int), .bool anch] w (FQ K (lockRun (prOf l tx S K) tx.length a anch) w) := by
  have hln := hP.len
  have hm := may_ok hmay
  have hKs : 2 ≤ K ∧ K ≤ 1002 := by omega
  have hSl : S < l.length := by omega
  have hn20 : n ≤ 20000 := by omega
  obtain ⟨U, hU⟩ : ∃ U, U = (w.alloc (.cells #[.slice ad n c, .int .i64 (S : Int), .int .i64 (K : Int)] 27)).alloc (.cells #[.bool false, .slice none 0 0, .int .i64 0, .int .i64 0] 52) := ⟨_, rfl⟩
  have hb : Below w.heap.size w U := by rw [hU]; exact below_two' w _ _
  have hX : U.heap[w.heap.size]? = some (.cells #[.slice ad n c, .int .i64 (S : Int), .int .i64 (K : Int)] 27 (0, 0)) := by rw [hU]; exact (heap_alloc_old _ _ (by simp)).trans (heap_alloc_new w _)
  have hY : U.heap[w.heap.size + 1]? = some (.cells #[.bool false, .slice none 0 0, .int .i64 0, .int .i64 0] 52 (0, 0)) := by rw [hU]; exact two_new w _ _ _
  have hPU := hP.kept hb hb.size
  have HCK := rcheck9 (c := c) (s := (S : Int)) (k := (K : Int)) hPU
  rw [hmay] at HCK
  have htl : tn = tx.length := hT.1
  obtain ⟨x, hx⟩ : ∃ x, x = w.heap.size := ⟨_, rfl⟩
  obtain ⟨y, hy⟩ : ∃ y, y = w.heap.size + 1 := ⟨_, rfl⟩
  have hyU : w.heap.size + 1 < U.heap.size := (Array.getElem?_eq_some_iff.1 hY).1
  rw [← hx] at hX hb hP hT
  rw [← hy] at hY hyU
  obtain ⟨c0, c1, c2⟩ := three_cells hX
  have HB := hid hb
  have HX := hid hX
  have HY := hid hY
  have HXE := hid hx
  have HP := hid hP
  have HT := hid hT
  have HMAY := hid hmay
  have HTL := hid htl
  have HLN := hid hln
  have HPOK := hid (pr_ok (tx := tx) hmay)
  have hxy : x < y := by omega
  have b1 : decide ((4194304 : Int) < (tn : Int)) = false := by simp; omega
  have b1' : decide ((tn : Int) > (4194304 : Int)) = false := by simp; omega
  have b2 : decide ((a : Int) < 0) = false := by simp
  have b3 : decide ((a : Int) > (tn : Int)) = false := by simp; omega
  have b3' : decide ((tn : Int) < (a : Int)) = false := by simp; omega
  have b3n : decide (tn < a) = false := by simp; omega
  have b1n : decide (4194304 < tn) = false := by simp; omega
  clear hP hT hPU hb hX hY hmay htl hm hln
  generalize hr : lockRun (prOf l tx S K) tx.length a anch = r
  have HR := hid hr
  clear hr
  go_enter Try.func25, Try.ntmps25
  go_upto_region 1 with fail
  rw [← hU, ← hy, ← hx]
  clear hU hy hx
  go_upto_region 8 with (go_at_call 24; (with_reducible refine HCK.mono ?_); rintro e w2 ⟨rfl, hb2⟩; have HB2 := hid hb2; clear hb2 HCK c0 c1 c2)
  have hU2 : U.heap.size ≤ w2.heap.size := HB2.out.size
  have hx2 := (HB2.out.block x (by omega)).trans HX.out
  have hy2 := (HB2.out.block y (by omega)).trans HY.out
  obtain ⟨e0, e1, e2⟩ := three_cells hx2
  have HX2 := hid hx2
  have HY2 := hid hy2
  have HBW2 : Hid (Below x w w2) := HB.out.trans (Joins.below_le HB2.out (by omega))
  have hxw2 : x < w2.heap.size := by omega
  have hyw2 : y < w2.heap.size := by omega
  clear hx2 hy2 HB HB2 HX HY hyU hU2
  have hmk := makeK K (by omega) w2
  have HMR := hid (made_row K x w2 (by omega) (by omega))
  obtain ⟨A, hA⟩ : ∃ A, A = w2.alloc (.cells (madeCells #[.int .i64 0] K) 3) := ⟨_, rfl⟩
  obtain ⟨g0, hg0⟩ : ∃ g0, g0 = w2.heap.size := ⟨_, rfl⟩
  have hbA : Below w2.heap.size w2 A := by rw [hA]; exact Joins.below_alloc1 w2 _
  have HBA := hid hbA
  rw [← hA, ← hg0] at hmk HMR
  have e2A := (cell_eq (hbA.block x hxw2) 2).trans e2
  have HGZ : Hid (w2.heap.size ≤ g0) := hid (by omega)
  clear hbA hA hg0
  go_wp2_with fail
  go_loopw [12] (fun v wq => ∃ i : Nat, v = .int .i64 (i : Int) ∧ i ≤ K ∧ Hid (wq.ownsRow x 3 1 (.slice (some ⟨g0, 0, none⟩) K K) K (I64 (List.replicate i (-1) ++ List.replicate (K - i) 0))) ∧ Hid (Below w2.heap.size w2 wq)) (fun v _ => K - (intOf v).toNat)
  case atStart => exact ⟨0, rfl, by omega, hid (by simpa using HMR.out), HBA.out⟩
  case round =>
    obtain ⟨i, rfl, hi, HRW, HBQ⟩ := hrel
    clear e2A hmk
    have d2 := (cell_eq (HBQ.out.block x hxw2) 2).trans e2
    by_cases hiK : i < K
    · have f1 : decide ((i : Int) < (K : Int)) = true := by simp; omega
      have f2 : (i : Int) < (K : Int) := by omega
      have a1 : IntKind.i64.wrap ((i : Int) + 1) = (i : Int) + 1 := by rw [wrap_ok _ (by omega) (by omega)]
      have hcell : wr.cell? ⟨g0, i, none⟩ = some (.int .i64 0) := by
        rw [HRW.out.cellAt i (by omega), List.getElem?_map, List.getElem?_append_right (by simp)]
        simp [List.getElem?_replicate]
        omega
      have hfz := HRW.out.frozenAt i
      have hst := row_setC HRW.out i (.int .i64 (-1))
      rw [← List.map_set, fill_step i K (-1) 0 hiK] at hst
      have HST := hid hst
      clear hst
      go_wp2
      exact ⟨⟨i + 1, by push_cast; rfl, by omega, HST.out, HBQ.out.setCell (p := ⟨g0, i, none⟩) HGZ.out _⟩, by simp [intOf]; omega⟩
    · have f1 : decide ((i : Int) < (K : Int)) = false := by simp; omega
      obtain rfl : K = i := by omega
      have hun : wr.ownsRow x 3 1 (.slice (some ⟨g0, 0, none⟩) K K) K (I64 (List.replicate K (-1))) := by have := HRW.out; simpa using this
      have d0 := (cell_eq (HBQ.out.block x hxw2) 0).trans e0
      have d1 := (cell_eq (HBQ.out.block x hxw2) 1).trans e1
      have HUN := hid hun
      have hxr : x < wr.heap.size := by have := HBQ.out.size; omega
      have hyr : y < wr.heap.size := by have := HBQ.out.size; omega
      have HXr := hid ((HBQ.out.block x hxw2).trans HX2.out)
      have HYr := hid ((HBQ.out.block y hyw2).trans HY2.out)
      have HBr : Hid (Below x w wr) := HBW2.out.trans (Joins.below_le HBQ.out (by omega))
      clear hun HRW HBQ e0 e1 e2 HX2 HY2 HBW2 HMR HBA HGZ hxw2 hyw2
      obtain ⟨b, hbe⟩ : ∃ b, b = wr.heap.size := ⟨_, rfl⟩
      obtain ⟨B1, hB1⟩ : ∃ B1, B1 = wr.alloc (.cells #[.slice ad n c, .int .i64 (S : Int), .int .i64 (K : Int), .slice tad tn tc, .int .i64 0, .slice none 0 0, .slice none 0 0, .bool false, .slice none 0 0, .int .i64 0, .int .i64 0, .bool false] 74) := ⟨_, rfl⟩
      have hbB : Below wr.heap.size wr B1 := by rw [hB1]; exact Joins.below_alloc1 wr _
      have HBB : Hid (Below x w B1) := HBr.out.trans (Joins.below_le hbB (by omega))
      have HXB := hid ((hbB.block x hxr).trans HXr.out)
      have HYB := hid ((hbB.block y hyr).trans HYr.out)
      have hxb : x ≠ b := by omega
      have hyb : y ≠ b := by omega
      have hxlb : x ≤ b := by omega
      have HG0 : Hid (HG B1 x b g0 l tx ⟨ad, n, c, S, K, tad, tn, tc, 0, 0, none, 0, 0, false, none, 0, 0, 0, 0, false⟩ (.slice none 0 0) [] none []) := by
        refine ⟨?_, hxlb, ?_, HP.out.kept HBB.out (Nat.le_refl _), HT.out.below HBB.out, ⟨rfl, ⟨rfl, .inl ⟨rfl, rfl⟩⟩, by simp⟩, rfl, ⟨rfl, rfl, rfl, rfl, rfl⟩, ?_⟩
        · rw [hB1, hbe]; exact heap_alloc_new wr _
        · have := hbB.size; omega
        · rw [hB1]; exact HUN.out.alloc _
      have HRS : Hid (lock (prOf l tx S K) a anch (tn + 1 - a) a [] none 0 = r) := by
        have := HR.out
        unfold lockRun at this
        rw [← HTL.out, show tn - a + 1 = tn + 1 - a by omega] at this
        exact this
      go_wp2_with fail
      rw [← hB1, ← hbe]
      clear hB1 hbe hbB d0 d1 d2 hxr hyr HXr HYr HBr HUN HR f1
      go_loopw [14, 15] (fun v14 v15 wq => ∃ (j : Nat) (Mq : Rv) (m5 : Value) (T : List Th) (fd : Fd) (E : List Ef), v14 = .slice Mq.z Mq.n2 Mq.c2 ∧ v15 = .int .i64 (j : Int) ∧ Hid (HG wq x b g0 l tx Mq m5 T fd E) ∧ Hid (ad = Mq.ad ∧ n = Mq.n ∧ S = Mq.S ∧ K = Mq.K ∧ tad = Mq.tad ∧ tn = Mq.tn ∧ tc = Mq.tc) ∧ a ≤ j ∧ j ≤ tn + 1 ∧ Hid (Below x w wq ∧ wq.heap[x]? = some (.cells #[.slice ad n c, .int .i64 (S : Int), .int .i64 (K : Int)] 27 (0, 0)) ∧ wq.heap[y]? = some (.cells #[.bool false, .slice none 0 0, .int .i64 0, .int .i64 0] 52 (0, 0))) ∧ Hid ((∀ t ∈ T, t.1 < l.length ∧ t.2.length = K) ∧ (∀ y, fd = some y → y.2.length = K) ∧ Mq.fs ≤ l.length * (j - a) ∧ lock (prOf l tx S K) a anch (tn + 1 - j) j T fd Mq.fs = r)) (fun _ v15 _ => tn + 1 - (intOf v15).toNat)
      case atStart => exact ⟨a, ⟨ad, n, c, S, K, tad, tn, tc, 0, 0, none, 0, 0, false, none, 0, 0, 0, 0, false⟩, .slice none 0 0, [], none, [], rfl, rfl, HG0.out, hid ⟨rfl, rfl, rfl, rfl, rfl, rfl, rfl⟩, by omega, by omega, hid ⟨HBB.out, HXB.out, HYB.out⟩, hid ⟨by simp, by simp, Nat.zero_le _, HRS.out⟩⟩
      case round =>
        obtain ⟨j, Mq, m5, Tq, fdq, Eq, rfl, rfl, HGq, HBS, haj, hjt, HW, HL⟩ := hrel
        clear HG0 HRS HBB HXB HYB
        by_cases hjl : j ≤ tn
        · have f1 : decide ((j : Int) ≤ (tn : Int)) = true := by simp; omega
          have a1 : IntKind.i64.wrap ((j : Int) + 1) = (j : Int) + 1 := by rw [wrap_ok _ (by omega) (by omega)]
          obtain ⟨ad', n', c', S', K', tad', tn', tc', j', mb', z, n2, c2, fok, f1', f2, f3, fw, fs, ov⟩ := Mq
          dsimp only at HBS HGq HL ⊢
          obtain ⟨rfl, rfl, rfl, rfl, rfl, rfl, rfl⟩ := HBS.out
          have hcb := HGq.out.hb
          have k4 := Joins.cell_of_block hcb 4
          have u4 := Joins.unfrozen_of_block hcb 4
          simp at k4
          obtain ⟨W1, hW1⟩ : ∃ W1, W1 = wr.setCell ⟨b, 4, none⟩ (.int .i64 (j : Int)) := ⟨_, rfl⟩
          have hB1 : W1.heap[b]? = some (.cells #[.slice ad n c', .int .i64 (S : Int), .int .i64 (K : Int), .slice tad tn tc, .int .i64 (j : Int), m5, .slice z n2 c2, .bool fok, .slice f1' f2 f3, .int .i64 fw, .int .i64 (fs : Int), .bool ov] 74 (0, 0)) := by rw [hW1]; exact Joins.block_setCell (i := 4) hcb _
          have hx1 := (show W1.heap[x]? = wr.heap[x]? by rw [hW1]; exact Below.heap_setCell _ _ _ _ hxb).trans HW.out.2.1
          obtain ⟨o0, o1, o2⟩ := three_cells hx1
          have hmkB := makeB n (by omega) W1
          obtain ⟨W2, hW2⟩ : ∃ W2, W2 = W1.alloc (.cells (madeCells #[.bool false] n) 4) := ⟨_, rfl⟩
          obtain ⟨mb, hmb⟩ : ∃ mb, mb = W1.heap.size := ⟨_, rfl⟩
          rw [← hW2, ← hmb] at hmkB
          have hb12 : Below W1.heap.size W1 W2 := by rw [hW2]; exact Joins.below_alloc1 W1 _
          have hbW1 : b < W1.heap.size := (Array.getElem?_eq_some_iff.1 hB1).1
          have hB2 := (hb12.block b hbW1).trans hB1
          have hM2 : W2.heap[mb]? = some (.cells (madeCells #[.bool false] n) 4 (0, 0)) := by rw [hW2, hmb]; exact heap_alloc_new W1 _
          have k5 := Joins.cell_of_block hB2 5
          have u5 := Joins.unfrozen_of_block hB2 5
          simp at k5
          obtain ⟨W3, hW3⟩ : ∃ W3, W3 = W2.setCell ⟨b, 5, none⟩ (.slice (some ⟨mb, 0, none⟩) n n) := ⟨_, rfl⟩
          have hB3 : W3.heap[b]? = some (.cells #[.slice ad n c', .int .i64 (S : Int), .int .i64 (K : Int), .slice tad tn tc, .int .i64 (j : Int), .slice (some ⟨mb, 0, none⟩) n n, .slice z n2 c2, .bool fok, .slice f1' f2 f3, .int .i64 fw, .int .i64 (fs : Int), .bool ov] 74 (0, 0)) := by rw [hW3]; exact Joins.block_setCell (i := 5) hB2 _
          have k6 := Joins.cell_of_block hB3 6
          have u6 := Joins.unfrozen_of_block hB3 6
          simp at k6
          obtain ⟨W4, hW4⟩ : ∃ W4, W4 = W3.setCell ⟨b, 6, none⟩ (.slice none 0 0) := ⟨_, rfl⟩
          have hB4 : W4.heap[b]? = some (.cells #[.slice ad n c', .int .i64 (S : Int), .int .i64 (K : Int), .slice tad tn tc, .int .i64 (j : Int), .slice (some ⟨mb, 0, none⟩) n n, .slice none 0 0, .bool fok, .slice f1' f2 f3, .int .i64 fw, .int .i64 (fs : Int), .bool ov] 74 (0, 0)) := by rw [hW4]; exact Joins.block_setCell (i := 6) hB3 _
          have k11 := Joins.cell_of_block hB4 11
          have u11 := Joins.unfrozen_of_block hB4 11
          simp at k11
          obtain ⟨W5, hW5⟩ : ∃ W5, W5 = W4.setCell ⟨b, 11, none⟩ (.bool false) := ⟨_, rfl⟩
          have hB5 : RB W5 b ⟨ad, n, c', S, K, tad, tn, tc, j, mb, none, 0, 0, fok, f1', f2, f3, fw, fs, false⟩ := by rw [hW5]; exact Joins.block_setCell (i := 11) hB4 _
          have hbmb : b ≠ mb := by omega
          have hM5 : W5.heap[mb]? = some (.cells (madeCells #[.bool false] n) 4 (0, 0)) := by
            rw [hW5, hW4, hW3]
            exact (Below.heap_setCell _ _ _ _ (Ne.symm hbmb)).trans ((Below.heap_setCell _ _ _ _ (Ne.symm hbmb)).trans ((Below.heap_setCell _ _ _ _ (Ne.symm hbmb)).trans hM2))
          have hC1 : Chg wr W1 [b] [b] := by rw [hW1]; exact (Chg.refl wr [b]).set (a := ⟨b, 4, none⟩) _ (by simp)
          have hC5 : Chg wr W5 [b] [b] := by
            rw [hW5, hW4, hW3]
            exact (((hC1.trans (Chg.of_below hb12)).set (a := ⟨b, 5, none⟩) _ (by simp)).set (a := ⟨b, 6, none⟩) _ (by simp)).set (a := ⟨b, 11, none⟩) _ (by simp)
          have hmbx : x ≤ mb := by omega
          obtain ⟨hWJ, hRT, hUN⟩ := HGq.out.start (j := j) (mb := mb) hC5 hB5 hM5 hmbx hjl
          have hok : fok = fdq.isSome := by
            have := HGq.out.fd
            cases fdq with
            | none => exact this.1
            | some v => obtain ⟨_, h1, _⟩ := this; exact h1
          have k7 := hB5.c 7
          simp at k7
          obtain ⟨M1, hM1⟩ : ∃ M1 : Rv, M1 = ⟨ad, n, c', S, K, tad, tn, tc, j, mb, none, 0, 0, fok, f1', f2, f3, fw, fs, false⟩ := ⟨_, rfl⟩
          have HWJ : Hid (WJ W5 x b fs l tx M1 (newV fdq) []) := by rw [hM1]; exact hWJ
          have HM1 : Hid (M1.j = j ∧ M1.K = K ∧ M1.z = none ∧ M1.ad = ad ∧ M1.n = n ∧ M1.S = S ∧ M1.tad = tad ∧ M1.tn = tn ∧ M1.tc = tc) := by rw [hM1]; exact ⟨rfl, rfl, rfl, rfl, rfl, rfl, rfl, rfl, rfl⟩
          have HRT : Hid (RT W5 x K z n2 c2 Eq) := hRT
          have HUN : Hid (W5.ownsRow x 3 1 (.slice (some ⟨g0, 0, none⟩) K K) K (I64 (List.replicate K (-1)))) := hUN
          have HC5 := hid hC5
          have hszw : x ≤ wr.heap.size := HGq.out.nw
          have hx5 := (hC5.block x (Array.getElem?_eq_some_iff.1 HW.out.2.1).1 (by simp; exact hxb)).trans HW.out.2.1
          have hywr := (Array.getElem?_eq_some_iff.1 HW.out.2.2).1
          have hy5 := (hC5.block y hywr (by simp; exact hyb)).trans HW.out.2.2
          have HX5 := hid hx5
          have HY5 := hid hy5
          have HB5 : Hid (Below x w W5) := HW.out.1.trans (hC5.below hszw (fun k hk => by simp at hk; subst hk; exact hxlb))
          have hzl : n2 = Eq.length := HGq.out.row.len
          have HTQ : Hid (Eq.map Ef.th = Tq) := HGq.out.nx
          have HZL := hid hzl
          have HW1 := hid hW1
          have HW3 := hid hW3
          have HW4 := hid hW4
          have HW5 := hid hW5
          have HKOK := hid hok
          clear hcb hB1 hx1 hb12 hB2 hM2 hB3 hB4 hB5 hM5 hC1 hC5 hWJ hRT hUN hx5 hy5 hW1 hW2 hW3 hW4 hW5 hmb hok HGq hzl hywr hszw hM1
          go_upto_region 19 with fail
          rw [← HW1.out]
          clear HW1 k4 u4
          go_upto_region 20 with fail
          rw [← HW3.out]
          clear HW3 k5 u5 hmkB
          go_upto_region 21 with fail
          rw [← HW4.out]
          clear HW4 k6 u6
          go_upto_region 22 with fail
          rw [← HW5.out]
          clear HW5 k11 u11 o0 o1 o2
          go_cut [16] from 76 to 91 (fun v16 wx => v16 = .bool (bgB a anch j fdq) ∧ wx = W5)
          case first =>
            have hbg : bgB a anch j fdq = (decide (j = a) || (!anch && !fok)) := by unfold bgB; rw [HKOK.out]; cases fdq <;> rfl
            have HBG0 := hid hbg
            clear hbg HKOK
            by_cases hja : j = a
            · have f3' : ((j : Int) == (a : Int)) = true := by simp [hja]
              have f4 : decide ((j : Int) = (a : Int)) = true := by simp [hja]
              have f5 : decide (j = a) = true := by simp [hja]
              clear hja
              go_wp2_with fail
              all_goals go_meet
              all_goals exact ⟨by rw [HBG0.out, f5]; simp, rfl⟩
            · have f3' : ((j : Int) == (a : Int)) = false := by simp; omega
              have f4 : decide ((j : Int) = (a : Int)) = false := by simp; omega
              have f5 : decide (j = a) = false := by simp [hja]
              cases anch
              · go_wp2_with fail
                all_goals go_meet
                all_goals exact ⟨by rw [HBG0.out, f5]; simp, rfl⟩
              · go_wp2_with fail
                all_goals go_meet
                all_goals exact ⟨by rw [HBG0.out, f5]; simp, rfl⟩
          case rest =>
            obtain ⟨rfl, hwc⟩ := hcut
            have hwc' := hwc.symm
            clear hwc
            subst hwc'
            have hfsb : fs ≤ 20000 * 4194304 := by
              have h1 := HL.out.2.2.1
              have h2 : l.length ≤ 20000 := by have := HLN.out; omega
              exact Nat.le_trans h1 (Nat.mul_le_mul h2 (by omega))
            have hn2s : n2 = Tq.length := by rw [← HTQ.out]; simp; exact HZL.out
            have HAI : Hid (∀ k, k < l.length → (act l tx j k).ok l.length) := fun k hk => act_ok HMAY.out j k hk
            have hinv0 : Inv l.length K (newV fdq) := new_inv _ _ _ HL.out.2.1
            have HINV0 := hid hinv0
            have hn2c : n2 ≤ 9223372036854775807 := by
              obtain ⟨_, _, e, h1, h2⟩ := row_shape HRT.out.row
              unfold maxLen at h2
              omega
            have HN2 := hid hn2s
            clear hinv0 k7 hn2s
            go_wp2_with fail
            go_loopw [17] (fun v wq => ∃ k : Nat, v = .int .i64 (k : Int) ∧ k ≤ n2 ∧ Hid (∃ M2 E2, WJ wq x b fs l tx M2 (vall (act l tx j) j (l.length + 1) (Tq.take k) (newV fdq)) E2 ∧ M2.core = M1.core ∧ Chg W5 wq (UF b M1) (UF b M2))) (fun v _ => n2 - (intOf v).toNat)
            case atStart => exact ⟨0, rfl, by omega, hid ⟨M1, [], by simpa [vall] using HWJ.out, rfl, Chg.refl _ _⟩⟩
            case round =>
              obtain ⟨k, rfl, hk, HQ⟩ := hrel
              obtain ⟨M2, E2, hv, hMc, hc⟩ := HQ.out
              have HV := hid hv
              have HMC := hid hMc
              have HCC := hid hc
              have hKe : M2.K = K := (rcore_K hMc).trans HM1.out.2.1
              have hje : M2.j = j := (rcore_j hMc).trans HM1.out.1
              have HKE := hid hKe
              have HJE := hid hje
              clear hv hMc hc hKe hje
              by_cases hkn : k < n2
              · have g1 : decide ((k : Int) < (n2 : Int)) = true := by simp; omega
                have g2 : (k : Int) < (n2 : Int) := by omega
                have g3 : IntKind.i64.wrap ((k : Int) + 1) = (k : Int) + 1 := by rw [wrap_ok _ (by omega) (by omega)]
                have hRTw := RT.kept_chg HWJ.out HM1.out.2.2.1 HRT.out HCC.out
                have hkE : k < Eq.length := by have := HZL.out; omega
                have hkT : k < Tq.length := by have := HN2.out; omega
                obtain ⟨zb, hz⟩ : ∃ zb, z = some ⟨zb, 0, none⟩ := by
                  rcases hRTw.row.2 with ⟨_, e⟩ | ⟨g, cap, cur, e, _⟩
                  · omega
                  · simp only [Value.slice.injEq] at e; exact ⟨g, e.1⟩
                have hrz := hRTw.row
                rw [hz] at hrz
                have t0 := (hrz.cellAt (k * 2) (by omega)).trans (by simpa using cellsF_get K Eq k hkE 0 (by omega))
                have t1 := (hrz.cellAt (k * 2 + 1) (by omega)).trans (cellsF_get K Eq k hkE 1 (by omega))
                simp only [Ef.cs, List.getElem?_cons_zero, List.getElem?_cons_succ] at t0 t1
                have hcap := hRTw.caps Eq[k] (List.getElem_mem hkE)
                have hTk : Tq[k] = (Eq[k].i, Eq[k].c) := by
                  have := HTQ.out
                  subst this
                  simp [Ef.th]
                have hokT := HL.out.1 Tq[k] (List.getElem_mem hkT)
                rw [hTk] at hokT
                have hsucc : vall (act l tx j) j (l.length + 1) (Tq.take (k + 1)) (newV fdq) = vis (act l tx j) j (l.length + 1) Eq[k].i Eq[k].c (vall (act l tx j) j (l.length + 1) (Tq.take k) (newV fdq)) := by
                  rw [vall_take_succ hkT, hTk]
                have hinv : Inv l.length K (vall (act l tx j) j (l.length + 1) (Tq.take k) (newV fdq)) := vall_inv HAI.out _ _ (fun t ht => HL.out.1 t (List.mem_of_mem_take ht)) HINV0.out
                have HI : Hid (∀ W, Eqw wr W → Calls Try.prog 33 #[.pointer (some ⟨b, 0, none⟩), .int .i64 (Eq[k].i : Int), .slice (some ⟨Eq[k].b, 0, none⟩) K Eq[k].q] W (WP x b fs l tx wr M2 (vis (act l tx j) j (l.length + 1) Eq[k].i Eq[k].c (vall (act l tx j) j (l.length + 1) (Tq.take k) (newV fdq))))) := by
                  intro W e
                  have h3 := visit25 HMAY.out (l.length + 1) Eq[k].i Eq[k].c _ W M2 E2 Eq[k].b Eq[k].q ⟨HV.out.kept (e.below _), HKE.out, hinv, hokT.1, e.row hcap, by omega⟩ (by omega)
                  rw [HJE.out] at h3
                  refine h3.mono ?_
                  rintro e2 w' ⟨h4, M4, E4, h5, h6, h7⟩
                  exact ⟨h4, M4, E4, h5, h6, e.chg h7⟩
                have HSC := hid hsucc
                subst hz
                clear hRTw hrz hcap hTk hokT hsucc hinv
                generalize hei : Eq[k].i = ei at t0 HI HSC
                generalize heb : Eq[k].b = eb at t1 HI
                generalize heq : Eq[k].q = eq at t1 HI
                clear hei heb heq
                go_upto_region 26 with fail
                go_region_with (go_at_call 33; (with_reducible refine (HI.out _ (by exact ⟨rfl, rfl, rfl, rfl⟩)).mono ?_); rintro e w4 ⟨he, M4, E4, hv4, hM4, hc4⟩; subst he; have HV4 := hid hv4; have HM4 := hid hM4; have HC4 := hid hc4; clear hv4 hM4 hc4)
                all_goals go_wp2
                all_goals exact ⟨⟨k + 1, by push_cast; rfl, by omega, hid ⟨M4, E4, by rw [HSC.out]; exact HV4.out, HM4.out.trans HMC.out, HCC.out.trans HC4.out⟩⟩, by simp [intOf]; omega⟩
              · have g1 : decide ((k : Int) < (n2 : Int)) = false := by simp; omega
                have hTk : Tq.take k = Tq := List.take_of_length_le (by have := HN2.out; omega)
                rw [hTk] at HV
                clear HQ hTk
                have hpl : place (prOf l tx S K) a anch j Tq fdq = if bgB a anch j fdq = true then vis (act l tx j) j (l.length + 1) S (List.replicate K (-1)) (vall (act l tx j) j (l.length + 1) Tq (newV fdq)) else vall (act l tx j) j (l.length + 1) Tq (newV fdq) := rfl
                have hinv1 : Inv l.length K (vall (act l tx j) j (l.length + 1) Tq (newV fdq)) := vall_inv HAI.out _ _ HL.out.1 HINV0.out
                have hip : Inv l.length K (place (prOf l tx S K) a anch j Tq fdq) := place_inv (P := prOf l tx S K) HPOK.out HL.out.1 HL.out.2.1
                generalize hs1 : vall (act l tx j) j (l.length + 1) Tq (newV fdq) = s1 at HV hpl hinv1
                generalize hs2 : place (prOf l tx S K) a anch j Tq fdq = s2 at hpl hip
                have HPL := hid hpl
                have HIP := hid hip
                have HIV1 := hid hinv1
                have HS2 := hid hs2
                clear hs1 hs2 hpl hip hinv1
                have hxU : x ∉ UF b M1 := fun hm => by
                  simp only [UF, zF, HM1.out.2.2.1, List.mem_cons, Value.ownBlock] at hm
                  rcases hm with h' | h' | h'
                  · exact hxb h'
                  · obtain ⟨_, arr, ha', _⟩ := HWJ.out.met
                    rw [← h', HX5.out] at ha'
                    simp at ha'
                  · simp at h'
                have hyU : y ∉ UF b M1 := fun hm => by
                  simp only [UF, zF, HM1.out.2.2.1, List.mem_cons, Value.ownBlock] at hm
                  rcases hm with h' | h' | h'
                  · exact hyb h'
                  · obtain ⟨_, arr, ha', _⟩ := HWJ.out.met
                    rw [← h', HY5.out] at ha'
                    simp at ha'
                  · simp at h'
                have hxW := (Array.getElem?_eq_some_iff.1 HX5.out).1
                have hyW := (Array.getElem?_eq_some_iff.1 HY5.out).1
                have HXX : Hid (∀ W F, Chg W5 W (UF b M1) F → W.heap[x]? = some (.cells #[.slice ad n c, .int .i64 (S : Int), .int .i64 (K : Int)] 27 (0, 0)) ∧ W.heap[y]? = some (.cells #[.bool false, .slice none 0 0, .int .i64 0, .int .i64 0] 52 (0, 0)) ∧ Below x w W ∧ W.ownsRow x 3 1 (.slice (some ⟨g0, 0, none⟩) K K) K (I64 (List.replicate K (-1)))) := fun W F h => ⟨(h.block x hxW hxU).trans HX5.out, (h.block y hyW hyU).trans HY5.out, HB5.out.trans (h.below HWJ.out.nw (fun k hk => (HWJ.out.low k hk).1)), three_kept h HUN.out HWJ.out.no3⟩
                clear hxU hyU hxW hyW
                generalize hbg : bgB a anch j fdq = bb at HPL ⊢
                clear hbg
                go_upto_if 109 with fail
                go_cut [] from 110 to 115 (fun wx => Hid (∃ M3 E3, WJ wx x b fs l tx M3 s2 E3 ∧ M3.core = M1.core ∧ Chg W5 wx (UF b M1) (UF b M3)))
                case first =>
                  cases bb
                  · have HS21 : Hid (s2 = s1) := by show s2 = s1; rw [HPL.out]; rfl
                    go_wp2_with fail
                    all_goals go_meet
                    all_goals exact hid ⟨M2, E2, by rw [HS21.out]; exact HV.out, HMC.out, HCC.out⟩
                  · have HS21 : Hid (s2 = vis (act l tx j) j (l.length + 1) S (List.replicate K (-1)) s1) := by show s2 = _; rw [HPL.out]; rfl
                    obtain ⟨hx', hy', hb', hun'⟩ := HXX.out _ _ HCC.out
                    obtain ⟨_, o1, _⟩ := three_cells hx'
                    have HI := visit25 HMAY.out (l.length + 1) S (List.replicate K (-1)) s1 wr M2 E2 g0 K ⟨HV.out, HKE.out, HIV1.out, hSl, hun', by omega⟩ (by omega)
                    rw [HJE.out, ← HS21.out] at HI
                    clear hx' hy' hb' hun'
                    go_wp2_with (go_at_call 33; (with_reducible refine HI.mono ?_); rintro e w4 ⟨he, M4, E4, hv4, hM4, hc4⟩; subst he; have HV4 := hid hv4; have HM4 := hid hM4; have HC4 := hid hc4; clear hv4 hM4 hc4 HI)
                    all_goals go_meet
                    all_goals exact hid ⟨M4, E4, HV4.out, HM4.out.trans HMC.out, HCC.out.trans HC4.out⟩
                case rest =>
                  obtain ⟨M3, E3, hv3, hM3, hc3⟩ := hcut.out
                  clear HV HMC HCC HKE HJE HPL HIV1
                  obtain ⟨hx', hy', hb', hun'⟩ := HXX.out _ _ hc3
                  have hK3 : M3.K = K := (rcore_K hM3).trans HM1.out.2.1
                  have HGq := hid (hv3.head (g0 := g0) (by rw [hK3]; exact hun'))
                  have HBS3 : Hid (ad = M3.ad ∧ n = M3.n ∧ S = M3.S ∧ K = M3.K ∧ tad = M3.tad ∧ tn = M3.tn ∧ tc = M3.tc) := by
                    obtain ⟨q1, q2, q3, q4, q5, q6, q7, q8, q9⟩ := HM1.out
                    exact ⟨q4.symm.trans (congrArg Rv.ad hM3).symm, q5.symm.trans (congrArg Rv.n hM3).symm, q6.symm.trans (congrArg Rv.S hM3).symm, q2.symm.trans (congrArg Rv.K hM3).symm, q7.symm.trans (congrArg Rv.tad hM3).symm, q8.symm.trans (congrArg Rv.tn hM3).symm, q9.symm.trans (congrArg Rv.tc hM3).symm⟩
                  have HKQ : Hid (M3.K = K) := hK3
                  have HXY := hid (And.intro hx' hy')
                  have HBW := hid hb'
                  have hn3 : M3.n2 = s2.next.length := by have h1 := hv3.row.len; have h2 := congrArg List.length hv3.nx; simp at h2; omega
                  have hfs3 : M3.fs = fs + s2.met.length := hv3.fs
                  have hok3 : M3.fok = s2.found.isSome := by
                    have := hv3.fd
                    cases hq : s2.found with
                    | none => rw [hq] at this; exact this.1
                    | some v => rw [hq] at this; obtain ⟨_, h1, _⟩ := this; exact h1
                  have t6 := hv3.rb.c 6
                  have t7 := hv3.rb.c 7
                  simp at t6 t7
                  have hlk := HL.out.2.2.2
                  rw [show tn + 1 - j = (tn - j) + 1 by omega, lock_succ, HS2.out, ← hfs3] at hlk
                  have HLK := hid hlk
                  have HF3 := hid hfs3
                  have hms := HIP.out.small
                  have HMS := hid hms
                  clear hcut hv3 hM3 hc3 hx' hy' hb' hun' hK3 hlk hfs3 hms
                  have HCO : Hid (((s2.next.isEmpty && (s2.found.isSome || anch)) = false) → ∃ (j' : Nat) (Mq : Rv) (m5 : Value) (T : List Th) (fd : Fd) (E : List Ef), Value.slice M3.z M3.n2 M3.c2 = .slice Mq.z Mq.n2 Mq.c2 ∧ Value.int .i64 ((j : Int) + 1) = .int .i64 (j' : Int) ∧ Hid (HG wc x b g0 l tx Mq m5 T fd E) ∧ Hid (ad = Mq.ad ∧ n = Mq.n ∧ S = Mq.S ∧ K = Mq.K ∧ tad = Mq.tad ∧ tn = Mq.tn ∧ tc = Mq.tc) ∧ a ≤ j' ∧ j' ≤ tn + 1 ∧ Hid (Below x w wc ∧ wc.heap[x]? = some (.cells #[.slice ad n c, .int .i64 (S : Int), .int .i64 (K : Int)] 27 (0, 0)) ∧ wc.heap[y]? = some (.cells #[.bool false, .slice none 0 0, .int .i64 0, .int .i64 0] 52 (0, 0))) ∧ Hid ((∀ t ∈ T, t.1 < l.length ∧ t.2.length = K) ∧ (∀ y, fd = some y → y.2.length = K) ∧ Mq.fs ≤ l.length * (j' - a) ∧ lock (prOf l tx S K) a anch (tn + 1 - j') j' T fd Mq.fs = r)) := fun hno => by
                    refine ⟨j + 1, M3, _, s2.next, s2.found, E3, rfl, by push_cast; rfl, HGq.out, HBS3.out, by omega, by omega, hid ⟨HBW.out, HXY.out⟩, hid ⟨HIP.out.nx, HIP.out.fd, ?_, ?_⟩⟩
                    · rw [HF3.out, show j + 1 - a = (j - a) + 1 by omega, Nat.mul_add]
                      have := HL.out.2.2.1
                      have := HMS.out
                      omega
                    · have h1 := HLK.out
                      rw [hno, Bool.or_false] at h1
                      by_cases ht : tn - j = 0
                      · rw [if_pos (by simp [ht])] at h1
                        rw [show tn + 1 - (j + 1) = 0 by omega]
                        exact h1
                      · rw [if_neg (by simp [ht])] at h1
                        rw [show tn + 1 - (j + 1) = tn - j by omega]
                        exact h1
                  have HBRK : Hid (((s2.next.isEmpty && (s2.found.isSome || anch)) = true) → (s2.found, M3.fs) = r) := fun hy => by
                    have h1 := HLK.out
                    rw [hy, Bool.or_true, if_pos rfl] at h1
                    exact h1
                  by_cases hne : s2.next.length = 0
                  · have hem : s2.next.isEmpty = true := by rw [List.isEmpty_iff, ← List.length_eq_zero_iff]; exact hne
                    have h0 : M3.n2 = 0 := by omega
                    rw [h0] at t6
                    rw [hem, Bool.true_and] at HCO HBRK
                    rw [h0] at HCO
                    rw [hok3] at t7
                    generalize hfd3 : s2.found = fd3 at *
                    clear hem h0 hne hn3 hok3
                    cases hso : (fd3.isSome || anch)
                    · have HC9 := hid (HCO.out hso)
                      simp only [Bool.or_eq_false_iff] at hso
                      obtain ⟨h1, rfl⟩ := hso
                      rw [h1] at t7
                      clear h1 HCO HBRK
                      go_wp2
                      all_goals exact ⟨HC9.out, by simp [intOf]; omega⟩
                    · have HRR := hid (HBRK.out hso)
                      have HSO := hid hso
                      clear hso HCO HBRK
                      generalize hi3 : fd3.isSome = bs at t7 HSO
                      have HI3 := hid hi3
                      clear hi3
                      cases bs with
                      | true =>
                        go_upto_region 31 with fail
                        have HFD := hid HGq.out.fd
                        have k7 := Joins.cell_of_block HGq.out.hb 7
                        have k8 := Joins.cell_of_block HGq.out.hb 8
                        have k9 := Joins.cell_of_block HGq.out.hb 9
                        have k10 := Joins.cell_of_block HGq.out.hb 10
                        simp at k7 k8 k9 k10
                        have hY4 := HXY.out.2
                        have s0 := Joins.unfrozen_of_block hY4 0
                        have s1 := Joins.unfrozen_of_block hY4 1
                        have s2 := Joins.unfrozen_of_block hY4 2
                        have s3 := Joins.unfrozen_of_block hY4 3
                        have y0 := Joins.cell_of_block hY4 0
                        have y1 := Joins.cell_of_block hY4 1
                        have y2 := Joins.cell_of_block hY4 2
                        have y3 := Joins.cell_of_block hY4 3
                        have HY4 := hid hY4
                        clear hY4
                        cases fd3 with
                        | none =>
                          exact absurd HI3.out (by simp)
                        | some v =>
                          obtain ⟨g, g1, g2, g3, g4, g5⟩ := HFD.out
                          rw [g1] at k7
                          rw [g2, g3, HKQ.out] at k8
                          rw [g4] at k9
                          rw [HKQ.out] at g5
                          have HG5 := hid g5
                          clear g1 g2 g3 g4 g5
                          go_wp2
                          refine bodyPost_ret (results_cell_tmp rfl _ _ y 52 _ (0, 0) _ rfl (Joins.block_setCell (i := 3) (Joins.block_setCell (i := 2) (Joins.block_setCell (i := 1) (Joins.block_setCell (i := 0) HY4.out _) _) _) _) Try.underlying52 rfl (by kernel_rfl)) rfl ?_
                          refine ⟨?_, ?_⟩
                          · rw [← HXE.out]
                            exact (((HBW.out.setCell (p := ⟨y, 0, none⟩) (by show x ≤ y; omega) _).setCell (p := ⟨y, 1, none⟩) (by show x ≤ y; omega) _).setCell (p := ⟨y, 2, none⟩) (by show x ≤ y; omega) _).setCell (p := ⟨y, 3, none⟩) (by show x ≤ y; omega) _
                          · rw [← HRR.out]
                            have hgy : (Value.slice (some ⟨g, 0, none⟩) K M3.f3).ownBlock ≠ some y := own_ne HG5.out HY4.out (by decide)
                            refine ⟨g, M3.f3, rfl, ?_⟩
                            rw [← HXE.out]
                            exact own_setCell (own_setCell (own_setCell (own_setCell HG5.out hgy) hgy) hgy) hgy
                      | false =>
                        obtain rfl : anch = true := by simpa using HSO.out
                        go_upto_region 31 with fail
                        have HFD := hid HGq.out.fd
                        have k7 := Joins.cell_of_block HGq.out.hb 7
                        have k8 := Joins.cell_of_block HGq.out.hb 8
                        have k9 := Joins.cell_of_block HGq.out.hb 9
                        have k10 := Joins.cell_of_block HGq.out.hb 10
                        simp at k7 k8 k9 k10
                        have hY4 := HXY.out.2
                        have s0 := Joins.unfrozen_of_block hY4 0
                        have s1 := Joins.unfrozen_of_block hY4 1
                        have s2 := Joins.unfrozen_of_block hY4 2
                        have s3 := Joins.unfrozen_of_block hY4 3
                        have y0 := Joins.cell_of_block hY4 0
                        have y1 := Joins.cell_of_block hY4 1
                        have y2 := Joins.cell_of_block hY4 2
                        have y3 := Joins.cell_of_block hY4 3
                        have HY4 := hid hY4
                        clear hY4
                        cases fd3 with
                        | none =>
                          obtain ⟨g1, g2, g3, g4, g5⟩ := HFD.out
                          rw [g1] at k7
                          rw [g2, g3, g4] at k8
                          rw [g5] at k9
                          clear g1 g2 g3 g4 g5
                          go_wp2
                          refine bodyPost_ret (results_cell_tmp rfl _ _ y 52 _ (0, 0) _ rfl (Joins.block_setCell (i := 3) (Joins.block_setCell (i := 2) (Joins.block_setCell (i := 1) (Joins.block_setCell (i := 0) HY4.out _) _) _) _) Try.underlying52 rfl (by kernel_rfl)) rfl ?_
                          refine ⟨?_, ?_⟩
                          · rw [← HXE.out]
                            exact (((HBW.out.setCell (p := ⟨y, 0, none⟩) (by show x ≤ y; omega) _).setCell (p := ⟨y, 1, none⟩) (by show x ≤ y; omega) _).setCell (p := ⟨y, 2, none⟩) (by show x ≤ y; omega) _).setCell (p := ⟨y, 3, none⟩) (by show x ≤ y; omega) _
                          · rw [← HRR.out]; rfl
                        | some v =>
                          exact absurd HI3.out (by simp)
                  · have hem : s2.next.isEmpty = false := by
                      cases hq : s2.next with
                      | nil => rw [hq] at hne; exact absurd rfl hne
                      | cons _ _ => rfl
                    have HC9 := hid (HCO.out (by rw [hem]; rfl))
                    have v1 : ¬ M3.n2 = 0 := by omega
                    have v2 : ((M3.n2 : Int) == 0) = false := by simp; omega
                    have v3 : decide ((M3.n2 : Int) = 0) = false := by simp; omega
                    have v4 : (M3.n2 == 0) = false := by simp; omega
                    clear HCO HBRK hem hne hn3
                    go_wp2
                    all_goals exact ⟨HC9.out, by simp [intOf]; omega⟩
        · have f1 : decide ((j : Int) ≤ (tn : Int)) = false := by simp; omega
          have HRR : Hid ((fdq, Mq.fs) = r) := by
            have := HL.out.2.2.2
            rw [show tn + 1 - j = 0 by omega] at this
            exact this
          have HKQ : Hid (Mq.K = K) := HBS.out.2.2.2.1.symm
          have HXY := hid HW.out.2
          have HBW := hid HW.out.1
          have HFD := hid HGq.out.fd
          have k7 := Joins.cell_of_block HGq.out.hb 7
          have k8 := Joins.cell_of_block HGq.out.hb 8
          have k9 := Joins.cell_of_block HGq.out.hb 9
          have k10 := Joins.cell_of_block HGq.out.hb 10
          simp at k7 k8 k9 k10
          have hY4 := HXY.out.2
          have s0 := Joins.unfrozen_of_block hY4 0
          have s1 := Joins.unfrozen_of_block hY4 1
          have s2 := Joins.unfrozen_of_block hY4 2
          have s3 := Joins.unfrozen_of_block hY4 3
          have y0 := Joins.cell_of_block hY4 0
          have y1 := Joins.cell_of_block hY4 1
          have y2 := Joins.cell_of_block hY4 2
          have y3 := Joins.cell_of_block hY4 3
          have HY4 := hid hY4
          clear hY4
          cases fdq with
          | none =>
            obtain ⟨g1, g2, g3, g4, g5⟩ := HFD.out
            rw [g1] at k7
            rw [g2, g3, g4] at k8
            rw [g5] at k9
            clear g1 g2 g3 g4 g5
            go_wp2
            refine bodyPost_ret (results_cell_tmp rfl _ _ y 52 _ (0, 0) _ rfl (Joins.block_setCell (i := 3) (Joins.block_setCell (i := 2) (Joins.block_setCell (i := 1) (Joins.block_setCell (i := 0) HY4.out _) _) _) _) Try.underlying52 rfl (by kernel_rfl)) rfl ?_
            refine ⟨?_, ?_⟩
            · rw [← HXE.out]
              exact (((HBW.out.setCell (p := ⟨y, 0, none⟩) (by show x ≤ y; omega) _).setCell (p := ⟨y, 1, none⟩) (by show x ≤ y; omega) _).setCell (p := ⟨y, 2, none⟩) (by show x ≤ y; omega) _).setCell (p := ⟨y, 3, none⟩) (by show x ≤ y; omega) _
            · rw [← HRR.out]; rfl
          | some v =>
            obtain ⟨g, g1, g2, g3, g4, g5⟩ := HFD.out
            rw [g1] at k7
            rw [g2, g3, HKQ.out] at k8
            rw [g4] at k9
            rw [HKQ.out] at g5
            have HG5 := hid g5
            clear g1 g2 g3 g4 g5
            go_wp2
            refine bodyPost_ret (results_cell_tmp rfl _ _ y 52 _ (0, 0) _ rfl (Joins.block_setCell (i := 3) (Joins.block_setCell (i := 2) (Joins.block_setCell (i := 1) (Joins.block_setCell (i := 0) HY4.out _) _) _) _) Try.underlying52 rfl (by kernel_rfl)) rfl ?_
            refine ⟨?_, ?_⟩
            · rw [← HXE.out]
              exact (((HBW.out.setCell (p := ⟨y, 0, none⟩) (by show x ≤ y; omega) _).setCell (p := ⟨y, 1, none⟩) (by show x ≤ y; omega) _).setCell (p := ⟨y, 2, none⟩) (by show x ≤ y; omega) _).setCell (p := ⟨y, 3, none⟩) (by show x ≤ y; omega) _
            · rw [← HRR.out]
              have hgy : (Value.slice (some ⟨g, 0, none⟩) K Mq.f3).ownBlock ≠ some y := own_ne HG5.out HY4.out (by decide)
              refine ⟨g, Mq.f3, rfl, ?_⟩
              rw [← HXE.out]
              exact own_setCell (own_setCell (own_setCell (own_setCell HG5.out hgy) hgy) hgy) hgy
end Go.Proofs.Ytiggbgmnibndoaa
/- HELPERS: the document's Run whole. -/
namespace Go.Proofs.Ytiggbgmnibndoaa
open Go.RowKit Go.Lk
/-- what the document's Run answers, of whatever is asked -/
def RunB (l : List In) (tx : List Int) (s k a : Int) (anch : Bool) (w : World) (e : Ending) (w' : World) : Prop :=
  (errR l s k tx.length a = 0 ∧ FQ k.toNat (lockRun (prOf l tx s.toNat k.toNat) tx.length a.toNat anch) w e w') ∨ (errR l s k tx.length a ≠ 0 ∧ FE (errR l s k tx.length a) w e w')
theorem run11 {w : World} {ad tad : Option Addr} {n c tn tc : Nat} {s k a : Int} {anch : Bool} {l : List In} {tx : List Int} (hP : PI w w.heap.size ad n l) (hT : TextAt w.heap.size w tad tn tx) :
    Calls Try.prog 25 #[pv ad n c s k, .slice tad tn tc, .int .i64 a, .bool anch] w (RunB l tx s k a anch w) := by
  have htl : tn = tx.length := hT.1
  by_cases h1 : 4194304 < tn
  · have e : errR l s k tx.length a = 2 := by unfold errR; rw [if_pos (by omega)]
    refine (run11_long hP h1).mono fun e' w' h => ?_
    exact .inr (by rw [e]; exact ⟨by decide, h⟩)
  · cases hm : mayB l s k
    · have e : errR l s k tx.length a = 90 := by unfold errR; rw [if_neg (by omega), if_pos hm]
      refine (run11_prog hP (by omega) hm).mono fun e' w' h => ?_
      exact .inr (by rw [e]; exact ⟨by decide, h⟩)
    · by_cases h2 : a < 0
      · have e : errR l s k tx.length a = 1 := by unfold errR; rw [if_neg (by omega), if_neg (by rw [hm]; decide), if_pos (.inl h2)]
        refine (run11_neg hP (by omega) hm h2).mono fun e' w' h => ?_
        exact .inr (by rw [e]; exact ⟨by decide, h⟩)
      · by_cases h3 : (tn : Int) < a
        · have e : errR l s k tx.length a = 1 := by unfold errR; rw [if_neg (by omega), if_neg (by rw [hm]; decide), if_pos (.inr (by omega))]
          refine (run11_far hP (by omega) hm h2 h3).mono fun e' w' h => ?_
          exact .inr (by rw [e]; exact ⟨by decide, h⟩)
        · have e : errR l s k tx.length a = 0 := by unfold errR; rw [if_neg (by omega), if_neg (by rw [hm]; decide), if_neg (by omega)]
          have hmo := may_ok hm
          obtain ⟨S, rfl⟩ := Int.eq_ofNat_of_zero_le hmo.2.1
          obtain ⟨K, rfl⟩ := Int.eq_ofNat_of_zero_le (show 0 ≤ k by omega)
          obtain ⟨A, rfl⟩ := Int.eq_ofNat_of_zero_le (show 0 ≤ a by omega)
          refine (run11_ok hP hm hT (by omega) (by omega)).mono fun e' w' h => ?_
          exact .inl ⟨e, h⟩
end Go.Proofs.Ytiggbgmnibndoaa
/- HELPERS: a row looked for in a text, in plain words. -/
namespace Go.Proofs.Ytiggbgmnibndoaa.Kmp
set_option linter.unusedVariables false
/-- so many of the row's first runes are the last ones of s -/
def Std (lit s : List Int) (j : Nat) : Prop := j ≤ lit.length ∧ lit.take j <:+ s
/-- the most of them -/
def Gr (lit s : List Int) (j : Nat) : Prop := Std lit s j ∧ ∀ i, Std lit s i → i ≤ j
theorem Std.zero (lit s : List Int) : Std lit s 0 := ⟨Nat.zero_le _, by simp⟩
theorem take_snoc (lit : List Int) (c : Nat) (h : c < lit.length) : lit.take (c + 1) = lit.take c ++ [lit.getD c 0] := by
  rw [List.take_add_one, List.getElem?_eq_getElem h]
  simp [List.getD_eq_getElem?_getD, List.getElem?_eq_getElem h]
theorem snoc_suffix {a b : List Int} {x y : Int} : a ++ [x] <:+ b ++ [y] ↔ a <:+ b ∧ x = y := by
  constructor
  · rintro ⟨t, ht⟩
    rw [← List.append_assoc] at ht
    have h := List.append_inj' ht rfl
    exact ⟨⟨t, h.1⟩, by simpa using h.2⟩
  · rintro ⟨⟨t, ht⟩, rfl⟩
    exact ⟨t, by rw [← List.append_assoc, ht]⟩
theorem Std.succ {lit s : List Int} {r : Int} {i : Nat} : Std lit (s ++ [r]) (i + 1) ↔ i < lit.length ∧ Std lit s i ∧ lit.getD i 0 = r := by
  constructor
  · rintro ⟨h, h1⟩
    rw [take_snoc lit i h, snoc_suffix] at h1
    exact ⟨h, ⟨by omega, h1.1⟩, h1.2⟩
  · rintro ⟨h, ⟨_, h1⟩, h2⟩
    refine ⟨h, ?_⟩
    rw [take_snoc lit i h, snoc_suffix]
    exact ⟨h1, h2⟩
theorem suffix_of_le {a b s : List Int} (ha : a <:+ s) (hb : b <:+ s) (h : a.length ≤ b.length) : a <:+ b := List.suffix_of_suffix_length_le ha hb h
theorem suffix_tail {a b : List Int} (ha : a <:+ b) (h : a.length < b.length) : a <:+ b.tail := by
  obtain ⟨t, rfl⟩ := ha
  cases t with
  | nil => simp at h
  | cons x t => exact ⟨t, rfl⟩
/-- how one goes on by one rune: c is the candidate -/
structure Cnd (lit s : List Int) (r : Int) (c : Nat) : Prop where
  std : Std lit s c
  lt : c < lit.length
  most : ∀ i, Std lit (s ++ [r]) (i + 1) → i ≤ c
theorem Cnd.start {lit s : List Int} {r : Int} {c : Nat} (h : Gr lit s c) (hc : c < lit.length) : Cnd lit s r c := ⟨h.1, hc, fun i hi => h.2 i (Std.succ.1 hi).2.1⟩
theorem Cnd.hit {lit s : List Int} {r : Int} {c : Nat} (h : Cnd lit s r c) (hr : lit.getD c 0 = r) : Gr lit (s ++ [r]) (c + 1) := ⟨Std.succ.2 ⟨h.lt, h.std, hr⟩, fun i hi => by
  cases i with
  | zero => omega
  | succ i => have := h.most i hi; omega⟩
theorem Cnd.none {lit s : List Int} {r : Int} (h : Cnd lit s r 0) (hr : lit.getD 0 0 ≠ r) : Gr lit (s ++ [r]) 0 := ⟨Std.zero _ _, fun i hi => by
  cases i with
  | zero => omega
  | succ i =>
    have h1 := h.most i hi
    have : i = 0 := by omega
    subst this
    exact absurd (Std.succ.1 hi).2.2 hr⟩
theorem Cnd.back {lit s : List Int} {r : Int} {c b : Nat} (h : Cnd lit s r c) (h0 : 0 < c) (hr : lit.getD c 0 ≠ r) (hb : Gr lit (lit.take c).tail b) : Cnd lit s r b ∧ b < c := by
  have hlen : (lit.take c).length = c := by have := h.lt; simp; omega
  have hbc : b < c := by
    have h1 := hb.1.2.length_le
    have h2 := hb.1.1
    simp at h1
    have := h.lt
    omega
  refine ⟨⟨⟨hb.1.1, ?_⟩, by have := h.lt; omega, fun i hi => ?_⟩, hbc⟩
  · exact hb.1.2.trans ((List.tail_suffix _).trans h.std.2)
  · have h1 := h.most i hi
    have h2 := Std.succ.1 hi
    have h3 : i ≠ c := fun e => hr (by rw [← e]; exact h2.2.2)
    refine hb.2 i ⟨h2.2.1.1, ?_⟩
    have hil : (lit.take i).length = i := by have := h2.2.1.1; simp; omega
    refine suffix_tail (suffix_of_le h2.2.1.2 h.std.2 (by omega)) (by omega)
theorem gr_nil (lit : List Int) : Gr lit [] 0 := ⟨Std.zero _ _, fun i hi => by
  have h1 := hi.2.length_le
  have h2 := hi.1
  rw [List.length_take, List.length_nil] at h1
  omega⟩
/-- what was written of the row's own beginnings -/
def Brd (lit bs : List Int) (m : Nat) : Prop := bs.length = lit.length ∧ ∀ k, 1 ≤ k → k < m → ∃ b : Nat, bs.getD k 0 = (b : Int) ∧ Gr lit (lit.take k).tail b
theorem tail_take_succ (lit : List Int) (k : Nat) (h1 : 1 ≤ k) (h : k < lit.length) : (lit.take (k + 1)).tail = (lit.take k).tail ++ [lit.getD k 0] := by
  rw [take_snoc lit k h, List.tail_append_of_ne_nil]
  intro e
  have := congrArg List.length e
  rw [List.length_take, List.length_nil] at this
  omega
/-- it stands at a place -/
def Stands (lit T : List Int) (i : Nat) : Prop := i + lit.length ≤ T.length ∧ lit <+: T.drop i
/-- what Next answers -/
def NextIs (lit T : List Int) (at0 r : Int) : Prop :=
  ((at0 < 0 ∨ (T.length : Int) < at0) ∧ r = -1) ∨
  ∃ a : Nat, at0 = a ∧ a ≤ T.length ∧ ((r = -1 ∧ ∀ i, a ≤ i → ¬ Stands lit T i) ∨ ∃ p : Nat, r = p ∧ a ≤ p ∧ Stands lit T p ∧ ∀ i, a ≤ i → i < p → ¬ Stands lit T i)
theorem NextIs.eq {lit T : List Int} {at0 r r' : Int} (h : NextIs lit T at0 r) (h' : NextIs lit T at0 r') : r = r' := by
  rcases h with ⟨h1, h2⟩ | ⟨a, e, ha, h⟩
  · rcases h' with ⟨h1', h2'⟩ | ⟨a, e, ha, h⟩
    · rw [h2, h2']
    · exfalso; clear h; omega
  · rcases h' with ⟨h1', h2'⟩ | ⟨a', e', ha', h'⟩
    · exfalso; clear h; omega
    · have : a' = a := by clear h h'; omega
      subst this
      rcases h with ⟨h1, h2⟩ | ⟨p, h1, h2, h3, h4⟩
      · rcases h' with ⟨h1', _⟩ | ⟨p', h1', h2', h3', h4'⟩
        · omega
        · exact absurd h3' (h2 p' h2')
      · rcases h' with ⟨h1', h5⟩ | ⟨p', h1', h2', h3', h4'⟩
        · exact absurd h3 (h5 p h2)
        · rcases Nat.lt_trichotomy p p' with h | h | h
          · exact absurd h3 (h4' p h2 h)
          · omega
          · exact absurd h3' (h4 p' h2' h)
theorem take_take_drop (T : List Int) (a q i : Nat) (h1 : a ≤ i) (h2 : i ≤ q) : ((T.take q).drop i) <:+ (T.take q).drop a := by
  have : (T.take q).drop i = ((T.take q).drop a).drop (i - a) := by rw [List.drop_drop]; congr 1; omega
  rw [this]
  exact List.drop_suffix _ _
theorem stands_std {lit T : List Int} {a q i : Nat} (hs : Stands lit T i) (h1 : a ≤ i) (h2 : i ≤ q) (h3 : q - i ≤ lit.length) (hq : q ≤ T.length) : Std lit ((T.take q).drop a) (q - i) := by
  refine ⟨h3, ?_⟩
  have e : lit.take (q - i) = (T.take q).drop i := by
    obtain ⟨t, ht⟩ := hs.2
    rw [List.drop_take, ← ht, List.take_append_of_le_length h3]
  rw [e]
  exact take_take_drop T a q i h1 h2
/-- while Next goes on: at q, st of the row stand up to it -/
structure Ahd (lit T : List Int) (a q st : Nat) : Prop where
  aq : a ≤ q
  qT : q ≤ T.length
  gr : Gr lit ((T.take q).drop a) st
  no : ∀ i, a ≤ i → i + lit.length < q → ¬ Stands lit T i
theorem Ahd.start (lit T : List Int) (a : Nat) (ha : a ≤ T.length) : Ahd lit T a a 0 := ⟨by omega, ha, by
  have : (T.take a).drop a = [] := by simp
  rw [this]
  exact gr_nil lit, fun i h1 h2 => by omega⟩
theorem Ahd.found {lit T : List Int} {a q : Nat} (h : Ahd lit T a q lit.length) : NextIs lit T a ((q : Int) - lit.length) := by
  have h1 := h.gr.1
  have hl := h1.2.length_le
  have haq := h.aq
  have hqT := h.qT
  simp at hl
  have hq : lit.length ≤ q - a := by omega
  right
  refine ⟨a, rfl, by omega, .inr ⟨q - lit.length, by omega, by omega, ⟨by omega, ?_⟩, fun i hi hi2 hs => h.no i hi (by omega) hs⟩⟩
  have h2 := h1.2
  rw [List.take_length] at h2
  have e : lit = (T.take q).drop (q - lit.length) := by
    have h3 : lit <:+ T.take q := h2.trans (List.drop_suffix _ _)
    have h4 := List.suffix_iff_eq_drop.1 h3
    rw [List.length_take, Nat.min_eq_left hqT] at h4
    exact h4
  rw [List.drop_take] at e
  rw [show q - (q - lit.length) = lit.length by omega] at e
  refine ⟨(T.drop (q - lit.length)).drop lit.length, ?_⟩
  conv => lhs; arg 1; rw [e]
  exact List.take_append_drop _ _
theorem Ahd.over {lit T : List Int} {a q st : Nat} (h : Ahd lit T a q st) (hst : st < lit.length) (hlt : T.length - q < lit.length - st) : NextIs lit T a (-1) := by
  right
  refine ⟨a, rfl, by have := h.aq; have := h.qT; omega, .inl ⟨rfl, fun i hi hs => ?_⟩⟩
  by_cases h1 : i + lit.length < q
  · exact h.no i hi h1 hs
  · have h2 := hs.1
    have hqT := h.qT
    by_cases h3 : i ≤ q
    · have h4 := h.gr.2 _ (stands_std hs hi h3 (by omega) h.qT)
      omega
    · omega
theorem Ahd.next {lit T : List Int} {a q st st' : Nat} (h : Ahd lit T a q st) (hst : st < lit.length) (hq : q < T.length) (hg : Gr lit ((T.take q).drop a ++ [T.getD q 0]) st') : Ahd lit T a (q + 1) st' := by
  refine ⟨by have := h.aq; omega, by omega, ?_, fun i hi h1 hs => ?_⟩
  · have : (T.take (q + 1)).drop a = (T.take q).drop a ++ [T.getD q 0] := by
      rw [take_snoc T q hq, List.drop_append_of_le_length]
      have := h.aq
      simp
      omega
    rw [this]
    exact hg
  · by_cases h2 : i + lit.length < q
    · exact h.no i hi h2 hs
    · have e : i + lit.length = q := by omega
      have h4 := h.gr.2 _ (stands_std hs hi (by omega) (by omega) h.qT)
      omega
end Go.Proofs.Ytiggbgmnibndoaa.Kmp
/- HELPERS: a Finder in memory; further. -/
namespace Go.Proofs.Ytiggbgmnibndoaa
open Go.RowKit Kmp
set_option linter.unusedVariables false
set_option linter.unusedSimpArgs false
/-- a Finder's block -/
def FB (w : World) (f g h n : Nat) : Prop := w.heap[f]? = some (.cells #[.slice (some ⟨g, 0, none⟩) n n, .slice (some ⟨h, 0, none⟩) n n] 65 (0, 0))
theorem FB.c {w : World} {f g h n : Nat} (H : FB w f g h n) : w.cell? ⟨f, 0, none⟩ = some (.slice (some ⟨g, 0, none⟩) n n) ∧ w.cell? ⟨f, 1, none⟩ = some (.slice (some ⟨h, 0, none⟩) n n) := ⟨Joins.cell_of_block H 0, Joins.cell_of_block H 1⟩
theorem FB.lt {w : World} {f g h n : Nat} (H : FB w f g h n) : f < w.heap.size := (Array.getElem?_eq_some_iff.1 H).1
/-- a row of numbers in a block, that can be read -/
def NR (w : World) (g : Nat) (l : List Int) : Prop := ∀ k, k < l.length → w.cell? ⟨g, k, none⟩ = some (.int .i64 (l.getD k 0))
set_option maxRecDepth 100000 in
set_option maxHeartbeats 4000000 in
theorem further30 {w : World} {f g h n m st : Nat} {lit bs s : List Int} {r : Int} (hF : FB w f g h n) (hn : n = lit.length) (hl : NR w g lit) (hb : NR w h bs) (hB : Brd lit bs m) (hst : st < n) (hsm : st < m ∨ st = 0) (hmn : m ≤ n) (hG : Gr lit s st) (h4 : n ≤ 4194304) :
    Calls Try.prog 30 #[.pointer (some ⟨f, 0, none⟩), .int .i64 (st : Int), .int .i64 r] w fun e w' => ∃ st' : Nat, e = .returned (.int .i64 (st' : Int)) ∧ Gr lit (s ++ [r]) st' ∧ w' = w := by
  obtain ⟨c0, c1⟩ := hF.c
  have HC0 := hid (Cnd.start (r := r) hG (by omega))
  have HL := hid hl
  have HB := hid hb
  have HN := hid hn
  have HBR := hid hB
  clear hF hl hb hn hG hB
  go_enter Try.func30, Try.ntmps30
  go_wp2_with fail
  go_loopw [1] (fun i wr => ∃ c : Nat, i = .int .i64 (c : Int) ∧ wr = w ∧ c < n ∧ (c < m ∨ c = 0) ∧ Hid (Cnd lit s r c)) (fun i _ => (intOf i).toNat)
  case atStart => exact ⟨st, rfl, rfl, hst, hsm, HC0.out⟩
  case round =>
    obtain ⟨c, rfl, rfl, hcn, hcm, HC⟩ := hrel
    have d := HL.out c (by have := HN.out; omega)
    obtain ⟨x, hx⟩ : ∃ x, x = lit.getD c 0 := ⟨_, rfl⟩
    rw [← hx] at d
    have HX := hid hx
    clear hx
    have q1 : (c : Int) < (n : Int) := by omega
    have ad1 : IntKind.i64.wrap ((c : Int) + 1) = (c : Int) + 1 := by simp [IntKind.wrap, IntKind.bits, IntKind.signed]; omega
    by_cases hxr : x = r
    · have hE : Hid (Gr lit (s ++ [r]) (c + 1)) := HC.out.hit (by rw [← HX.out]; exact hxr)
      clear HC HX
      subst hxr
      by_cases h0 : c = 0
      · subst h0
        go_wp2
        go_ret
        exact ⟨1, rfl, hE.out, rfl⟩
      · have q2 : (0 : Int) < (c : Int) := by omega
        have q3 : decide ((0 : Int) < (c : Int)) = true := by simp; omega
        go_wp2
        go_ret
        exact ⟨c + 1, by go_num, hE.out, rfl⟩
    · have x1 : (x == r) = false := by simp [hxr]
      have x2 : (x != r) = true := by simp [hxr]
      by_cases h0 : c = 0
      · subst h0
        have hE : Hid (Gr lit (s ++ [r]) 0) := HC.out.none (by rw [← HX.out]; exact hxr)
        clear HC HX
        go_wp2
        go_ret
        exact ⟨0, rfl, hE.out, rfl⟩
      · have q2 : (0 : Int) < (c : Int) := by omega
        have q3 : decide ((0 : Int) < (c : Int)) = true := by simp; omega
        obtain ⟨b, hb1, hb2⟩ := HBR.out.2 c (by omega) (by omega)
        have hE := HC.out.back (by omega) (by rw [← HX.out]; exact hxr) hb2
        have d2 := HB.out c (by rw [HBR.out.1, ← HN.out]; exact hcn)
        rw [hb1] at d2
        have HE : Hid (Cnd lit s r b) := hE.1
        have hbc : b < c := hE.2
        clear HC HX hE hb1 hb2
        go_wp2
        exact ⟨⟨b, rfl, trivial, by omega, by omega, HE.out⟩, by simp [intOf]; omega⟩
end Go.Proofs.Ytiggbgmnibndoaa
/- HELPERS: a Finder's borders measured. -/
namespace Go.Proofs.Ytiggbgmnibndoaa
open Go.RowKit Kmp
set_option linter.unusedVariables false
set_option linter.unusedSimpArgs false
theorem NR.kept {w w' : World} {g : Nat} {l : List Int} (h : NR w g l) (hk : w'.heap[g]? = w.heap[g]?) : NR w' g l := fun k hl => (cell_eq hk k).trans (h k hl)
theorem NR.of {w : World} {B g n c : Nat} {l : List Int} (h : w.ownsRow B 3 1 (.slice (some ⟨g, 0, none⟩) n c) n (I64 l)) : NR w g l := fun k hk => by
  have hn : l.length = n := by have := h.1; simpa [I64] using this
  rw [h.cellAt k (by omega)]
  simp [I64, List.getD_eq_getElem?_getD, List.getElem?_eq_getElem hk]
theorem FB.trans' {w w' : World} {f g h n : Nat} (H : FB w f g h n) (e : Eqw w w') : FB w' f g h n := (e.blk f).trans H
theorem step_call3 {P : Program} {ops : Array Oper} {o : Oper} {a : Act} {w : World} {K : Act → World → Prop} {Q : Exit → Act → World → Prop} {E : Prop} (hg : o.guard = none) (f : FuncId) (x y z : Operand) (t u v : TypeId)
    (hop : o.op = Op.call { callee := Callee.value (.func f), args := #[x, y, z], argTypes := #[t, u, v] }) (hen : ∀ args w, (callFunc f args).run P w = .ok (.enter f args) w)
    (hc : Calls P f #[a.eval x, a.eval y, a.eval z] w fun e w' => ∃ v, e = .returned v ∧ K (a.put o.dst v) w') :
    if Region.wanted o (yielded ops a.tmps) = true then Oper.wp P o a w K Q else E := by
  have hw : Region.wanted o (yielded ops a.tmps) = true := by simp [Region.wanted, hg]
  rw [if_pos hw]
  have h2 := hen #[a.eval x, a.eval y, a.eval z] w
  unfold Oper.wp
  have ev : a.eval (.func f) = .func (.func f) #[] #[] := rfl
  simp [execOp, hop, resolve, invoke, ev, Deferred.ofValue, h2, Result.andThen]
  show Calls P f #[a.eval x, a.eval y, a.eval z] w _
  refine hc.mono fun e w' h => ?_
  obtain ⟨v, rfl, hk⟩ := h
  exact hk
theorem enter_of {P : Program} {f : FuncId} {fn : Func} {c : Code} (hf : P.funcs[f]? = some fn) (hname : (fn.name == "runtime.NumGoroutine") = false) (hb : fn.body = some c) : ∀ (args : Array Value) (w : World), (callFunc f args).run P w = .ok (.enter f args) w := by
  intro args w
  have h1 : fn.name ≠ "runtime.NumGoroutine" := by simpa using hname
  simp [callFunc, hf, h1, hb]
theorem en30 : ∀ (args : Array Value) (w : World), (callFunc 30 args).run Try.prog w = .ok (.enter 30 args) w := enter_of Try.func30 (by kernel_rfl) rfl
theorem brd_first (lit : List Int) (n : Nat) (hn : n = lit.length) : Brd lit (List.replicate n 0) 2 := ⟨by simp [hn], fun k h1 h2 => ⟨0, by
  have : k = 1 := by omega
  subst this
  rw [List.getD_eq_getElem?_getD, List.getElem?_replicate]
  split <;> rfl, by
  have : k = 1 := by omega
  subst this
  have e : (lit.take 1).tail = [] := by cases lit <;> simp
  rw [e]
  exact gr_nil lit⟩⟩
theorem brd_next {lit bs : List Int} {k st : Nat} (h : Brd lit bs k) (h1 : 2 ≤ k) (hk : k < lit.length) (hg : Gr lit (lit.take k).tail st) : Brd lit (bs.set k (st : Int)) (k + 1) := ⟨by rw [List.length_set]; exact h.1, fun j hj hj2 => by
  by_cases e : j = k
  · subst e
    refine ⟨st, ?_, hg⟩
    rw [List.getD_eq_getElem?_getD, List.getElem?_set_self (by rw [h.1]; exact hk)]
    rfl
  · obtain ⟨b, hb, hb2⟩ := h.2 j hj (by omega)
    refine ⟨b, ?_, hb2⟩
    rw [List.getD_eq_getElem?_getD, List.getElem?_set_ne (by omega), ← List.getD_eq_getElem?_getD]
    exact hb⟩
theorem Gr.short {lit : List Int} {k b : Nat} (h : Gr lit (lit.take k).tail b) (hk : 1 ≤ k) : b < k := by
  have h1 := h.1.2.length_le
  have h2 := h.1.1
  rw [List.length_take, List.length_tail, List.length_take] at h1
  omega
theorem map_set64 (l : List Int) (k : Nat) (x : Int) : (I64 l).set k (.int .i64 x) = I64 (l.set k x) := by simp [I64, List.map_set]
set_option maxRecDepth 100000 in
set_option maxHeartbeats 4000000 in
theorem measure29 {w : World} {f g h n B : Nat} {lit : List Int} (hF : FB w f g h n) (hn : n = lit.length) (hl : NR w g lit) (ho : w.ownsRow B 3 1 (.slice (some ⟨h, 0, none⟩) n n) n (I64 (List.replicate n 0))) (hgh : g ≠ h) (hgl : g < w.heap.size) (h4 : n ≤ 4194304) :
    Calls Try.prog 29 #[.pointer (some ⟨f, 0, none⟩)] w fun e w' => e = .returned (.tuple #[]) ∧ (∃ bs, Brd lit bs n ∧ w'.ownsRow B 3 1 (.slice (some ⟨h, 0, none⟩) n n) n (I64 bs)) ∧ Chg w w' [h] [h] := by
  have hfh : f ≠ h := fun e => own_ne ho hF (by decide) (by rw [e]; rfl)
  have HF := hid hF
  have HL := hid hl
  have HO := hid ho
  have HN := hid hn
  clear hF hl ho hn
  go_enter Try.func29, Try.ntmps29
  go_wp2_with fail
  go_loopw [2] (fun i wr => ∃ (k : Nat) (bs : List Int), i = .int .i64 (k : Int) ∧ 2 ≤ k ∧ (k ≤ n ∨ k = 2) ∧ Hid (Brd lit bs k) ∧ Hid (wr.ownsRow B 3 1 (.slice (some ⟨h, 0, none⟩) n n) n (I64 bs)) ∧ Hid (Chg w wr [h] [h])) (fun i _ => n - (intOf i).toNat)
  case atStart => exact ⟨2, List.replicate n 0, rfl, by omega, .inr rfl, brd_first lit n HN.out, HO.out, Chg.refl _ _⟩
  case round =>
    obtain ⟨k, bs, rfl, hk2, hkn, HB, HR, HC⟩ := hrel
    have hF' : FB wr f g h n := (HC.out.block f HF.out.lt (by simp; exact hfh)).trans HF.out
    have hL' : NR wr g lit := HL.out.kept (HC.out.block g hgl (by simp; exact hgh))
    obtain ⟨c0, c1⟩ := hF'.c
    by_cases hlt : k < n
    · obtain ⟨j, rfl⟩ : ∃ j, k = j + 1 := ⟨k - 1, by omega⟩
      obtain ⟨b, hb1, hb2⟩ := HB.out.2 j (by omega) (by omega)
      have hbj := Gr.short hb2 (by omega)
      have d1 : wr.cell? ⟨h, j, none⟩ = some (.int .i64 (b : Int)) := by
        have := NR.of HR.out j (by rw [HB.out.1, ← HN.out]; omega)
        rw [hb1] at this
        exact this
      have d2 := hL' j (by rw [← HN.out]; omega)
      obtain ⟨x, hx⟩ : ∃ x, x = lit.getD j 0 := ⟨_, rfl⟩
      rw [← hx] at d2
      have HX : Hid (∀ st', Gr lit ((lit.take j).tail ++ [x]) st' → Gr lit (lit.take (j + 1)).tail st') := fun st' h => by
        rw [tail_take_succ lit j (by omega) (by rw [← HN.out]; omega), ← hx]
        exact h
      have HFUR : Hid (∀ W, Eqw wr W → Calls Try.prog 30 #[.pointer (some ⟨f, 0, none⟩), .int .i64 (b : Int), .int .i64 x] W fun e w' => ∃ st' : Nat, e = .returned (.int .i64 (st' : Int)) ∧ Gr lit ((lit.take j).tail ++ [x]) st' ∧ w' = W) := fun W hW =>
        further30 (m := j + 1) (hF'.trans' hW) HN.out (hL'.kept (by rw [hW.heap])) ((NR.of HR.out).kept (by rw [hW.heap])) HB.out (by omega) (by omega) (by omega) hb2 h4
      have fz := HR.out.frozenAt (j + 1)
      have d3 : ∃ z, wr.cell? ⟨h, j + 1, none⟩ = some z := ⟨_, (NR.of HR.out (j + 1) (by rw [HB.out.1, ← HN.out]; omega))⟩
      obtain ⟨z, d3⟩ := d3
      have q1 : ((j : Int) + 1) < (n : Int) := by omega
      have q2 : decide (((j : Int) + 1) < (n : Int)) = true := by simp; omega
      have q3 : (j : Int) < (n : Int) := by omega
      have ad1 : IntKind.i64.wrap ((j : Int) + 1 + 1) = (j : Int) + 1 + 1 := by simp [IntKind.wrap, IntKind.bits, IntKind.signed]; omega
      have ad2 : IntKind.i64.wrap (j : Int) = (j : Int) := by simp [IntKind.wrap, IntKind.bits, IntKind.signed]; omega
      have ad3 : IntKind.i64.wrap ((j : Int) + 1) = (j : Int) + 1 := by simp [IntKind.wrap, IntKind.bits, IntKind.signed]; omega
      clear hb1 hb2 hx hL' hF'
      go_upto_region 3 with fail
      refine wp_region_lex 22 24 (fun W => W.cell? ⟨f, 0, none⟩ = some (.slice (some ⟨g, 0, none⟩) n n) ∧ W.cell? ⟨f, 1, none⟩ = some (.slice (some ⟨h, 0, none⟩) n n) ∧ W.cell? ⟨h, j, none⟩ = some (.int .i64 (b : Int)) ∧ W.cell? ⟨g, j, none⟩ = some (.int .i64 x)) (by kernel_rfl) (by kernel_rfl) (by decide) (by kernel_rfl) (by kernel_rfl) ⟨c0, c1, d1, d2⟩ ?_
      simp only [List.take_succ_cons, List.take_zero, List.drop_succ_cons, List.drop_zero]
      iterate 22
        refine lex_cons ?_ rfl (fun W hW => ?_) (fun _ _ _ h => h) ?_
        rotate_left
        · obtain ⟨s0, s1, s2, s3⟩ := hW
          go_simp <;> with_reducible rfl
        simp only [Act.put, List.setIfInBounds_toArray, List.set_cons_zero, List.set_cons_succ]
      refine lex_nil (tail_cons fun K hK => ?_)
      refine step_call3 rfl 30 (.tmp 17) (.tmp 25) (.tmp 33) 40 3 3 rfl en30 ?_
      refine (HFUR.out wr.drew ⟨rfl, rfl, rfl, rfl⟩).mono ?_
      rintro e w2 ⟨st', rfl, hg, hw⟩
      have hw' := hw.symm
      clear hw
      subst hw'
      have HG := hid (HX.out st' hg)
      clear hg
      refine ⟨_, rfl, hK.out _ _ (fun _ => ⟨c0, c1, d1, d2⟩) (tail_cons fun K hK => ?_)⟩
      simp only [Act.put, List.setIfInBounds_toArray, List.set_cons_zero, List.set_cons_succ]
      go_simp
      refine hK.out _ _ (fun _ => ⟨c0, c1, d1, d2⟩) (tail_cons fun K hK => ?_)
      simp only [Act.put, List.setIfInBounds_toArray, List.set_cons_zero, List.set_cons_succ]
      go_simp
      refine hK.out _ _ (fun h => absurd rfl h) (tail_nil ?_)
      try simp only [Act.put, List.setIfInBounds_toArray, List.set_cons_zero, List.set_cons_succ]
      have hrow := row_setC (j := j + 1) (v := .int .i64 (st' : Int)) (Eqw.row (Eqw.drew wr) HR.out)
      rw [map_set64] at hrow
      have HRW := hid hrow
      have HCH : Hid (Chg w (wr.drew.setCell ⟨h, j + 1, none⟩ (.int .i64 (st' : Int))) [h] [h]) := HC.out.drew.set _ (by simp)
      have HBN := hid (brd_next HB.out hk2 (by rw [← HN.out]; exact hlt) HG.out)
      clear hrow
      go_wp2
      exact ⟨⟨j + 1 + 1, bs.set (j + 1) st', by push_cast; rfl, by omega, by omega, HBN.out, HRW.out, HCH.out⟩, by simp [intOf]; omega⟩
    · have q2 : decide ((k : Int) < (n : Int)) = false := by simp; omega
      have q1 : ¬ (k : Int) < (n : Int) := by omega
      go_wp2_with fail
      go_end0
      refine ⟨rfl, ⟨bs, ⟨HB.out.1, fun j h1 h2 => HB.out.2 j h1 (by omega)⟩, HR.out⟩, HC.out⟩
end Go.Proofs.Ytiggbgmnibndoaa
/- HELPERS: rows of numbers made and copied; New. -/
namespace Go.Proofs.Ytiggbgmnibndoaa
open Go.RowKit Kmp
set_option linter.unusedVariables false
set_option linter.unusedSimpArgs false
theorem make29 (c : Nat) (hc : c * 8 ≤ 140737488355325) (w : World) : (Instr.makeSlice 29 (.int .i64 (c : Int)) (.int .i64 (c : Int))).run Try.prog w = .ok (.slice (some ⟨w.heap.size, 0, none⟩) c c) (w.alloc (.cells (madeCells #[.int .i64 0] c) 3)) := by
  obtain ⟨i0, hi0, hz0, hz1, hz2⟩ := info_parts info3
  have h := run_make (P := Try.prog) w 29 3 i0 (.int .i64 0) Try.underlying29 hi0 hz0 .i64 .i64 c c (by omega) (by omega) (by rw [hz2]; omega) (by omega)
  simp only [Int.toNat_natCast, hz1, Nat.mul_one] at h
  exact h
theorem made29 (c N : Nat) (w : World) (hN : N ≤ w.heap.size) (hc : c ≤ 35184372088832) : (w.alloc (.cells (madeCells #[.int .i64 0] c) 3)).ownsRow N 3 1 (.slice (some ⟨w.heap.size, 0, none⟩) c c) c (I64 (List.replicate c 0)) := by
  have h := World.ownsRow_lit (base := N) (e := 3) (size := 1) w (madeCells #[.int .i64 0] c) c hN (by unfold maxLen; omega) (by rw [size_madeCells]; omega)
  rw [toList_madeCells_one] at h
  simpa [I64] using h
theorem copy_none (w : World) (dT sT ty elem : TypeId) (d a : Option Addr) (dLen dCap sLen sCap : Nat) (hu : Try.prog.underlying dT = some (.slice elem)) (hs : (Try.prog.info? elem).map (·.size) = some 1) (hn : Nat.min sLen dLen = 0) :
    (Builtin.copy_ #[dT, sT] ty #[.slice d dLen dCap, .slice a sLen sCap]).run Try.prog w = .ok (goInt 0) w := by
  cases hq : Try.prog.info? elem with
  | none => simp [hq] at hs
  | some i =>
    have hl : ∀ (x : Addr), (loadCells x 0).run Try.prog w = .ok #[] w := fun x => by simpa using run_loadCells_list (P := Try.prog) w x [] (by simp)
    cases d <;> cases a <;> simp [Builtin.copy_, run_underlying hu, Builtin.lenOf, Builtin.firstCells, sizeOf, typeInfo, hq, hn, storeCells, hl]
theorem copy29 {W : World} {N tb tn tc z : Nat} {tad : Option Addr} {tx : List Int} (hT : TextAt W.heap.size W tad tn tx) (ho : W.ownsRow N 3 1 (.slice (some ⟨tb, 0, none⟩) (tn + z) (tn + z)) (tn + z) (I64 (List.replicate (tn + z) 0))) :
    ∃ W2, (Builtin.copy_ #[29, 29] 3 #[.slice (some ⟨tb, 0, none⟩) (tn + z) (tn + z), .slice tad tn tc]).run Try.prog W = .ok (.int .i64 (tn : Int)) W2 ∧ W2.ownsRow N 3 1 (.slice (some ⟨tb, 0, none⟩) (tn + z) (tn + z)) (tn + z) (I64 (tx ++ List.replicate z 0)) ∧ Chg W W2 [tb] [tb] := by
  obtain ⟨h1, h2, h0 | ⟨b, o, rfl, hb, hc⟩⟩ := hT
  · have htx : tx = [] := List.length_eq_zero_iff.1 (by omega)
    subst htx
    subst h0
    refine ⟨W, ?_, by simpa using ho, Chg.refl _ _⟩
    have := copy_none W 29 29 3 3 (some ⟨tb, 0, none⟩) tad (0 + z) (0 + z) 0 tc Try.underlying29 size3 (by simp)
    simpa [goInt] using this
  · have hl : (I64 tx).length = tn := by simp [I64]; omega
    have h := run_copy_cells (P := Try.prog) W 29 29 3 3 tb 0 (tn + z) (tn + z) ⟨b, o, none⟩ tn tc (I64 tx) Try.underlying29 size3 (by rw [hl]; simp) (fun j v hj => by
      have hjl := (List.getElem?_eq_some_iff.1 hj).1
      rw [Addr.add_mid, hc j (by omega), ← hj]
      simp [I64, List.getD_eq_getElem?_getD, show j < tx.length by omega]) (fun j hj => by
      rw [Nat.zero_add, ho.cellAt j (by omega), List.getElem?_eq_getElem (by simp [I64]; omega)]; rfl) (fun j hj => by rw [Nat.zero_add]; exact ho.frozenAt j) (one_cell_ints tx)
    rw [hl] at h
    refine ⟨W.setCells tb 0 (I64 tx), by simpa [goInt] using h, ?_, ?_⟩
    · have h3 := row_setCells (I64 tx) 0 W _ ho (by rw [hl]; simp [I64])
      rw [Nat.zero_add, List.take_zero, List.nil_append, hl] at h3
      have e : I64 tx ++ (I64 (List.replicate (tn + z) 0)).drop tn = I64 (tx ++ List.replicate z 0) := by
        simp only [I64, List.map_append, List.map_replicate]
        rw [List.drop_replicate, show tn + z - tn = z by omega]
      rw [e] at h3
      exact h3
    · exact setCells_chg (w' := W) tb (by simp) (I64 tx) 0 W (Chg.refl _ _)
/-- a Finder that is ready -/
structure FN (w : World) (B f : Nat) (lit : List Int) : Prop where
  ex : ∃ g h bs, FB w f g h lit.length ∧ w.ownsRow B 3 1 (.slice (some ⟨g, 0, none⟩) lit.length lit.length) lit.length (I64 lit) ∧ w.ownsRow B 3 1 (.slice (some ⟨h, 0, none⟩) lit.length lit.length) lit.length (I64 bs) ∧ Brd lit bs lit.length
  small : lit.length ≤ 4194304
  low : B ≤ f
theorem new19_long {w : World} {ad : Option Addr} {n c : Nat} (h : 4194304 < n) : Calls Try.prog 19 #[.slice ad n c] w fun e w' => e = .returned (.tuple #[.pointer none, .int .i64 2]) ∧ w' = w := by
  have q1 : decide ((4194304 : Int) < (n : Int)) = true := by simp; omega
  go_enter Try.func19, Try.ntmps19
  go_wp2
  go_ret2
  exact ⟨rfl, rfl⟩
abbrev A29 (n : Nat) : Obj := .cells (madeCells #[.int .i64 0] n) 3
theorem three_made (w : World) (n : Nat) (hn : n ≤ 4194304) (cs : Array Value) : (((w.alloc (A29 n)).alloc (A29 n)).alloc (.cells cs 65)).heap[w.heap.size + 1 + 1]? = some (.cells cs 65 (0, 0)) ∧ (((w.alloc (A29 n)).alloc (A29 n)).alloc (.cells cs 65)).ownsRow w.heap.size 3 1 (.slice (some ⟨w.heap.size, 0, none⟩) n n) n (I64 (List.replicate n 0)) ∧ (((w.alloc (A29 n)).alloc (A29 n)).alloc (.cells cs 65)).ownsRow w.heap.size 3 1 (.slice (some ⟨w.heap.size + 1, 0, none⟩) n n) n (I64 (List.replicate n 0)) ∧ Below w.heap.size w (((w.alloc (A29 n)).alloc (A29 n)).alloc (.cells cs 65)) := by
  refine ⟨?_, ?_, ?_, ?_⟩
  · have := heap_alloc_new ((w.alloc (A29 n)).alloc (A29 n)) (.cells cs 65)
    simpa using this
  · exact ((made29 n w.heap.size w (Nat.le_refl _) (by omega)).alloc _).alloc _
  · have h := made29 n w.heap.size (w.alloc (A29 n)) (by simp) (by omega)
    rw [show (w.alloc (A29 n)).heap.size = w.heap.size + 1 by simp] at h
    exact h.alloc _
  · exact (Joins.below_alloc1 w _).trans ((Joins.below_le (Joins.below_alloc1 _ _) (by simp)).trans (Joins.below_le (Joins.below_alloc1 _ _) (by simp; omega)))
set_option maxRecDepth 100000 in
set_option maxHeartbeats 4000000 in
theorem new19_ok {w : World} {ad : Option Addr} {n c : Nat} {lit : List Int} (hT : TextAt w.heap.size w ad n lit) (h : n ≤ 4194304) : Calls Try.prog 19 #[.slice ad n c] w fun e w' => ∃ f, e = .returned (.tuple #[.pointer (some ⟨f, 0, none⟩), .int .i64 0]) ∧ FN w' w.heap.size f lit ∧ Below w.heap.size w w' := by
  have q1 : decide ((4194304 : Int) < (n : Int)) = false := by simp; omega
  have q2 : ¬ (4194304 : Int) < (n : Int) := by omega
  have HMK := fun W => make29 n (by omega) W
  have HT := hid hT
  clear hT
  go_enter Try.func19, Try.ntmps19
  go_upto_region 3 with fail
  go_cut [4] from 8 to 15 (fun v4 wx => ∃ f g h, v4 = .pointer (some ⟨f, 0, none⟩) ∧ Hid (FB wx f g h n) ∧ Hid (wx.ownsRow w.heap.size 3 1 (.slice (some ⟨g, 0, none⟩) n n) n (I64 (List.replicate n 0))) ∧ Hid (wx.ownsRow w.heap.size 3 1 (.slice (some ⟨h, 0, none⟩) n n) n (I64 (List.replicate n 0))) ∧ g ≠ h ∧ w.heap.size ≤ f ∧ Hid (Below w.heap.size w wx))
  case first =>
    go_region
    all_goals go_wp2_with fail
    all_goals go_meet
    · skip
      obtain ⟨t1, t2, t3, t4⟩ := three_made w n h #[.slice (some ⟨w.heap.size, 0, none⟩) n n, .slice (some ⟨w.heap.size + 1, 0, none⟩) n n]
      exact ⟨w.heap.size + 1 + 1, w.heap.size, w.heap.size + 1, rfl, t1, t2, t3, by omega, by omega, t4.trans ((Eqw.drew _).below _)⟩
    · skip
      obtain ⟨t1, t2, t3, t4⟩ := three_made w n h #[.slice (some ⟨w.heap.size + 1, 0, none⟩) n n, .slice (some ⟨w.heap.size, 0, none⟩) n n]
      exact ⟨w.heap.size + 1 + 1, w.heap.size + 1, w.heap.size, rfl, t1, t3, t2, by omega, by omega, t4.trans ((Eqw.drew _).below _)⟩
  case rest =>
    obtain ⟨f, g, h', rfl, HF, HG, HH, hgh, hf, HB⟩ := hcut
    obtain ⟨c0, c1⟩ := HF.out.c
    have hgl := (HG.out.lt g rfl)
    have hhl := (HH.out.lt h' rfl)
    obtain ⟨W2, hcp, hrow, hch⟩ := copy29 (tc := c) (z := 0) ((HT.out.below HB.out).mono HB.out.size) (by simpa using HG.out)
    simp only [Nat.add_zero, List.replicate_zero, List.append_nil] at hcp hrow
    have hfg : f ≠ g := fun e => own_ne HG.out HF.out (by decide) (by rw [e]; rfl)
    have hfh : f ≠ h' := fun e => own_ne HH.out HF.out (by decide) (by rw [e]; rfl)
    have hF2 : FB W2 f g h' n := (hch.block f HF.out.lt (by simp; exact hfg)).trans HF.out
    have hH2 := hch.row HH.out (fun k hk => by simp [Value.ownBlock] at hk; subst hk; simp; exact fun e => hgh e.symm)
    have HM := hid (measure29 hF2 HT.out.1 (NR.of hrow) hH2 hgh (by have := hch.size; omega) h)
    have HROW := hid hrow
    have HF2 := hid hF2
    have HBW := hid (HB.out.trans (hch.below HB.out.size (by simp; exact hgl.1)))
    clear hch hrow hF2 hH2 c1 HMK
    go_upto_region 5 with fail
    go_wp2_with (go_at_call 29; (with_reducible refine HM.out.mono ?_); rintro e w3 ⟨rfl, ⟨bs, hb1, hb2⟩, hc3⟩; have HB1 := hid hb1; have HB2 := hid hb2; have HC3 := hid hc3; clear hb1 hb2 hc3)
    go_ret2
    have hl := HT.out.1
    subst hl
    refine ⟨f, rfl, ⟨⟨g, h', bs, (HC3.out.block f HF2.out.lt (by simp; exact hfh)).trans HF2.out, HC3.out.row HROW.out (fun k hk => by simp [Value.ownBlock] at hk; subst hk; simp; exact hgh), HB2.out, HB1.out⟩, h, hf⟩, ?_⟩
    exact HBW.out.trans (HC3.out.below HBW.out.size (by simp; exact hhl.1))
/-- New of any row -/
theorem new19 {w : World} {ad : Option Addr} {n c : Nat} {lit : List Int} (hT : TextAt w.heap.size w ad n lit) : Calls Try.prog 19 #[.slice ad n c] w fun e w' => Below w.heap.size w w' ∧ ((4194304 < n ∧ e = .returned (.tuple #[.pointer none, .int .i64 2])) ∨ (n ≤ 4194304 ∧ ∃ f, e = .returned (.tuple #[.pointer (some ⟨f, 0, none⟩), .int .i64 0]) ∧ FN w' w.heap.size f lit)) := by
  by_cases h : n ≤ 4194304
  · exact (new19_ok hT h).mono fun e w' ⟨f, h1, h2, h3⟩ => ⟨h3, .inr ⟨h, f, h1, h2⟩⟩
  · refine (new19_long (by omega)).mono fun e w' ⟨h1, h2⟩ => ⟨?_, .inl ⟨by omega, h1⟩⟩
    rw [h2]
    exact Below.refl _ _
theorem FN.kept {w w' : World} {B f : Nat} {lit : List Int} (h : FN w B f lit) (hb : Below w.heap.size w w') : FN w' B f lit := by
  obtain ⟨⟨g, h', bs, h1, h2, h3, h4⟩, h5, h6⟩ := h
  exact ⟨⟨g, h', bs, (hb.block f h1.lt).trans h1, row_kept h2 (fun b hb' => hb.block b (h2.lt b hb').2), row_kept h3 (fun b hb' => hb.block b (h3.lt b hb').2), h4⟩, h5, h6⟩
end Go.Proofs.Ytiggbgmnibndoaa
/- HELPERS: Next. -/
namespace Go.Proofs.Ytiggbgmnibndoaa
open Go.RowKit Kmp
set_option linter.unusedVariables false
set_option linter.unusedSimpArgs false
theorem next22_out {w : World} {f n c : Nat} {tad : Option Addr} {a : Int} (h : a < 0 ∨ (n : Int) < a) : Calls Try.prog 22 #[.pointer (some ⟨f, 0, none⟩), .slice tad n c, .int .i64 a] w fun e w' => e = .returned (.int .i64 (-1)) ∧ w' = w := by
  by_cases h0 : a < 0
  · go_enter Try.func22, Try.ntmps22
    go_wp2
    go_ret
    exact ⟨rfl, rfl⟩
  · have h1 : (n : Int) < a := by omega
    go_enter Try.func22, Try.ntmps22
    go_wp2
    go_ret
    exact ⟨rfl, rfl⟩
set_option maxRecDepth 100000 in
set_option maxHeartbeats 4000000 in
theorem next22_in {w : World} {B f tn tc a : Nat} {tad : Option Addr} {lit tx : List Int} (hF : FN w B f lit) (hT : TextAt w.heap.size w tad tn tx) (ha : a ≤ tn) : Calls Try.prog 22 #[.pointer (some ⟨f, 0, none⟩), .slice tad tn tc, .int .i64 (a : Int)] w fun e w' => ∃ r : Int, e = .returned (.int .i64 r) ∧ NextIs lit tx a r ∧ w' = w := by
  obtain ⟨⟨g, h, bs, hFB, hg, hh, hbr⟩, h4, _⟩ := hF
  obtain ⟨n, hn⟩ : ∃ n, n = lit.length := ⟨_, rfl⟩
  rw [← hn] at hFB h4 hg hh
  obtain ⟨htl, htm, htc⟩ := hT
  have HF := hid hFB
  have HG := hid hg
  have HH := hid hh
  have HBR := hid hbr
  have HN := hid hn
  have HTL := hid htl
  have HTC := hid htc
  obtain ⟨c0, c1⟩ := hFB.c
  clear hFB hg hh hbr hn htl htc
  have q1 : ¬ (a : Int) < 0 := by omega
  have q2 : ¬ (tn : Int) < (a : Int) := by omega
  have q3 : decide ((a : Int) < 0) = false := by simp
  have q4 : decide ((tn : Int) < (a : Int)) = false := by simp; omega
  go_enter Try.func22, Try.ntmps22
  go_wp2_with fail
  go_loopw [2, 7] (fun i j wr => ∃ q st : Nat, i = .int .i64 (q : Int) ∧ j = .int .i64 (st : Int) ∧ wr = w ∧ q ≤ tn ∧ st ≤ n ∧ Hid (Ahd lit tx a q st)) (fun i _ _ => tn - (intOf i).toNat)
  case atStart => exact ⟨a, 0, rfl, rfl, rfl, ha, by omega, Ahd.start lit tx a (by rw [← HTL.out]; exact ha)⟩
  case round =>
    obtain ⟨q, st, rfl, rfl, rfl, hq, hst, HA⟩ := hrel
    by_cases hlt : st < n
    · have b1 : decide ((st : Int) < (n : Int)) = true := by simp; omega
      have s1 : IntKind.i64.wrap ((tn : Int) - (q : Int)) = (tn : Int) - (q : Int) := by simp [IntKind.wrap, IntKind.bits, IntKind.signed]; omega
      have s2 : IntKind.i64.wrap ((n : Int) - (st : Int)) = (n : Int) - (st : Int) := by simp [IntKind.wrap, IntKind.bits, IntKind.signed]; omega
      by_cases hov : tn - q < n - st
      · have b2 : decide ((tn : Int) - (q : Int) < (n : Int) - (st : Int)) = true := by simp; omega
        have b3 : (tn : Int) - (q : Int) < (n : Int) - (st : Int) := by omega
        have HE := hid (HA.out.over (by rw [← HN.out]; exact hlt) (by rw [← HN.out, ← HTL.out]; exact hov))
        go_wp2
        go_ret
        exact ⟨-1, rfl, HE.out, rfl⟩
      · have b2 : decide ((tn : Int) - (q : Int) < (n : Int) - (st : Int)) = false := by simp; omega
        have b3 : ¬ (tn : Int) - (q : Int) < (n : Int) - (st : Int) := by omega
        obtain ⟨tb, tof, rfl, htb, hc⟩ := HTC.out.resolve_left (by omega)
        have d := hc q (by omega)
        obtain ⟨x, hx⟩ : ∃ x, x = tx.getD q 0 := ⟨_, rfl⟩
        rw [← hx] at d
        have HX : Hid (∀ st', Gr lit ((tx.take q).drop a ++ [x]) st' → Ahd lit tx a (q + 1) st') := fun st' hg => HA.out.next (by rw [← HN.out]; exact hlt) (by rw [← HTL.out]; omega) (by rw [← hx]; exact hg)
        have HFUR := hid (further30 (r := x) (m := n) HF.out HN.out (NR.of HG.out) (NR.of HH.out) (by rw [HN.out]; exact HBR.out) hlt (.inl hlt) (Nat.le_refl _) HA.out.gr h4)
        have p1 : (q : Int) < (tn : Int) := by omega
        have ad1 : IntKind.i64.wrap ((q : Int) + 1) = (q : Int) + 1 := by simp [IntKind.wrap, IntKind.bits, IntKind.signed]; omega
        clear hx hc
        go_wp2_with (go_at_call 30; (with_reducible refine HFUR.out.mono ?_); rintro e w2 ⟨st', rfl, hg, hw⟩; have hw' := hw.symm; clear hw; subst hw'; have HAN := hid (HX.out st' hg); clear hg)
        exact ⟨⟨q + 1, st', by push_cast; rfl, rfl, trivial, by omega, by rw [HN.out]; exact HAN.out.gr.1.1, HAN.out⟩, by simp [intOf]; omega⟩
    · obtain rfl : st = n := by omega
      have b1 : decide ((st : Int) < (st : Int)) = false := by simp
      have HE := HA.out
      rw [HN.out] at HE
      have HE2 := hid HE.found
      have s1 : IntKind.i64.wrap ((q : Int) - (st : Int)) = (q : Int) - (st : Int) := by simp [IntKind.wrap, IntKind.bits, IntKind.signed]; omega
      clear HE
      go_wp2
      go_ret
      exact ⟨_, rfl, by rw [HN.out]; exact HE2.out, rfl⟩
/-- Next of any text, at any place -/
theorem next22 {w : World} {B f tn tc : Nat} {tad : Option Addr} {lit tx : List Int} {a : Int} (hF : FN w B f lit) (hT : TextAt w.heap.size w tad tn tx) : Calls Try.prog 22 #[.pointer (some ⟨f, 0, none⟩), .slice tad tn tc, .int .i64 a] w fun e w' => ∃ r : Int, e = .returned (.int .i64 r) ∧ NextIs lit tx a r ∧ w' = w := by
  by_cases h : a < 0 ∨ (tn : Int) < a
  · exact (next22_out h).mono fun e w' ⟨h1, h2⟩ => ⟨-1, h1, .inl ⟨by rw [← hT.1]; exact h, rfl⟩, h2⟩
  · obtain ⟨A, rfl⟩ := Int.eq_ofNat_of_zero_le (show 0 ≤ a by omega)
    exact next22_in hF hT (by omega)
end Go.Proofs.Ytiggbgmnibndoaa
/- HELPERS: the row of a program in plain words; isOneRune; rows of marks. -/
namespace Go.Proofs.Ytiggbgmnibndoaa
open Go.RowKit Go.Lk
set_option linter.unusedVariables false
set_option linter.unusedSimpArgs false
/-- does an instruction take one rune and no other -/
def oneB (I : In) : Bool := (I.op == 1) && (decide (I.R.length = 1) && ((I.R.getD 0 (0, 0)).1 == (I.R.getD 0 (0, 0)).2))
def runeI (I : In) : Int := (I.R.getD 0 (0, 0)).1
/-- the row from an instruction on, those met ahead known -/
def rowF (l : List In) : Nat → List Nat → Nat → List Int × Bool
  | 0, _, _ => ([], false)
  | k + 1, met, i => if met.contains i = true then ([], false) else
    if (l.getD i default).op = 5 then ([], true)
    else if oneB (l.getD i default) = true then (runeI (l.getD i default) :: (rowF l k (i :: met) (l.getD i default).x.toNat).1, (rowF l k (i :: met) (l.getD i default).x.toNat).2)
    else if (l.getD i default).op = 7 ∨ (l.getD i default).op = 3 then rowF l k (i :: met) (l.getD i default).x.toNat
    else ([], false)
def rowP (l : List In) (S : Nat) : List Int × Bool := rowF l (l.length + 1) [] S
/-- on the way: so much of the row stands -/
structure Way (l : List In) (S : Nat) (met : List Nat) (acc : List Int) (i : Nat) : Prop where
  nd : met.Nodup
  lt : ∀ j ∈ met, j < l.length
  il : i < l.length
  ln : acc.length ≤ met.length
  eq : rowP l S = (acc ++ (rowF l (l.length + 1 - met.length) met i).1, (rowF l (l.length + 1 - met.length) met i).2)
theorem Way.start {l : List In} {S : Nat} (h : S < l.length) : Way l S [] [] S := ⟨List.nodup_nil, by simp, h, by simp, by simp [rowP]⟩
theorem Way.fuel {l : List In} {S : Nat} {met : List Nat} {acc : List Int} {i : Nat} (h : Way l S met acc i) : ∃ k, l.length + 1 - met.length = k + 1 := ⟨l.length - met.length, by have := nodup_le h.nd h.lt; omega⟩
theorem Way.again {l : List In} {S : Nat} {met : List Nat} {acc : List Int} {i : Nat} (h : Way l S met acc i) (hm : i ∈ met) : rowP l S = (acc, false) := by
  obtain ⟨k, hk⟩ := h.fuel
  have := h.eq
  rw [hk, rowF, if_pos (by simpa using hm)] at this
  simpa using this
theorem Way.fit {l : List In} {S : Nat} {met : List Nat} {acc : List Int} {i : Nat} (h : Way l S met acc i) (hm : i ∉ met) (ho : (l.getD i default).op = 5) : rowP l S = (acc, true) := by
  obtain ⟨k, hk⟩ := h.fuel
  have := h.eq
  rw [hk, rowF, if_neg (by simpa using hm), if_pos ho] at this
  simpa using this
theorem one_op {I : In} (h : oneB I = true) : I.op = 1 := by
  simp only [oneB, Bool.and_eq_true] at h
  simpa using h.1
theorem Way.stop {l : List In} {S : Nat} {met : List Nat} {acc : List Int} {i : Nat} (h : Way l S met acc i) (hm : i ∉ met) (ho : (l.getD i default).op ≠ 5) (h1 : oneB (l.getD i default) = false) (h2 : (l.getD i default).op ≠ 7) (h3 : (l.getD i default).op ≠ 3) : rowP l S = (acc, false) := by
  obtain ⟨k, hk⟩ := h.fuel
  have := h.eq
  rw [hk, rowF, if_neg (by simpa using hm), if_neg ho, if_neg (by rw [h1]; decide), if_neg (fun h => h.elim h2 h3)] at this
  simpa using this
theorem Way.cons {l : List In} {S : Nat} {met : List Nat} {acc : List Int} {i : Nat} (h : Way l S met acc i) (hm : i ∉ met) : (i :: met).Nodup ∧ (∀ j ∈ i :: met, j < l.length) ∧ l.length + 1 - met.length = (l.length + 1 - (i :: met).length) + 1 := by
  have h1 : (i :: met).Nodup := List.nodup_cons.2 ⟨hm, h.nd⟩
  have h2 : ∀ j ∈ i :: met, j < l.length := fun j hj => by
    rcases List.mem_cons.1 hj with rfl | hj
    · exact h.il
    · exact h.lt j hj
  have h3 := nodup_le h1 h2
  refine ⟨h1, h2, ?_⟩
  simp at h3 ⊢
  omega
theorem Way.one {l : List In} {S : Nat} {met : List Nat} {acc : List Int} {i : Nat} (h : Way l S met acc i) (hm : i ∉ met) (h1 : oneB (l.getD i default) = true) (hx : (l.getD i default).x.toNat < l.length) : Way l S (i :: met) (acc ++ [runeI (l.getD i default)]) (l.getD i default).x.toNat := by
  obtain ⟨e1, e2, e3⟩ := h.cons hm
  refine ⟨e1, e2, hx, by have := h.ln; simp; omega, ?_⟩
  have := h.eq
  rw [e3, rowF, if_neg (by simpa using hm), if_neg (by rw [one_op h1]; decide), if_pos h1] at this
  rw [this]
  simp
theorem Way.pass {l : List In} {S : Nat} {met : List Nat} {acc : List Int} {i : Nat} (h : Way l S met acc i) (hm : i ∉ met) (h1 : (l.getD i default).op = 7 ∨ (l.getD i default).op = 3) (hx : (l.getD i default).x.toNat < l.length) : Way l S (i :: met) acc (l.getD i default).x.toNat := by
  obtain ⟨e1, e2, e3⟩ := h.cons hm
  refine ⟨e1, e2, hx, by have := h.ln; simp; omega, ?_⟩
  have h5 : (l.getD i default).op ≠ 5 := by rcases h1 with h | h <;> rw [h] <;> decide
  have ho : oneB (l.getD i default) = false := by
    cases hb : oneB (l.getD i default)
    · rfl
    · have := one_op hb; omega
  have := h.eq
  rw [e3, rowF, if_neg (by simpa using hm), if_neg h5, if_neg (by rw [ho]; decide), if_pos h1] at this
  exact this
/-- which instructions were met, in memory -/
def Mtd (w : World) (mb n : Nat) (met : List Nat) : Prop := ∃ arr : Array Value, w.heap[mb]? = some (.cells arr 4 (0, 0)) ∧ arr.size = n ∧ ∀ i, i < n → arr[i]? = some (.bool (met.contains i))
theorem Mtd.cell {w : World} {mb n : Nat} {met : List Nat} (h : Mtd w mb n met) {i : Nat} (hi : i < n) : w.cell? ⟨mb, i, none⟩ = some (.bool (met.contains i)) := by
  obtain ⟨arr, h1, h2, h3⟩ := h
  rw [Joins.cell_of_block h1 i]
  exact h3 i hi
theorem Mtd.unf {w : World} {mb n : Nat} {met : List Nat} (h : Mtd w mb n met) (i : Nat) : w.frozen? ⟨mb, i, none⟩ = false := by
  obtain ⟨arr, h1, h2, h3⟩ := h
  exact Joins.unfrozen_of_block h1 i
theorem Mtd.lt {w : World} {mb n : Nat} {met : List Nat} (h : Mtd w mb n met) : mb < w.heap.size := by
  obtain ⟨arr, h1, h2, h3⟩ := h
  exact (Array.getElem?_eq_some_iff.1 h1).1
theorem Mtd.kept {w w' : World} {mb n : Nat} {met : List Nat} (h : Mtd w mb n met) (hk : w'.heap[mb]? = w.heap[mb]?) : Mtd w' mb n met := by
  obtain ⟨arr, h1, h2, h3⟩ := h
  exact ⟨arr, hk.trans h1, h2, h3⟩
theorem Mtd.mark {w : World} {mb n : Nat} {met : List Nat} (h : Mtd w mb n met) {i : Nat} (hi : i < n) : Mtd (w.setCell ⟨mb, i, none⟩ (.bool true)) mb n (i :: met) := by
  obtain ⟨arr, h1, h2, h3⟩ := h
  refine ⟨arr.setIfInBounds i (.bool true), Joins.block_setCell (i := i) h1 _, by simpa using h2, fun k hk => ?_⟩
  by_cases e : k = i
  · subst e
    simp [Array.getElem?_setIfInBounds, h2, hk]
  · rw [Array.getElem?_setIfInBounds, if_neg (fun h => e h.symm), h3 k hk]
    simp [List.contains_cons, e]
theorem Mtd.new (w : World) (n : Nat) : Mtd (w.alloc (.cells (madeCells #[.bool false] n) 4)) w.heap.size n [] := by
  refine ⟨_, heap_alloc_new w _, size_madeCells _ _, fun i hi => ?_⟩
  have h := toList_madeCells_one (.bool false) n
  rw [← Array.getElem?_toList, h]
  simp [hi]
theorem make63 (c : Nat) (hc : c ≤ 20000) (w : World) : (Instr.makeSlice 63 (.int .i64 (c : Int)) (.int .i64 (c : Int))).run Try.prog w = .ok (.slice (some ⟨w.heap.size, 0, none⟩) c c) (w.alloc (.cells (madeCells #[.bool false] c) 4)) := by
  obtain ⟨i0, hi0, hz0, hz1, hz2⟩ := info_parts (show (Try.prog.info? 4).map (fun i => (i.zero, i.size, i.bytes)) = some (some (.bool false), 1, 1) by kernel_rfl)
  have h := run_make (P := Try.prog) w 63 4 i0 (.bool false) Try.underlying63 hi0 hz0 .i64 .i64 c c (by omega) (by omega) (by rw [hz2]; omega) (by omega)
  simp only [Int.toNat_natCast, hz1, Nat.mul_one] at h
  exact h
set_option maxRecDepth 100000 in
set_option maxHeartbeats 4000000 in
theorem one35 {w : World} {N : Iv} {I : In} (h : IM w w.heap.size N I) : Calls Try.prog 35 #[N.v] w fun e w' => e = .returned (.bool (oneB I)) ∧ Below w.heap.size w w' := by
  obtain ⟨op, x, y, a, r1, r2, r3⟩ := N
  obtain ⟨hop, hx, hy, ha, hlen, hsm, hrow⟩ := h
  dsimp only at hop hlen hrow
  obtain ⟨U, hU⟩ : ∃ U, U = w.alloc (.cells #[.int .i64 op, .int .i64 x, .int .i64 y, .int .i64 a, .slice r1 r2 r3] 60) := ⟨_, rfl⟩
  have hb : Below w.heap.size w U := by rw [hU]; exact Joins.below_alloc1 w _
  have hX : U.heap[w.heap.size]? = some (.cells #[.int .i64 op, .int .i64 x, .int .i64 y, .int .i64 a, .slice r1 r2 r3] 60 (0, 0)) := by rw [hU]; exact heap_alloc_new w _
  obtain ⟨c0, c1, c2, c3, c4⟩ := five hX
  have hrU := hrow.below hb (Nat.le_refl _) hb.size
  have HB := hid hb
  obtain ⟨b, hbe⟩ : ∃ b, b = w.heap.size := ⟨_, rfl⟩
  have HOP := hid hop
  have HLEN := hid hlen
  clear hX hb hop hlen hrow hx hy ha
  go_enter Try.func35, Try.ntmps35
  go_upto_region 1 with fail
  rw [← hU, ← hbe]
  rw [← hbe] at c0 c1 c2 c3 c4 HB
  have HBE := hid hbe
  clear hU hbe
  by_cases g1 : op = 1
  · subst g1
    by_cases g2 : r2 = 1
    · have b2 : ((r2 : Int) == 1) = true := by simp; omega
      have b3 : (0 : Int) < (r2 : Int) := by omega
      have G2 := hid g2
      clear g2
      obtain ⟨ad, cap, e, h0 | ⟨lb, off, rfl, hlb, hc0, hc1⟩⟩ := hrU
      · have := HLEN.out; have := G2.out; omega
      · simp only [Value.slice.injEq] at e
        obtain ⟨e1, -, -⟩ := e
        subst e1
        have d0 := hc0 0 (by rw [← HLEN.out]; exact (by have := G2.out; omega))
        have d1 := hc1 0 (by rw [← HLEN.out]; exact (by have := G2.out; omega))
        obtain ⟨lo, hlo⟩ : ∃ lo, lo = (I.R.getD 0 (0, 0)).1 := ⟨_, rfl⟩
        obtain ⟨hi, hhi⟩ : ∃ hi, hi = (I.R.getD 0 (0, 0)).2 := ⟨_, rfl⟩
        rw [← hlo] at d0
        rw [← hhi] at d1
        have HLO := hid hlo
        have HHI := hid hhi
        clear hlo hhi hc0 hc1
        simp only [Nat.zero_mul, Nat.add_zero] at d0 d1
        by_cases g3 : lo = hi
        · have b1 : (lo == hi) = true := by simp [g3]
          have G3 := hid g3
          clear g3
          go_quiet (fail)
          go_wp2
          go_ret
          refine ⟨ret_bool (by rw [oneB, ← HOP.out, ← HLEN.out, ← HLO.out, ← HHI.out, G2.out]; simp [G3.out]), ?_⟩
          rw [← HBE.out]
          exact below_drewN' HB.out _
        · have b1 : (lo == hi) = false := by simp [g3]
          have G3 := hid g3
          clear g3
          go_quiet (fail)
          go_wp2
          go_ret
          refine ⟨ret_bool (by rw [oneB, ← HOP.out, ← HLEN.out, ← HLO.out, ← HHI.out, G2.out]; simp [G3.out]), ?_⟩
          rw [← HBE.out]
          exact below_drewN' HB.out _
    · have b1 : ((r2 : Int) == 1) = false := by simp; omega
      go_quiet (fail)
      go_wp2
      go_ret
      refine ⟨ret_bool (by simp [oneB, ← HLEN.out, g2]), ?_⟩
      rw [← HBE.out]
      exact below_drewN' HB.out _
  · have b1 : (op == 1) = false := by simp [g1]
    go_quiet (fail)
    go_wp2
    go_ret
    refine ⟨ret_bool (by simp [oneB, ← HOP.out, g1]), ?_⟩
    rw [← HBE.out]
    exact below_drewN' HB.out _
end Go.Proofs.Ytiggbgmnibndoaa
/- HELPERS: rowOf. -/
namespace Go.Proofs.Ytiggbgmnibndoaa
open Go.RowKit Go.Lk
set_option linter.unusedVariables false
set_option linter.unusedSimpArgs false
theorem chg_moved {w w1 : World} {o : Obj} {v v' : Value} (hm : Moved (w.alloc o) w1 v v') (G : List Nat) : Chg w w1 (G ++ v.ownBlock.toList) (G ++ v'.ownBlock.toList) := by
  rcases hm with ⟨he, h⟩ | ⟨he, h⟩
  · refine ⟨h.os, h.tape, h.output, by have := h.size; simp at this; omega, fun k hk hn => (h.block k (by simp; omega) (fun e => hn (by simp [← e]))).trans (heap_alloc_old w _ hk), fun k hk => ?_⟩
    rw [he] at hk
    exact .inl hk
  · refine ⟨h.os, h.tape, h.output, by have := h.size; simp at this; omega, fun k hk hn => (h.block k (by simp; omega) (by simp)).trans (heap_alloc_old w _ hk), fun k hk => ?_⟩
    rw [he] at hk
    simp at hk
    rcases hk with hk | hk
    · exact .inl (by simp [hk])
    · exact .inr (by omega)
/-- one element, out of the block that was made last -/
theorem wpList_append_one {P : Program} {w : World} {ops : Array Oper} {rest : List Oper} {op : Oper} {a : Act} {Q : Exit → Act → World → Prop} (hgd : op.guard = none) (s x : Operand) (t : TypeId)
    (ho : op.op = .call { callee := .builtin .append, args := #[s, x], argTypes := #[t, t] })
    (base : Nat) (e : TypeId) (z : Value) (bytes : Nat) (ht : P.underlying t = some (.slice e)) (hi : (P.info? e).map (fun i => (i.zero, i.size, i.bytes)) = some (some z, 1, bytes)) (hzs : z.cells.size = 1)
    (v u : Value) (n c : Nat) (xs : List Value) (hs : a.eval s = v) (hown : w.ownsRow base e 1 v n xs)
    (G : Nat) (hG : G = w.heap.size) (hx : a.eval x = .slice (some ⟨G, 0, none⟩) 1 c) (h1 : u.oneCell' = true)
    (h63 : n + 1 ≤ maxLen) (hbytes : (n + 1) * bytes ≤ 140737488355328) (hbase : base ≤ w.heap.size)
    (h : ∀ v' w', Hid (w'.ownsRow base e 1 v' (n + 1) (xs ++ [u])) → Hid (Moved (w.alloc (.cells #[u] e)) w' v v') → wpList P ops Q rest (a.put op.dst v') w') : wpList P ops Q (op :: rest) a (w.alloc (.cells #[u] e)) := by
  subst hG
  obtain ⟨i0, hi, hz0, hz1, hz2⟩ := info_parts hi
  refine wpList_append_move hgd s x t ho base e i0 z bytes ht hi hz0 hz1 hz2 hzs v n xs hs (hown.alloc _) ⟨w.heap.size, 0, none⟩ 1 c [u] hx rfl (by decide) ?_ ?_ h63 hbytes (by simp; omega) h
  · intro j y hj
    match j, hj with
    | 0, hj => simp at hj; subst hj; simp [Addr.add]
  · intro y hy; simp at hy; subst hy; exact h1
/-- how many are not met yet -/
theorem Mtd.fewer {w : World} {mb n : Nat} {met : List Nat} (h : Mtd w mb n met) {i : Nat} (hi : i < n) (hm : i ∉ met) : cW (w.setCell ⟨mb, i, none⟩ (.bool true)) mb n < cW w mb n := by
  obtain ⟨arr, h1, h2, h3⟩ := h
  have h4 : arr[i]? = some (.bool false) := by rw [h3 i hi]; simp [hm]
  rw [cW_of h1, cW_of (Joins.block_setCell (i := i) h1 (.bool true))]
  exact cA_set hi (by omega) h4
theorem cW_kept {w w' : World} {mb n : Nat} (h : w'.heap[mb]? = w.heap[mb]?) : cW w' mb n = cW w mb n := by unfold cW; rw [h]
/-- the memory of the way -/
structure RSt (w0 : World) (x mb n : Nat) (cs : Array Value) (w : World) (met : List Nat) (v : Value) (acc : List Int) : Prop where
  box : w.heap[x]? = some (.cells cs 27 (0, 0))
  met : Mtd w mb n met
  row : w.ownsRow x 3 1 v acc.length (I64 acc)
  bel : Below x w0 w
  mx : x < mb
theorem RSt.below {w0 w w' : World} {x mb n : Nat} {cs : Array Value} {met : List Nat} {v : Value} {acc : List Int} (h : RSt w0 x mb n cs w met v acc) (hb : Below w.heap.size w w') : RSt w0 x mb n cs w' met v acc :=
  have hxl : x < w.heap.size := (Array.getElem?_eq_some_iff.1 h.box).1
  ⟨(hb.block x hxl).trans h.box, h.met.kept (hb.block mb h.met.lt), row_kept h.row (fun b hb' => hb.block b (h.row.lt b hb').2), h.bel.trans (Joins.below_le hb (by omega)), h.mx⟩
theorem met_type {w : World} {mb n : Nat} {met : List Nat} (h : Mtd w mb n met) : ∃ arr, w.heap[mb]? = some (.cells arr 4 (0, 0)) := by
  obtain ⟨arr, h1, _⟩ := h
  exact ⟨arr, h1⟩
theorem RSt.mark {w0 w : World} {x mb n : Nat} {cs : Array Value} {met : List Nat} {v : Value} {acc : List Int} (h : RSt w0 x mb n cs w met v acc) {i : Nat} (hi : i < n) : RSt w0 x mb n cs (w.setCell ⟨mb, i, none⟩ (.bool true)) (i :: met) v acc := by
  obtain ⟨arr, ha⟩ := met_type h.met
  have hne : x ≠ mb := by have := h.mx; omega
  refine ⟨(Below.heap_setCell _ _ _ _ hne).trans h.box, h.met.mark hi, own_setCell h.row (own_ne h.row ha (by decide)), h.bel.setCell (p := ⟨mb, i, none⟩) (by have := h.mx; show x ≤ mb; omega) _, h.mx⟩
theorem RSt.app {w0 w w' : World} {x mb n : Nat} {cs : Array Value} {met : List Nat} {v v' : Value} {acc : List Int} {r : Int} {o : Obj} (h : RSt w0 x mb n cs w met v acc) (ho : w'.ownsRow x 3 1 v' (acc.length + 1) (I64 acc ++ [.int .i64 r])) (hm : Moved (w.alloc o) w' v v') : RSt w0 x mb n cs w' met v' (acc ++ [r]) := by
  obtain ⟨arr, ha⟩ := met_type h.met
  have hxl : x < w.heap.size := (Array.getElem?_eq_some_iff.1 h.box).1
  have hc := chg_moved hm []
  simp only [List.nil_append] at hc
  have h1 : ∀ k, v.ownBlock ≠ some k → k ∉ v.ownBlock.toList := fun k hk hm' => hk (by simpa using hm')
  have hb := own_ne h.row h.box (by decide)
  have hmb := own_ne h.row ha (by decide)
  refine ⟨(hc.block x hxl (h1 x hb)).trans h.box, h.met.kept (hc.block mb h.met.lt (h1 mb hmb)), ?_, h.bel.trans (hc.below (by omega) (fun k hk => (h.row.lt k (by simpa using hk)).1)), h.mx⟩
  rw [show I64 (acc ++ [r]) = I64 acc ++ [.int .i64 r] by simp [I64], show (acc ++ [r]).length = acc.length + 1 by simp]
  exact ho
theorem RSt.new (w : World) (n : Nat) (cs : Array Value) : RSt w w.heap.size (w.heap.size + 1) n cs ((w.alloc (.cells cs 27)).alloc (.cells (madeCells #[.bool false] n) 4)) [] (.slice none 0 0) [] := by
  have h2 := Mtd.new (w.alloc (.cells cs 27)) n
  rw [show (w.alloc (.cells cs 27)).heap.size = w.heap.size + 1 by simp] at h2
  have h1 : (w.alloc (.cells cs 27)).heap[w.heap.size]? = some (.cells cs 27 (0, 0)) := heap_alloc_new w _
  exact ⟨(heap_alloc_old _ _ (by simp)).trans h1, h2, World.ownsRow_nil _ _ _ _, (Joins.below_alloc1 w _).trans (Joins.below_le (Joins.below_alloc1 _ _) (by simp)), by omega⟩
/-- what is read of an instruction, in whatever world keeps what lay there -/
theorem pi_read {w : World} {ad : Option Addr} {n : Nat} {l : List In} (h : PI w w.heap.size ad n l) {i : Nat} (hi : i < n) : ∃ (b o : Nat) (N : Iv), ad = some ⟨b, o, none⟩ ∧ b < w.heap.size ∧ ∀ W, Below w.heap.size w W → I5 W b o i N ∧ IM W W.heap.size N (l.getD i default) := by
  obtain ⟨b, o, ND, e, hb, h2⟩ := h.mem (by omega)
  have hil : i < l.length := by rw [← h.len]; exact hi
  refine ⟨b, o, ND i, e, hb, fun W hW => ?_⟩
  rw [getD_in' hil]
  exact ⟨(h2 i hil).1.kept (hW.block b hb), (h2 i hil).2.kept hW hW.size⟩
set_option maxRecDepth 100000 in
set_option maxHeartbeats 8000000 in
theorem rowOf28 {w : World} {ad : Option Addr} {n c : Nat} {s k : Int} {l : List In} (hP : PI w w.heap.size ad n l) (hmay : mayB l s k = true) : Calls Try.prog 28 #[pv ad n c s k] w fun e w' => ∃ v, e = .returned (.tuple #[v, .bool (rowP l s.toNat).2]) ∧ w'.ownsRow w.heap.size 3 1 v (rowP l s.toNat).1.length (I64 (rowP l s.toNat).1) ∧ Below w.heap.size w w' := by
  have hm := may_ok hmay
  have hln := hP.len
  obtain ⟨S, rfl⟩ := Int.eq_ofNat_of_zero_le hm.2.1
  obtain ⟨i0, hi0, hz0, hz1, hz2⟩ := info_parts info3
  have hn20 : n ≤ 20000 := by omega
  have hSn : S < n := by omega
  have hst := RSt.new w n #[.slice ad n c, .int .i64 (S : Int), .int .i64 k]
  have hway := Way.start (l := l) (S := S) (by omega)
  have hOK : ∀ i, i < n → (l.getD i default).okB l.length k = true := fun i hi => by
    rw [getD_in' (by omega)]
    exact hm.2.2.2.2.2 _ (List.getElem_mem _)
  have HP := hid hP
  have HOK := hid hOK
  have HLN := hid hln
  have HMK := fun W => make63 n hn20 W
  obtain ⟨x, hx⟩ : ∃ x, x = w.heap.size := ⟨_, rfl⟩
  obtain ⟨mb, hmb⟩ : ∃ mb, mb = w.heap.size + 1 := ⟨_, rfl⟩
  obtain ⟨U, hU⟩ : ∃ U, U = (w.alloc (.cells #[.slice ad n c, .int .i64 (S : Int), .int .i64 k] 27)).alloc (.cells (madeCells #[.bool false] n) 4) := ⟨_, rfl⟩
  rw [← hmb, ← hU, ← hx] at hst
  have HST := hid hst
  have HWAY := hid hway
  obtain ⟨t0, t1, t2⟩ := three_cells hst.box
  clear hP hm hln hst hway hmay hOK
  go_enter Try.func28, Try.ntmps28
  go_upto_region 3 with fail
  rw [← hU, ← hmb, ← hx]
  have HXE := hid hx
  clear hU hmb hx HMK
  go_wp2_with fail
  clear t0 t1 t2
  go_loopw [4, 6] (fun v4 v6 wr => ∃ (i : Nat) (met : List Nat) (acc : List Int) (v : Value), v = v4 ∧ v6 = .int .i64 (i : Int) ∧ i < n ∧ Hid (RSt w x mb n #[.slice ad n c, .int .i64 (S : Int), .int .i64 k] wr met v acc) ∧ Hid (Way l S met acc i)) (fun _ _ wr => cW wr mb n)
  case atStart => exact ⟨S, [], [], _, rfl, rfl, hSn, HST.out, HWAY.out⟩
  case round =>
    obtain ⟨i, met, acc, v, rfl, rfl, hin, HR, HW⟩ := hrel
    obtain ⟨t0, t1, t2⟩ := three_cells HR.out.box
    have cm := HR.out.met.cell hin
    have fm := HR.out.met.unf i
    have b2 : (i : Int) < (n : Int) := by omega
    by_cases hmem : i ∈ met
    · rw [show met.contains i = true by simpa using hmem] at cm
      have HE := hid (HW.out.again hmem)
      go_wp2
      go_ret2
      refine ⟨v, by simp only [Int.toNat_natCast]; rw [HE.out]; rfl, ?_, ?_⟩
      · simp only [Int.toNat_natCast]
        rw [HE.out, ← HXE.out]
        exact HR.out.row
      · rw [← HXE.out]
        exact HR.out.bel
    · rw [show met.contains i = false by simpa using hmem] at cm
      obtain ⟨pb, po, N, hpa, hpb, hrd⟩ := pi_read HP.out hin
      subst hpa
      have hR1 := HR.out.mark hin
      have HF := hid (HR.out.met.fewer hin hmem)
      obtain ⟨I, hI⟩ : ∃ I, I = l.getD i default := ⟨_, rfl⟩
      have hwf := fun h5 => HW.out.fit hmem h5
      have hws := fun h5 h1 h7 h3 => HW.out.stop hmem h5 h1 h7 h3
      have hok := HOK.out i hin
      have hwo : oneB I = true → ∃ y : Nat, I.x = (y : Int) ∧ y < n ∧ Way l S (i :: met) (acc ++ [runeI I]) y := fun h1 => by
        rw [← hI] at hok
        have hx := ok_x hok (by rw [one_op h1]; rfl)
        refine ⟨I.x.toNat, by omega, by rw [HLN.out]; omega, ?_⟩
        have := HW.out.one hmem (by rw [← hI]; exact h1) (by rw [← hI]; omega)
        rw [← hI] at this
        exact this
      have hwp : I.op = 7 ∨ I.op = 3 → ∃ y : Nat, I.x = (y : Int) ∧ y < n ∧ Way l S (i :: met) acc y := fun h1 => by
        rw [← hI] at hok
        have hx := ok_x hok (by rcases h1 with h | h <;> rw [h] <;> rfl)
        refine ⟨I.x.toNat, by omega, by rw [HLN.out]; omega, ?_⟩
        have := HW.out.pass hmem (by rw [← hI]; exact h1) (by rw [← hI]; omega)
        rw [← hI] at this
        exact this
      rw [← hI] at hwf hws
      have HWF := hid hwf
      have HWS := hid hws
      have HWO := hid hwo
      have HWP := hid hwp
      have hrd' : ∀ W, Below x w W → I5 W pb po i N ∧ IM W W.heap.size N I := fun W hW => by rw [hI]; exact hrd W (by rw [← HXE.out]; exact hW)
      have HRD := hid hrd'
      have hpx : pb < x := by rw [HXE.out]; exact hpb
      obtain ⟨W1, hW1⟩ : ∃ W1, W1 = wr.setCell ⟨mb, i, none⟩ (.bool true) := ⟨_, rfl⟩
      rw [← hW1] at hR1 HF
      have HR1 := hid hR1
      have HW1 := hid hW1
      have h5 := (hrd' W1 hR1.bel).1
      obtain ⟨op, xx, yy, aa, r1, r2, r3⟩ := N
      obtain ⟨m0, m1, m2, m3, m4⟩ := h5
      obtain ⟨a0, a1, a2⟩ := three_cells hR1.box
      clear hR1 hW1 hI hwf hws hwo hwp hok hrd hrd' hmem HR HW hpb
      go_upto_region 7 with fail
      rw [← HW1.out]
      clear t0 t1 t2 cm fm HW1
      go_upto_region 8 with fail
      obtain ⟨V, hV⟩ : ∃ V, V = W1.alloc (.cells #[.int .i64 op, .int .i64 xx, .int .i64 yy, .int .i64 aa, .slice r1 r2 r3] 60) := ⟨_, rfl⟩
      rw [← hV]
      have hbV : Below W1.heap.size W1 V := by rw [hV]; exact Joins.below_alloc1 W1 _
      have hY : V.heap[W1.heap.size]? = some (.cells #[.int .i64 op, .int .i64 xx, .int .i64 yy, .int .i64 aa, .slice r1 r2 r3] 60 (0, 0)) := by rw [hV]; exact heap_alloc_new W1 _
      obtain ⟨y, hy⟩ : ∃ y, y = W1.heap.size := ⟨_, rfl⟩
      rw [← hy] at hY ⊢
      have hRV := HR1.out.below hbV
      have hIM := (HRD.out V hRV.bel).2
      have hFV : cW V mb n = cW W1 mb n := cW_kept (hbV.block mb HR1.out.met.lt)
      have HOP : Hid (op = I.op) := hIM.op
      have HXX : Hid (xx = I.x) := hIM.x
      have hone := one35 hIM
      have HRV := hid hRV
      have HFV := hid hFV
      have HY := hid hY
      obtain ⟨v0, v1, v2, v3, v4⟩ := five hY
      have hyl : y < V.heap.size := (Array.getElem?_eq_some_iff.1 hY).1
      clear hV hbV hY hy m0 m1 m2 m3 m4 a0 a1 a2 hRV hIM hFV HR1
      by_cases g5 : op = 5
      · have b1 : (op == 5) = true := by simp [g5]
        have HE := hid (HWF.out (by rw [← HOP.out]; exact g5))
        clear g5 hone
        go_wp2
        go_ret2
        refine ⟨v, by simp only [Int.toNat_natCast]; rw [HE.out]; rfl, ?_, ?_⟩
        · simp only [Int.toNat_natCast]
          rw [HE.out, ← HXE.out]
          exact HRV.out.row
        · rw [← HXE.out]
          exact HRV.out.bel
      · have b1 : (op == 5) = false := by simp [g5]
        have G5 : Hid (I.op ≠ 5) := by show I.op ≠ 5; rw [← HOP.out]; exact g5
        clear g5
        cases g1 : oneB I
        · rw [g1] at hone
          have HONE := hid hone
          have HG1 := hid g1
          clear hone g1
          by_cases g7 : op = 7 ∨ op = 3
          · obtain ⟨z, hz, hzn, hway⟩ := HWP.out (by rw [← HOP.out]; exact g7)
            go_wp2_with fail
            refine HONE.out.mono ?_
            rintro e w2 ⟨rfl, hb2⟩
            have hR2 := HRV.out.below hb2
            have h5 := (HRD.out w2 hR2.bel).1
            obtain ⟨m0, m1, m2, m3, m4⟩ := h5
            obtain ⟨v0, v1, v2, v3, v4⟩ := five ((hb2.block y hyl).trans HY.out)
            obtain ⟨a0, a1, a2⟩ := three_cells hR2.box
            have HR2 := hid hR2
            have HF2 : Hid (cW w2 mb n < cW wr mb n) := by show _ < _; rw [cW_kept (hb2.block mb HRV.out.met.lt), HFV.out]; exact HF.out
            have HWY := hid hway
            have HXZ : Hid (xx = (z : Int)) := by show xx = z; rw [HXX.out, hz]
            rw [HXZ.out] at m1
            clear hz hway hb2 hR2
            by_cases g8 : op = 7
            · have b3 : (op != 7) = false := by simp [g8]
              clear g7 g8
              go_wp2
              exact ⟨⟨z, _, _, v, rfl, rfl, hzn, HR2.out, HWY.out⟩, HF2.out⟩
            · have b3 : (op != 7) = true := by simp [g8]
              have b4 : (op != 3) = false := by simp; omega
              clear g7 g8
              go_wp2
              exact ⟨⟨z, _, _, v, rfl, rfl, hzn, HR2.out, HWY.out⟩, HF2.out⟩
          · have HE := hid (HWS.out G5.out HG1.out (by rw [← HOP.out]; omega) (by rw [← HOP.out]; omega))
            have b3 : (op != 7) = true := by simp; omega
            have b4 : (op != 3) = true := by simp; omega
            clear g7
            go_wp2_with fail
            refine HONE.out.mono ?_
            rintro e w2 ⟨rfl, hb2⟩
            have hR2 := HRV.out.below hb2
            have h5 := (HRD.out w2 hR2.bel).1
            obtain ⟨m0, m1, m2, m3, m4⟩ := h5
            obtain ⟨v0, v1, v2, v3, v4⟩ := five ((hb2.block y hyl).trans HY.out)
            obtain ⟨a0, a1, a2⟩ := three_cells hR2.box
            have HR2 := hid hR2
            have HF2 : Hid (cW w2 mb n < cW wr mb n) := by show _ < _; rw [cW_kept (hb2.block mb HRV.out.met.lt), HFV.out]; exact HF.out
            clear hR2 hb2
            go_wp2
            go_ret2
            refine ⟨v, by simp only [Int.toNat_natCast]; rw [HE.out]; rfl, ?_, ?_⟩
            · simp only [Int.toNat_natCast]
              rw [HE.out, ← HXE.out]
              exact HR2.out.row
            · rw [← HXE.out]
              exact HR2.out.bel
        · rw [g1] at hone
          have HONE := hid hone
          obtain ⟨z, hz, hzn, hway⟩ := HWO.out g1
          have HG1 := hid g1
          clear hone g1
          go_wp2_with fail
          refine HONE.out.mono ?_
          rintro e w2 ⟨rfl, hb2⟩
          have hR2 := HRV.out.below hb2
          have h5 := (HRD.out w2 hR2.bel).1
          obtain ⟨m0, m1, m2, m3, m4⟩ := h5
          obtain ⟨v0, v1, v2, v3, v4⟩ := five ((hb2.block y hyl).trans HY.out)
          obtain ⟨a0, a1, a2⟩ := three_cells hR2.box
          have HR2 := hid hR2
          have HF2 : Hid (cW w2 mb n < cW wr mb n) := by show _ < _; rw [cW_kept (hb2.block mb HRV.out.met.lt), HFV.out]; exact HF.out
          have HWY := hid hway
          have HXZ : Hid (xx = (z : Int)) := by show xx = z; rw [HXX.out, hz]
          have hIM := (HRD.out w2 hR2.bel).2
          have hg1 := HG1.out
          simp only [oneB, Bool.and_eq_true, decide_eq_true_eq] at hg1
          have hlen1 : r2 = 1 := hIM.len.trans hg1.2.1
          obtain ⟨ad', cap, e, h0 | ⟨lb, off, rfl, hlb, hc0, hc1⟩⟩ := hIM.row
          · omega
          · simp only [Value.slice.injEq] at e
            obtain ⟨e1, -, -⟩ := e
            subst e1
            have d0 := hc0 0 (by omega)
            rw [show (I.R.getD 0 (0, 0)).1 = runeI I from rfl] at d0
            simp only [Nat.zero_mul, Nat.add_zero] at d0
            have b3 : (0 : Int) < (r2 : Int) := by omega
            have hal : acc.length ≤ n := by
              have h1 := hway.ln
              have h2 := nodup_le hway.nd hway.lt
              rw [← HLN.out] at h2
              simp at h1 h2
              omega
            obtain ⟨rr, hrr⟩ : ∃ rr, rr = runeI I := ⟨_, rfl⟩
            rw [← hrr] at d0 HWY
            have HIM := hid hIM
            clear hz hway hb2 hR2 hc0 hc1 hg1 hlen1 hrr hIM m0 m1 m2 m3 m4 a0 a1 a2
            have HAPP : Hid (∀ v' w3, w3.ownsRow x 3 1 v' (acc.length + 1) (I64 acc ++ [.int .i64 rr]) → Moved (w2.alloc (.cells #[.int .i64 rr] 3)) w3 v v' → (w3.cell? ⟨x, 0, none⟩ = some (.slice (some ⟨pb, po, none⟩) n c) ∧ w3.cell? ⟨pb, po + i * 5 + 1, none⟩ = some (.int .i64 (z : Int))) ∧ RSt w x mb n #[.slice (some ⟨pb, po, none⟩) n c, .int .i64 (S : Int), .int .i64 k] w3 (i :: met) v' (acc ++ [rr]) ∧ cW w3 mb n < cW wr mb n) := fun v' w3 ho hmv => by
              have hR3 := HR2.out.app ho hmv
              obtain ⟨m0, m1, m2, m3, m4⟩ := (HRD.out w3 hR3.bel).1
              rw [HXZ.out] at m1
              have hc := chg_moved hmv []
              obtain ⟨arr, ha⟩ := met_type HR2.out.met
              refine ⟨⟨(three_cells hR3.box).1, m1⟩, hR3, ?_⟩
              rw [cW_kept (hc.block mb HR2.out.met.lt (fun h => own_ne HR2.out.row ha (by decide) (by simpa using h)))]
              exact HF2.out
            go_wp2_with (at_builtin; refine wpList_append_one rfl (.tmp 41) (.tmp 47) 29 rfl x 3 (.int .i64 0) 8 Try.underlying29 info3 rfl v (.int .i64 rr) acc.length 1 (I64 acc) rfl HR2.out.row w2.heap.size rfl rfl rfl (by unfold maxLen; omega) (by omega) (by have := (Array.getElem?_eq_some_iff.1 HR2.out.box).1; omega) ?_; intro v' w3 ho hmv; obtain ⟨⟨a0, m1⟩, hR3, hF3⟩ := HAPP.out v' w3 ho.out hmv.out; have HR3 := hid hR3; have HF3 := hid hF3; clear hR3 hF3 ho hmv)
            exact ⟨⟨z, _, _, v', rfl, rfl, hzn, HR3.out, HWY.out⟩, HF3.out⟩
end Go.Proofs.Ytiggbgmnibndoaa
/- HELPERS: Prefix; rows whose room was cut off. -/
namespace Go.Proofs.Ytiggbgmnibndoaa
open Go.RowKit Go.Lk
set_option linter.unusedVariables false
set_option linter.unusedSimpArgs false
/-- a row of the call's own whose room may be less than its block's -/
def OC (w : World) (base : Nat) (e : TypeId) (v : Value) (n : Nat) (xs : List Value) : Prop :=
  xs.length = n ∧ ((v = .slice none 0 0 ∧ n = 0) ∨ ∃ g cap cur, v = .slice (some ⟨g, 0, none⟩) n cap ∧ base ≤ g ∧ w.heap[g]? = some (.cells cur e (0, 0)) ∧ n ≤ cap ∧ cap ≤ maxLen ∧ cap ≤ cur.size ∧ cur.toList.take n = xs)
theorem OC.of {w : World} {base e n : Nat} {v : Value} {xs : List Value} (h : w.ownsRow base e 1 v n xs) : OC w base e v n xs := by
  refine ⟨by have := h.1; omega, ?_⟩
  rcases h.2 with h | ⟨g, cap, cur, h1, h2, h3, h4, h5, h6, h7⟩
  · exact .inl h
  · exact .inr ⟨g, cap, cur, h1, h2, h3, h4, h5, by omega, by rw [Nat.mul_one] at h7; exact h7⟩
theorem OC.cut {w : World} {base e n g cap : Nat} {xs : List Value} (h : w.ownsRow base e 1 (.slice (some ⟨g, 0, none⟩) n cap) n xs) : OC w base e (.slice (some ⟨g, 0, none⟩) n n) n xs := by
  refine ⟨by have := h.1; omega, .inr ?_⟩
  rcases h.2 with ⟨h, _⟩ | ⟨g', cap', cur, h1, h2, h3, h4, h5, h6, h7⟩
  · cases h
  · simp only [Value.slice.injEq, Option.some.injEq, Addr.mk.injEq] at h1
    obtain ⟨⟨rfl, _⟩, _, rfl⟩ := h1
    exact ⟨g, n, cur, rfl, h2, h3, Nat.le_refl _, by omega, by omega, by rw [Nat.mul_one] at h7; exact h7⟩
theorem OC.lt {w : World} {base e n : Nat} {v : Value} {xs : List Value} (h : OC w base e v n xs) (k : Nat) (hk : v.ownBlock = some k) : base ≤ k ∧ k < w.heap.size := by
  rcases h.2 with ⟨rfl, _⟩ | ⟨g, cap, cur, rfl, h2, h3, _⟩
  · simp [Value.ownBlock] at hk
  · simp [Value.ownBlock] at hk
    subst hk
    exact ⟨h2, (Array.getElem?_eq_some_iff.1 h3).1⟩
theorem OC.kept {w w' : World} {base e n : Nat} {v : Value} {xs : List Value} (h : OC w base e v n xs) (hk : ∀ b, v.ownBlock = some b → w'.heap[b]? = w.heap[b]?) : OC w' base e v n xs := by
  refine ⟨h.1, ?_⟩
  rcases h.2 with hn | ⟨g, cap, cur, hv, hb, hg, rest⟩
  · exact .inl hn
  · exact .inr ⟨g, cap, cur, hv, hb, by rw [hk g (by rw [hv]; rfl)]; exact hg, rest⟩
theorem OC.below {w w' : World} {base e n : Nat} {v : Value} {xs : List Value} (h : OC w base e v n xs) (hb : Below w.heap.size w w') : OC w' base e v n xs := h.kept (fun b hb' => hb.block b (h.lt b hb').2)
theorem OC.cellAt {w : World} {base e n g cap : Nat} {xs : List Value} (h : OC w base e (.slice (some ⟨g, 0, none⟩) n cap) n xs) (k : Nat) (hk : k < n) : w.cell? ⟨g, k, none⟩ = xs[k]? := by
  rcases h.2 with ⟨h', _⟩ | ⟨g', cap', cur, h1, h2, h3, h4, h5, h6, h7⟩
  · cases h'
  · simp only [Value.slice.injEq, Option.some.injEq, Addr.mk.injEq] at h1
    obtain ⟨⟨rfl, _⟩, _, rfl⟩ := h1
    rw [Joins.cell_of_block h3 k, ← h7, List.getElem?_take_of_lt hk, Array.getElem?_toList]
theorem OC.text {w : World} {base n : Nat} {v : Value} {l : List Int} (h : OC w base 3 v n (I64 l)) (hn : n ≤ 35184372088832) : ∃ ad cap, v = .slice ad n cap ∧ TextAt w.heap.size w ad n l := by
  have hl : n = l.length := by have := h.1; simpa [I64] using this.symm
  rcases h.2 with ⟨rfl, h0⟩ | ⟨g, cap, cur, rfl, h2, h3, h4, h5, h6, h7⟩
  · exact ⟨none, 0, by rw [h0], hl, hn, .inl h0⟩
  · refine ⟨_, cap, rfl, hl, hn, .inr ⟨g, 0, rfl, (Array.getElem?_eq_some_iff.1 h3).1, fun k hk => ?_⟩⟩
    rw [Nat.zero_add, h.cellAt k hk]
    simp [I64, List.getD_eq_getElem?_getD, show k < l.length by omega]
/-- the row of any program, whether it may be or not -/
def preP (l : List In) (s k : Int) : List Int × Bool := if mayB l s k = true then rowP l s.toNat else ([], false)
set_option maxRecDepth 100000 in
set_option maxHeartbeats 4000000 in
theorem prefix11 {w : World} {ad : Option Addr} {n c : Nat} {s k : Int} {l : List In} (hP : PI w w.heap.size ad n l) : Calls Try.prog 11 #[pv ad n c s k] w fun e w' => ∃ v, e = .returned (.tuple #[v, .bool (preP l s k).2]) ∧ OC w' w.heap.size 3 v (preP l s k).1.length (I64 (preP l s k).1) ∧ Below w.heap.size w w' := by
  have hb := Joins.below_alloc1 w (.cells #[.slice ad n c, .int .i64 s, .int .i64 k] 27)
  obtain ⟨U, hU⟩ : ∃ U, U = w.alloc (.cells #[.slice ad n c, .int .i64 s, .int .i64 k] 27) := ⟨_, rfl⟩
  rw [← hU] at hb
  have hX : U.heap[w.heap.size]? = some (.cells #[.slice ad n c, .int .i64 s, .int .i64 k] 27 (0, 0)) := by rw [hU]; exact heap_alloc_new w _
  have hPU := hP.kept hb hb.size
  have hck := check10 (c := c) (s := s) (k := k) hPU
  obtain ⟨x, hx⟩ : ∃ x, x = w.heap.size := ⟨_, rfl⟩
  have HB := hid hb
  rw [← hx] at hX HB ⊢
  have hxl : x < U.heap.size := (Array.getElem?_eq_some_iff.1 hX).1
  obtain ⟨c0, c1, c2⟩ := three_cells hX
  have HX := hid hX
  have HPU := hid hPU
  cases hm : mayB l s k
  · rw [hm] at hck
    simp only [Bool.false_eq_true, if_false] at hck
    have HCK := hid hck
    have hpre : preP l s k = ([], false) := by unfold preP; rw [hm]; rfl
    rw [hpre]
    clear hck hb hPU hP hX hm hpre
    go_enter Try.func11, Try.ntmps11
    go_upto_region 1 with fail
    rw [← hU, ← hx]
    clear hU hx
    go_wp2_with (go_at_call 27; (with_reducible refine HCK.out.mono ?_); rintro e w2 ⟨rfl, hb2⟩; have HB2 := hid hb2; clear hb2)
    go_ret2
    refine ⟨.slice none 0 0, rfl, OC.of (World.ownsRow_nil _ _ _ _), HB.out.trans (Joins.below_le HB2.out (by omega))⟩
  · rw [hm] at hck
    simp only [if_true] at hck
    have HCK := hid hck
    have hpre : preP l s k = rowP l s.toNat := by unfold preP; rw [if_pos hm]
    rw [hpre]
    have HRO : Hid (∀ W, Below U.heap.size U W → Calls Try.prog 28 #[pv ad n c s k] W fun e w' => ∃ v, e = .returned (.tuple #[v, .bool (rowP l s.toNat).2]) ∧ w'.ownsRow W.heap.size 3 1 v (rowP l s.toNat).1.length (I64 (rowP l s.toNat).1) ∧ Below W.heap.size W w') := fun W hW => rowOf28 (hPU.kept hW hW.size) hm
    generalize (rowP l s.toNat).1.length = rn at HRO ⊢
    generalize (rowP l s.toNat).1 = rl at HRO ⊢
    generalize (rowP l s.toNat).2 = rb at HRO ⊢
    clear hck hb hPU hP hX hm hpre
    go_enter Try.func11, Try.ntmps11
    go_upto_region 1 with fail
    rw [← hU, ← hx]
    clear hU hx
    go_upto_region 3 with (go_at_call 27; (with_reducible refine HCK.out.mono ?_); rintro e w2 ⟨rfl, hb2⟩; obtain ⟨c0, c1, c2⟩ := three_cells ((hb2.block x hxl).trans HX.out); have HB2 := hid hb2; clear hb2)
    go_upto_region 4 with (go_at_call 28; (with_reducible refine (HRO.out w2 HB2.out).mono ?_); rintro e w3 ⟨v, rfl, hv, hb3⟩; have HV := hid hv; have HB3 := hid hb3; clear hv hb3)
    have hall : Below x w w3 := HB.out.trans (Joins.below_le (HB2.out.trans (Joins.below_le HB3.out HB2.out.size)) (by omega))
    have HALL := hid hall
    have h2x : x ≤ w2.heap.size := by have := HB2.out.size; omega
    rcases Joins.ownsRow_forms HV.out with ⟨rfl, h0⟩ | ⟨g, cap, rfl⟩
    · go_wp2
      go_ret2
      subst h0
      refine ⟨.slice none 0 0, rfl, OC.of ⟨HV.out.1, .inl ⟨rfl, rfl⟩⟩, HALL.out⟩
    · obtain ⟨hle, hcm⟩ : rn ≤ cap ∧ cap ≤ maxLen := by
        obtain ⟨_, c', e, h1, h2⟩ := row_shape HV.out
        simp only [Value.slice.injEq] at e
        obtain ⟨_, _, rfl⟩ := e
        exact ⟨h1, h2⟩
      have q1 : (0 : Int) ≤ (rn : Int) := by omega
      have q2 : (rn : Int) ≤ (cap : Int) := by omega
      clear hcm
      go_wp2
      go_ret2
      have hoc := OC.cut HV.out
      exact ⟨.slice (some ⟨g, 0, none⟩) rn rn, rfl, ⟨hoc.1, .inr (by
        rcases hoc.2 with ⟨h, _⟩ | ⟨g', cap', cur, h1, h2, h3⟩
        · cases h
        · exact ⟨g', cap', cur, h1, by omega, h3⟩)⟩, HALL.out⟩
end Go.Proofs.Ytiggbgmnibndoaa
/- HELPERS: awake; the law LiteralNames. -/
namespace Go.Proofs.Ytiggbgmnibndoaa
open Go.RowKit Go.Lk Kmp
set_option linter.unusedVariables false
set_option linter.unusedSimpArgs false
theorem pre4 : preP L4 0 2 = ([97], true) := by kernel_rfl
theorem lit_text (w : World) (l : List Int) (hl : l.length ≤ 100) : TextAt (w.alloc (.cells (I64 l).toArray 3)).heap.size (w.alloc (.cells (I64 l).toArray 3)) (some ⟨w.heap.size, 0, none⟩) l.length l := by
  have hn : (w.alloc (.cells (I64 l).toArray 3)).heap[w.heap.size]? = some (.cells (I64 l).toArray 3 (0, 0)) := heap_alloc_new w _
  refine ⟨rfl, by omega, .inr ⟨w.heap.size, 0, rfl, (Array.getElem?_eq_some_iff.1 hn).1, fun k hk => ?_⟩⟩
  rw [Joins.cell_of_block hn]
  simp [I64, List.getD_eq_getElem?_getD, hk]
theorem own_lower {w : World} {base base' e size n : Nat} {v : Value} {xs : List Value} (h : w.ownsRow base e size v n xs) (hb : base' ≤ base) : w.ownsRow base' e size v n xs := by
  refine ⟨h.1, ?_⟩
  rcases h.2 with h | ⟨g', cap, cur, b1, b2, b3⟩
  · exact .inl h
  · exact .inr ⟨g', cap, cur, b1, by omega, b3⟩
theorem FN.lower {w : World} {B B' f : Nat} {lit : List Int} (h : FN w B f lit) (hb : B' ≤ B) : FN w B' f lit := by
  obtain ⟨⟨g, h', bs, a1, a2, a3, a4⟩, h5, h6⟩ := h
  exact ⟨⟨g, h', bs, a1, own_lower a2 hb, own_lower a3 hb, a4⟩, h5, by omega⟩
theorem aw_new (w : World) : Calls Try.prog 19 #[.slice (some ⟨w.heap.size, 0, none⟩) 2 2] (w.alloc (.cells #[.int .i64 97, .int .i64 98] 3)) fun e w' => ∃ f, e = .returned (.tuple #[.pointer (some ⟨f, 0, none⟩), .int .i64 0]) ∧ FN w' w.heap.size f [97, 98] ∧ Below w.heap.size w w' := by
  have hb := Joins.below_alloc1 w (.cells #[.int .i64 97, .int .i64 98] 3)
  refine (new19_ok (c := 2) (lit_text w [97, 98] (by decide)) (by decide)).mono ?_
  rintro e w' ⟨f, h1, h2, h3⟩
  exact ⟨f, h1, h2.lower (by simp), hb.trans (Joins.below_le h3 hb.size)⟩
theorem st_no : ¬ Stands [97, 98] [97, 98, 97, 98] 1 := fun h => by
  obtain ⟨t, ht⟩ := h.2
  simp at ht
theorem aw_is : NextIs [97, 98] [97, 98, 97, 98] 1 2 := .inr ⟨1, rfl, by decide, .inr ⟨2, rfl, by decide, ⟨by decide, ⟨[], by simp⟩⟩, fun i h1 h2 => by
  have : i = 1 := by omega
  subst this
  exact st_no⟩⟩
theorem aw_next {w : World} {B f : Nat} (h : FN w B f [97, 98]) : Calls Try.prog 22 #[.pointer (some ⟨f, 0, none⟩), .slice (some ⟨w.heap.size, 0, none⟩) 4 4, .int .i64 1] (w.alloc (.cells #[.int .i64 97, .int .i64 98, .int .i64 97, .int .i64 98] 3)) fun e w' => e = .returned (.int .i64 2) ∧ Below w.heap.size w w' := by
  have hb := Joins.below_alloc1 w (.cells #[.int .i64 97, .int .i64 98, .int .i64 97, .int .i64 98] 3)
  refine (next22 (tc := 4) (a := 1) (h.kept hb) (lit_text w [97, 98, 97, 98] (by decide))).mono ?_
  rintro e w' ⟨r, rfl, hr, rfl⟩
  exact ⟨by rw [hr.eq aw_is], hb⟩
set_option maxRecDepth 100000 in
set_option maxHeartbeats 8000000 in
theorem awake8 (w : World) : Calls Try.prog 8 #[] w fun e w' => e = .returned (.bool true) ∧ Below w.heap.size w w' := by
  have HL := hid (letter20 w)
  have HPRE : Hid (∀ W g, PI W W.heap.size (some ⟨g, 0, none⟩) 4 L4 → Calls Try.prog 11 #[pv (some ⟨g, 0, none⟩) 4 4 0 2] W fun e w' => ∃ z q, e = .returned (.tuple #[.slice (some ⟨z, 0, none⟩) 1 q, .bool true]) ∧ w'.cell? ⟨z, 0, none⟩ = some (.int .i64 97) ∧ z < w'.heap.size ∧ Below W.heap.size W w') := fun W g hP => by
    have h := prefix11 (c := 4) (s := 0) (k := 2) hP
    rw [pre4] at h
    refine h.mono ?_
    rintro e w' ⟨v, rfl, hv, hb⟩
    rcases hv.2 with ⟨_, h0⟩ | ⟨z, q, cur, rfl, _⟩
    · simp at h0
    · exact ⟨z, q, rfl, by rw [hv.cellAt 0 (by decide)]; rfl, (hv.lt z rfl).2, hb⟩
  go_enter Try.func8, Try.ntmps8
  go_upto_region 2 with (first | (go_at_call 26; (with_reducible refine HL.out.mono ?_); rintro e w2 ⟨g, rfl, hp, hb⟩; have HB := hid hb; have HR := hid (HPRE.out w2 g hp); clear hp hb HL) | (go_at_call 11; (with_reducible refine HR.out.mono ?_); rintro e w3 ⟨z, q, rfl, q0, hq, hb3⟩; have HB3 := hid hb3; have HQ0 := hid q0; clear hb3 HR q0))
  have HN := hid (aw_new w3)
  go_upto_region 3 with (go_at_call 19; (with_reducible refine HN.out.mono ?_); rintro e w4 ⟨f, rfl, hf, hb4⟩; have HB4 := hid hb4; have HX := hid (aw_next hf); have c0 := (hb4.cell (p := ⟨z, 0, none⟩) hq).trans HQ0.out; clear hb4 hf HN)
  go_wp2_with (go_at_call 22; (with_reducible refine HX.out.mono ?_); rintro e w5 ⟨rfl, hb5⟩; have HB5 := hid hb5; clear hb5 HX)
  all_goals go_ret
  all_goals refine ⟨rfl, HB.out.trans (Joins.below_le ?_ HB.out.size)⟩
  all_goals exact HB3.out.trans (Joins.below_le (HB4.out.trans (Joins.below_le HB5.out HB4.out.size)) HB3.out.size)
theorem num9 (x : Int) (w : World) : Calls Try.prog 9 #[.int .i64 x] w fun e w' => e = .returned (.int .i64 x) ∧ w' = w := by
  go_enter Try.func9, Try.ntmps9
  go_wp2
  all_goals go_ret
  all_goals exact ⟨rfl, rfl⟩
set_option maxRecDepth 100000 in
set_option maxHeartbeats 4000000 in
theorem names3 (w : World) : Calls Try.prog 3 #[] w fun e w' => e = .returned (.bool true) ∧ Below w.heap.size w w' := by
  have HA := awake8 w
  have H1 := fun W => num9 0 W
  have H2 := fun W => num9 2 W
  go_enter Try.func3, Try.ntmps3
  go_wp2_with (first | (go_at_call 8; (with_reducible refine HA.mono ?_); rintro e w2 ⟨rfl, hb⟩; have HB := hid hb; clear hb HA) | (go_at_call 9; (first | (with_reducible refine (H1 _).mono ?_) | (with_reducible refine (H2 _).mono ?_)); rintro e w3 ⟨rfl, hw⟩; have hw' := hw.symm; clear hw; subst hw'))
  all_goals go_ret
  all_goals exact ⟨rfl, HB.out⟩
end Go.Proofs.Ytiggbgmnibndoaa
/- HELPERS: texts appended; the places of a row in a text. -/
namespace Go.Proofs.Ytiggbgmnibndoaa
open Go.RowKit Go.Lk Kmp
set_option linter.unusedVariables false
set_option linter.unusedSimpArgs false
theorem below_app {w w' : World} {base e n : Nat} {v : Value} {xs : List Value} (h : w.ownsRow base e 1 v n xs) (hb : base ≤ w.heap.size) (hg : w.grownBy w' v.ownBlock) : Below base w w' :=
  ⟨hg.os, hg.tape, hg.output, hg.size, fun k hk => hg.block k (by omega) (fun e => by have := (h.lt k e.symm).1; omega)⟩
theorem wpList_append_txt {ops : Array Oper} {rest : List Oper} {o : Oper} {a : Act} {w : World} {Q : Exit → Act → World → Prop} (hgd : o.guard = none) (s x : Operand)
    (ho : o.op = .call { callee := .builtin .append, args := #[s, x], argTypes := #[29, 29] }) (base : Nat) (v : Value) (n : Nat) (xs : List Int) (hs : a.eval s = v) (hown : w.ownsRow base 3 1 v n (I64 xs))
    (ad : Option Addr) (m c N : Nat) (l : List Int) (hx : a.eval x = .slice ad m c) (hT : TextAt N w ad m l) (hnil : ad = none → c = 0) (hb : n + m ≤ 17600000000000) (hbase : base ≤ w.heap.size) (w0 : World) (hB : Below base w0 w)
    (h : ∀ v' w', Hid (w'.ownsRow base 3 1 v' (n + m) (I64 (xs ++ l))) → Hid (Below base w0 w') → wpList Try.prog ops Q rest (a.put o.dst v') w') : wpList Try.prog ops Q (o :: rest) a w := by
  obtain ⟨i0, hi, hz0, hz1, hz2⟩ := info_parts info3
  obtain ⟨hl, hm, hc⟩ := hT
  cases ad with
  | none =>
    have hm0 : m = 0 := by
      rcases hc with h0 | ⟨b, off, h0, _⟩
      · exact h0
      · cases h0
    have hl0 : l = [] := List.eq_nil_of_length_eq_zero (by omega)
    have hc0 := hnil rfl
    subst hm0 hl0 hc0
    refine wpList_append_own_none hgd s x 29 ho base 3 i0 1 Try.underlying29 hi v n _ hs hown hx ?_
    refine h v w ?_ hB
    show w.ownsRow base 3 1 v (n + 0) (I64 (xs ++ []))
    rw [List.append_nil]
    exact hown
  | some ad =>
    have hcell : ∀ j u, (I64 l)[j]? = some u → w.cell? (ad.add j) = some u := by
      intro j u hj
      have hjl : j < l.length := by
        have := (List.getElem?_eq_some_iff.1 hj).1
        simpa using this
      rcases hc with h0 | ⟨b, off, h0, hbN, hc⟩
      · omega
      · simp only [Option.some.injEq] at h0
        subst h0
        have e : (⟨b, off, none⟩ : Addr).add j = ⟨b, off + j, none⟩ := by unfold Addr.add; split <;> simp_all
        rw [e, hc j (by omega), ← hj]
        simp [hjl]
    refine wpList_append_own_wide w hgd s x 29 ho base 3 i0 (.int .i64 0) 1 8 Try.underlying29 hi hz0 hz1 hz2 rfl (by decide) v n _ hs hown ad m c (I64 l) hx (by simp; omega) hcell (one_cell_ints l) (by unfold maxLen; omega) (by omega) hbase ?_
    intro v' w' ho' hg' _
    refine h v' w' ?_ (hB.trans (below_app hown hbase hg'))
    show w'.ownsRow base 3 1 v' (n + m) (I64 (xs ++ l))
    rw [show I64 (xs ++ l) = I64 xs ++ I64 l from List.map_append]
    exact ho'
/-- a text that came in -/
structure TA (W : World) (ad : Option Addr) (n c : Nat) (l : List Int) : Prop where
  tx : TextAt W.heap.size W ad n l
  sm : n ≤ 17592186043904
  le : n ≤ c
  cm : c ≤ maxLen
  nil : ad = none → c = 0
theorem stands_of {lit tx : List Int} {i : Nat} (h : i + lit.length ≤ tx.length) (he : ∀ j, j < lit.length → tx.getD (i + j) 0 = lit.getD j 0) : Stands lit tx i := by
  refine ⟨h, List.prefix_iff_eq_take.2 ?_⟩
  refine List.ext_getElem (by simp; omega) fun j h1 h2 => ?_
  have h3 := he j h1
  simp [List.getD_eq_getElem?_getD, h1, show i + j < tx.length by omega] at h3
  simp [h3]
theorem stands_at {lit tx : List Int} {i j : Nat} (h : Stands lit tx i) (hj : j < lit.length) : tx.getD (i + j) 0 = lit.getD j 0 := by
  obtain ⟨h1, t, ht⟩ := h
  have e1 : (tx.drop i)[j]? = lit[j]? := by rw [← ht, List.getElem?_append_left hj]
  rw [List.getElem?_drop] at e1
  rw [List.getD_eq_getElem?_getD, List.getD_eq_getElem?_getD, e1]
theorem stands_put (lit tx : List Int) (k : Nat) (hk : k ≤ tx.length) : Stands lit (tx.take k ++ lit ++ tx.drop k) k := by
  refine ⟨by simp; omega, ?_⟩
  rw [List.append_assoc, List.drop_append_of_le_length (by simp; omega), List.drop_of_length_le (by simp; omega), List.nil_append]
  exact List.prefix_append _ _
/-- no place from f up to i -/
def NoSt (lit tx : List Int) (f i : Nat) : Prop := ∀ j, f ≤ j → j < i → ¬ Stands lit tx j
theorem NoSt.first {lit tx : List Int} {f i : Nat} {r : Int} (h : NoSt lit tx f i) (hs : Stands lit tx i) (hf : f ≤ i) (hr : NextIs lit tx f r) : r = i := by
  have := hs.1
  exact hr.eq (.inr ⟨f, rfl, by omega, .inr ⟨i, rfl, hf, hs, h⟩⟩)
theorem NoSt.none {lit tx : List Int} {f i : Nat} {r : Int} (h : NoSt lit tx f i) (hi : tx.length < i) (hf : f ≤ tx.length) (hr : NextIs lit tx f r) : r = -1 :=
  hr.eq (.inr ⟨f, rfl, hf, .inl ⟨rfl, fun j hj hs => h j hj (by have := hs.1; omega) hs⟩⟩)
theorem next_put {lit tx : List Int} {k : Nat} {r : Int} (hk : k ≤ tx.length) (hr : NextIs lit (tx.take k ++ lit ++ tx.drop k) 0 r) : 0 ≤ r ∧ r ≤ k := by
  rcases hr with ⟨h | h, _⟩ | ⟨a, e, ha, ⟨_, h⟩ | ⟨p, rfl, h1, h2, h3⟩⟩
  · omega
  · omega
  · have : a = 0 := by omega
    subst this
    exact absurd (stands_put lit tx k hk) (h k (Nat.zero_le _))
  · have : a = 0 := by omega
    subst this
    refine ⟨by omega, ?_⟩
    by_cases h4 : k < p
    · exact absurd (stands_put lit tx k hk) (h3 k (Nat.zero_le _) h4)
    · omega
end Go.Proofs.Ytiggbgmnibndoaa
/- HELPERS: texts and numbers that come in as arguments. -/
namespace Go.Proofs.Ytiggbgmnibndoaa
open Go.ChangeShapes Go.WideShapes Go.ChangeAt Go.RowKit Go.Deep
set_option linter.unusedVariables false
set_option linter.unusedSimpArgs false
theorem ownB : ownKnob Try.prog.godebug = none := by kernel_rfl
theorem laidOut : laidOutB Try.prog = true := by kernel_rfl
theorem bytesOf3 : Try.prog.bytesOf 3 = 8 := by kernel_rfl
theorem int_range {x : Int} (h : (Lit.int .i64 x).wf = true) : -9223372036854775808 ≤ x ∧ x < 9223372036854775808 := by
  have h2 := i64ok h
  unfold I64ok at h2
  omega
theorem open_ta {H : Type} {enc : TypeId × Value → H} {W : World} {base fuel : Nat} {cs : List Value} {x : DataW H × List MemPlace} (h : DataW.trod enc Try.prog W base (fun _ => true) true fuel 29 cs = some x) (hw : ∀ n ∈ x.1.weights Try.prog 29, n ≤ reachBytes) :
    ∃ (l : List Int) (ad : Option Addr) (n cap : Nat), cs = [.slice ad n cap] ∧ TA W ad n cap l := by
  rcases open_ints Try.underlying29 Try.underlying3 cells3a h with ⟨hcs, hx⟩ | ⟨a, len', cap', zs, hcs, _, hl, hm, hz, hx, hcell, hwz⟩
  · exact ⟨[], none, 0, 0, hcs, ⟨rfl, by omega, .inl rfl⟩, by omega, Nat.le_refl _, by simp [maxLen], fun _ => rfl⟩
  · simp only [if_true] at hz
    subst hx
    have hs := hw (((lits (H := H) .i64 (zs.take len')).length + (lits (H := H) .i64 (zs.drop len')).length) * Try.prog.bytesOf 3) (by simp [DataW.weights, Try.underlying29, lits])
    rw [bytesOf3, reach_eq] at hs
    simp only [lits, List.length_map, List.length_take, List.length_drop] at hs
    have htl : (zs.take len').length = len' := by rw [List.length_take]; omega
    refine ⟨zs.take len', some a, len', cap', hcs, ⟨htl.symm, by omega, ?_⟩, by omega, hl, hm, fun h => by cases h⟩
    rcases Nat.eq_zero_or_pos len' with h0 | h0
    · exact .inl h0
    · right
      obtain ⟨b, off, rfl, hc⟩ := ints_at hcell (by omega)
      refine ⟨b, off, rfl, lt_of_cell (hc 0 (by omega)), fun k hk => ?_⟩
      have hk' : k < zs.length := by omega
      rw [hc k hk']
      simp [List.getD_eq_getElem?_getD, List.getElem?_take_of_lt hk, List.getElem?_eq_getElem hk']
theorem text_arg {H : Type} {enc : TypeId × Value → H} {W : World} {base : Nat} {v : Value} {d : DataW H} {p : List MemPlace} (hok : Value.okWide Try.prog W .any base 29 v)
    (h0 : DataW.Trod enc Try.prog W 0 (fun _ => true) true 29 v d p) (hsz : ∀ n ∈ d.weights Try.prog 29, n ≤ reachBytes) :
    ∃ (l : List Int) (ad : Option Addr) (n cap : Nat), v = .slice ad n cap ∧ TA W ad n cap l := by
  obtain ⟨a0, len, cap, rfl⟩ := okWide_slice Try.underlying29 hok
  obtain ⟨fuel, hf⟩ := h0
  obtain ⟨l, ad, n, c, e, h⟩ := open_ta hf hsz
  simp [Value.cells] at e
  obtain ⟨rfl, rfl, rfl⟩ := e
  exact ⟨l, _, _, _, rfl, h⟩
end Go.Proofs.Ytiggbgmnibndoaa
/- HELPERS: the document's Finder. -/
namespace Go.Proofs.Ytiggbgmnibndoaa
open Go.RowKit Go.Lk Kmp
set_option linter.unusedVariables false
set_option linter.unusedSimpArgs false
/-- the document's Finder -/
structure RN (w : World) (B f : Nat) (lit : List Int) : Prop where
  ex : ∃ v, w.heap[f]? = some (.cells #[v] 67 (0, 0)) ∧ w.ownsRow B 3 1 v lit.length (I64 lit)
  small : lit.length ≤ 4194304
  low : B ≤ f
theorem RN.kept {w w' : World} {B f : Nat} {lit : List Int} (h : RN w B f lit) (hb : Below w.heap.size w w') : RN w' B f lit := by
  obtain ⟨⟨v, h1, h2⟩, h3, h4⟩ := h
  exact ⟨⟨v, (hb.block f (Array.getElem?_eq_some_iff.1 h1).1).trans h1, row_kept h2 (fun b hb' => hb.block b (h2.lt b hb').2)⟩, h3, h4⟩
theorem rnew21_long {w : World} {ad : Option Addr} {n c : Nat} (h : 4194304 < n) : Calls Try.prog 21 #[.slice ad n c] w fun e w' => e = .returned (.tuple #[.pointer none, .int .i64 2]) ∧ w' = w := by
  have q1 : decide ((4194304 : Int) < (n : Int)) = true := by simp; omega
  go_enter Try.func21, Try.ntmps21
  go_wp2
  go_ret2
  exact ⟨rfl, rfl⟩
set_option maxRecDepth 100000 in
set_option maxHeartbeats 4000000 in
theorem rnew21_ok {w : World} {ad : Option Addr} {n c : Nat} {lit : List Int} (hT : TA w ad n c lit) (h : n ≤ 4194304) : Calls Try.prog 21 #[.slice ad n c] w fun e w' => ∃ f, e = .returned (.tuple #[.pointer (some ⟨f, 0, none⟩), .int .i64 0]) ∧ RN w' w.heap.size f lit ∧ Below w.heap.size w w' := by
  have q1 : decide ((4194304 : Int) < (n : Int)) = false := by simp; omega
  have q2 : ¬ (4194304 : Int) < (n : Int) := by omega
  have HT := hid hT
  clear hT
  go_enter Try.func21, Try.ntmps21
  go_upto_region 3 with fail
  have hb0 := Joins.below_alloc1 w (.cells #[] 3)
  have HO : Hid ((w.alloc (.cells #[] 3)).ownsRow w.heap.size 3 1 (.slice (some ⟨w.heap.size, 0, none⟩) 0 0) 0 (I64 [])) := World.ownsRow_lit (base := w.heap.size) (e := 3) (size := 1) w #[] 0 (Nat.le_refl _) (by unfold maxLen; omega) rfl
  have HT2 : Hid (TextAt (w.alloc (.cells #[] 3)).heap.size (w.alloc (.cells #[] 3)) ad n lit) := (HT.out.tx.below hb0).mono hb0.size
  have HNIL := hid HT.out.nil
  have HB0 := hid hb0
  clear hb0
  go_wp2_with (at_builtin; refine wpList_append_txt rfl (.tmp 7) (.tmp 8) rfl w.heap.size (.slice (some ⟨w.heap.size, 0, none⟩) 0 0) 0 [] rfl HO.out ad n c _ lit rfl HT2.out HNIL.out (by omega) HB0.out.size w HB0.out ?_; intro v5 w5 ho5 hb5; obtain ⟨a5, c5, e5, -, -⟩ := row_shape ho5.out; subst e5)
  go_ret2
  have hrow := ho5.out
  rw [Nat.zero_add, List.nil_append] at hrow
  have hl := HT.out.tx.1
  subst hl
  refine ⟨w5.heap.size, rfl, ⟨⟨_, heap_alloc_new w5 _, hrow.alloc _⟩, h, hb5.out.size⟩, hb5.out.trans (Joins.below_le (Joins.below_alloc1 _ _) hb5.out.size)⟩
set_option maxRecDepth 100000 in
set_option maxHeartbeats 4000000 in
theorem rstands31 {w : World} {B f tn tc i : Nat} {tad : Option Addr} {lit tx : List Int} (hF : RN w B f lit) (hT : TextAt w.heap.size w tad tn tx) (hi : i ≤ tn) : Calls Try.prog 31 #[.pointer (some ⟨f, 0, none⟩), .slice tad tn tc, .int .i64 (i : Int)] w fun e w' => ∃ b, e = .returned (.bool b) ∧ (b = true ↔ Stands lit tx i) ∧ Eqw w w' := by
  obtain ⟨⟨v, hf, hrow⟩, h4, _⟩ := hF
  obtain ⟨n, hn⟩ : ∃ n, n = lit.length := ⟨_, rfl⟩
  rw [← hn] at hrow h4
  obtain ⟨la, lc, rfl, hL⟩ := (OC.of hrow).text (by omega)
  have c0 := Joins.cell_of_block hf 0
  simp at c0
  have HF := hid hf
  have HL := hid hL
  have HT := hid hT
  have HN := hid hn
  have HTL := hid hT.1
  have htm := hT.2.1
  clear hf hL hT hn hrow
  have s1 : IntKind.i64.wrap ((tn : Int) - (i : Int)) = (tn : Int) - (i : Int) := by simp [IntKind.wrap, IntKind.bits, IntKind.signed]; omega
  by_cases hle : n ≤ tn - i
  · have q1 : decide ((tn : Int) - (i : Int) < (n : Int)) = false := by simp; omega
    have q2 : ¬ (tn : Int) - (i : Int) < (n : Int) := by omega
    go_enter Try.func31, Try.ntmps31
    go_wp2_with fail
    go_loopw [7] (fun v7 wr => ∃ k : Nat, v7 = .int .i64 (k : Int) ∧ k ≤ n ∧ Hid (∀ j, j < k → tx.getD (i + j) 0 = lit.getD j 0) ∧ Hid (Eqw w wr)) (fun v7 _ => n - (intOf v7).toNat)
    case atStart => exact ⟨0, rfl, by omega, fun j hj => by omega, ⟨rfl, rfl, rfl, rfl⟩⟩
    case round =>
      obtain ⟨k, rfl, hk, HEQ, HE⟩ := hrel
      have c0' := (cell_eq (HE.out.blk f) 0).trans c0
      by_cases hkl : k < n
      · have b1 : decide ((k : Int) < (n : Int)) = true := by simp; omega
        have b2 : (k : Int) < (n : Int) := by omega
        obtain ⟨-, -, h0 | ⟨tb, tof, rfl, htb, hc⟩⟩ := HT.out
        · omega
        · obtain ⟨-, -, h0 | ⟨lb, lof, rfl, hlb, hd⟩⟩ := HL.out
          · omega
          · have d1 : wr.cell? ⟨tb, tof + (i + k), none⟩ = some (.int .i64 (tx.getD (i + k) 0)) := (cell_eq (HE.out.blk tb) _).trans (hc (i + k) (by omega))
            have d2 : wr.cell? ⟨lb, lof + k, none⟩ = some (.int .i64 (lit.getD k 0)) := (cell_eq (HE.out.blk lb) _).trans (hd k hkl)
            obtain ⟨x, hx⟩ : ∃ x, x = tx.getD (i + k) 0 := ⟨_, rfl⟩
            obtain ⟨y, hy⟩ : ∃ y, y = lit.getD k 0 := ⟨_, rfl⟩
            rw [← hx] at d1
            rw [← hy] at d2
            have HX := hid hx
            have HY := hid hy
            have ad2 : IntKind.i64.wrap ((k : Int) + 1) = (k : Int) + 1 := by simp [IntKind.wrap, IntKind.bits, IntKind.signed]; omega
            have ad3 : IntKind.i64.wrap ((i : Int) + (k : Int)) = (i : Int) + (k : Int) := by simp [IntKind.wrap, IntKind.bits, IntKind.signed]; omega
            have ad4 : ((i : Int) + (k : Int)).toNat = i + k := by omega
            have ad5 : (i : Int) + (k : Int) < (tn : Int) := by omega
            have ad6 : (0 : Int) ≤ (i : Int) + (k : Int) := by omega
            clear hx hy hc hd c0
            by_cases hxy : x = y
            · have x1 : (x != y) = false := by simp [hxy]
              have HXY := hid hxy
              clear hxy
              go_wp2
              go_quiet (fail)
              go_wp2
              refine ⟨⟨k + 1, by push_cast; rfl, by omega, fun j hj => ?_, HE.out.trans (Eqw.drewN _ _)⟩, by simp [intOf]; omega⟩
              by_cases e : j = k
              · subst e
                rw [← HX.out, ← HY.out]
                exact HXY.out
              · exact HEQ.out j (by omega)
            · have x1 : (x != y) = true := by simp [hxy]
              have HXY := hid hxy
              clear hxy
              go_wp2
              go_quiet (fail)
              go_wp2
              go_ret
              refine ⟨false, rfl, ⟨fun h => (by cases h), fun hst => ?_⟩, HE.out.trans (Eqw.drewN _ _)⟩
              have h2 := stands_at hst (j := k) (by rw [← HN.out]; exact hkl)
              rw [← HX.out, ← HY.out] at h2
              exact absurd h2 HXY.out
      · have hkn : k = n := by omega
        have b1 : decide ((k : Int) < (n : Int)) = false := by simp; omega
        have HST : Hid (Stands lit tx i) := stands_of (by rw [← HN.out, ← HTL.out]; omega) (fun j hj => HEQ.out j (by rw [hkn, HN.out]; exact hj))
        clear hkn
        go_wp2
        go_ret
        exact ⟨true, rfl, ⟨fun _ => HST.out, fun _ => rfl⟩, HE.out⟩
  · have q1 : decide ((tn : Int) - (i : Int) < (n : Int)) = true := by simp; omega
    have q2 : (tn : Int) - (i : Int) < (n : Int) := by omega
    go_enter Try.func31, Try.ntmps31
    go_wp2
    go_ret
    refine ⟨false, rfl, ⟨fun h => (by cases h), fun hst => ?_⟩, ⟨rfl, rfl, rfl, rfl⟩⟩
    have := hst.1
    rw [← HN.out, ← HTL.out] at this
    omega
theorem rnext23_out {w : World} {f n c : Nat} {tad : Option Addr} {a : Int} (h : a < 0 ∨ (n : Int) < a) : Calls Try.prog 23 #[.pointer (some ⟨f, 0, none⟩), .slice tad n c, .int .i64 a] w fun e w' => e = .returned (.int .i64 (-1)) ∧ w' = w := by
  by_cases h0 : a < 0
  · go_enter Try.func23, Try.ntmps23
    go_wp2
    go_ret
    exact ⟨rfl, rfl⟩
  · have h1 : (n : Int) < a := by omega
    go_enter Try.func23, Try.ntmps23
    go_wp2
    go_ret
    exact ⟨rfl, rfl⟩
set_option maxRecDepth 100000 in
set_option maxHeartbeats 4000000 in
theorem rnext23_in {w : World} {B f tn tc a : Nat} {tad : Option Addr} {lit tx : List Int} (hF : RN w B f lit) (hT : TextAt w.heap.size w tad tn tx) (ha : a ≤ tn) : Calls Try.prog 23 #[.pointer (some ⟨f, 0, none⟩), .slice tad tn tc, .int .i64 (a : Int)] w fun e w' => ∃ r : Int, e = .returned (.int .i64 r) ∧ NextIs lit tx a r ∧ Eqw w w' := by
  have HST : Hid (∀ W (i : Nat), Eqw w W → i ≤ tn → Calls Try.prog 31 #[.pointer (some ⟨f, 0, none⟩), .slice tad tn tc, .int .i64 (i : Int)] W fun e w' => ∃ b, e = .returned (.bool b) ∧ (b = true ↔ Stands lit tx i) ∧ Eqw W w') := fun W i hW hi => rstands31 (hF.kept (hW.below _)) (by rw [hW.heap]; exact hT.below (hW.below _)) hi
  have HTL := hid hT.1
  have htm := hT.2.1
  have q1 : ¬ (a : Int) < 0 := by omega
  have q2 : ¬ (tn : Int) < (a : Int) := by omega
  have q3 : decide ((a : Int) < 0) = false := by simp
  have q4 : decide ((tn : Int) < (a : Int)) = false := by simp; omega
  clear hF hT
  go_enter Try.func23, Try.ntmps23
  go_wp2_with fail
  go_loopw [7] (fun v7 wr => ∃ i : Nat, v7 = .int .i64 (i : Int) ∧ a ≤ i ∧ i ≤ tn + 1 ∧ Hid (NoSt lit tx a i) ∧ Hid (Eqw w wr)) (fun v7 _ => tn + 1 - (intOf v7).toNat)
  case atStart => exact ⟨a, rfl, by omega, by omega, fun j h1 h2 => by omega, ⟨rfl, rfl, rfl, rfl⟩⟩
  case round =>
    obtain ⟨i, rfl, hai, hit, HNS, HE⟩ := hrel
    by_cases hin : i ≤ tn
    · have b1 : decide ((i : Int) ≤ (tn : Int)) = true := by simp; omega
      have b2 : (i : Int) ≤ (tn : Int) := by omega
      have ad1 : IntKind.i64.wrap ((i : Int) + 1) = (i : Int) + 1 := by simp [IntKind.wrap, IntKind.bits, IntKind.signed]; omega
      by_cases hs : Stands lit tx i
      · have HS := hid hs
        clear hs
        go_wp2_with (go_at_call 31; (with_reducible refine (HST.out _ i HE.out hin).mono ?_); rintro e w4 ⟨b, rfl, hb, hw⟩; obtain rfl := hb.2 HS.out; have HW := hid hw; clear hw hb)
        go_ret
        exact ⟨i, rfl, .inr ⟨a, rfl, by rw [← HTL.out]; omega, .inr ⟨i, rfl, hai, HS.out, HNS.out⟩⟩, HE.out.trans HW.out⟩
      · have HS := hid hs
        clear hs
        go_wp2_with (go_at_call 31; (with_reducible refine (HST.out _ i HE.out hin).mono ?_); rintro e w4 ⟨b, rfl, hb, hw⟩; obtain rfl : b = false := (by cases b; rfl; exact absurd (hb.1 rfl) HS.out); have HW := hid hw; clear hw hb)
        refine ⟨⟨i + 1, by push_cast; rfl, by omega, by omega, fun j h1 h2 => ?_, HE.out.trans HW.out⟩, by simp [intOf]; omega⟩
        by_cases e : j = i
        · subst e; exact HS.out
        · exact HNS.out j h1 (by omega)
    · have b1 : decide ((i : Int) ≤ (tn : Int)) = false := by simp; omega
      go_wp2
      go_ret
      exact ⟨-1, rfl, .inr ⟨a, rfl, by rw [← HTL.out]; omega, .inl ⟨rfl, fun j hj hs => HNS.out j hj (by have := hs.1; rw [← HTL.out] at this; omega) hs⟩⟩, HE.out⟩
/-- the document's Next of any text, at any place -/
theorem rnext23 {w : World} {B f tn tc : Nat} {tad : Option Addr} {lit tx : List Int} {a : Int} (hF : RN w B f lit) (hT : TextAt w.heap.size w tad tn tx) : Calls Try.prog 23 #[.pointer (some ⟨f, 0, none⟩), .slice tad tn tc, .int .i64 a] w fun e w' => ∃ r : Int, e = .returned (.int .i64 r) ∧ NextIs lit tx a r ∧ Eqw w w' := by
  by_cases h : a < 0 ∨ (tn : Int) < a
  · refine (rnext23_out h).mono fun e w' ⟨h1, h2⟩ => ⟨-1, h1, .inl ⟨by rw [← hT.1]; exact h, rfl⟩, ?_⟩
    rw [h2]
    exact ⟨rfl, rfl, rfl, rfl⟩
  · obtain ⟨A, rfl⟩ := Int.eq_ofNat_of_zero_le (show 0 ≤ a by omega)
    exact rnext23_in hF hT (by omega)
end Go.Proofs.Ytiggbgmnibndoaa
