/- HELPERS: the walk of RunesEncodes: up to the row. -/
import Derived.Test.YtjglehklfdhgaaaDoorEnW
namespace Go.Proofs.YtjglehklfdhgaaaDoor
open Go.RowKit Go.Mx
set_option linter.unusedVariables false
set_option linter.unusedSimpArgs false
theorem own_drew {w : World} {B e m : Nat} {v : Value} {X : List Value} (h : w.ownsRow B e 1 v m X) (q : Nat) : (w.drewN q).ownsRow B e 1 v m X :=
  own_kept h (fun b hb' => (below_drewN (Below.refl w.heap.size w) q).block b (h.lt b hb').2)
set_option maxHeartbeats 4000000 in
set_option maxRecDepth 1000000 in
theorem enc5 (l : List Int) (ad : Option Addr) (n cap : Nat) (w : World) (hn : Hid (l.length = n)) (hl : Hid (IntsAt w.heap.size w (.slice ad n cap) l)) (hT : Hid (Tabs w)) (h2 : 2 ≤ w.heap.size) (hm : n ≤ 17592186043904) :
    Calls Tryd.prog 5 #[.slice ad n cap] w fun e w' => e = .returned (.bool true) ∧ Below w.heap.size w w' := by
  have haw := awake9 w hT h2
  obtain ⟨i0, hi, hz0, hz1, hz2⟩ := info_parts info3
  have hsz1 : (Tryd.prog.info? 3).map (·.size) = some 1 := by rw [hi]; simp [hz1]
  go_enter Tryd.func5, Tryd.ntmps5
  go_wp2_with (first | (go_at_call 9; refine haw.mono ?_; rintro e w0 ⟨rfl, hb0⟩) | (at_make; refine wpList_make_full _ rfl (.tmp 23) (.tmp 23) 29 rfl w0.heap.size 3 i0 (.int .i64 0) 1 Tryd.underlying29 hi hz0 hz1 _ _ _ _ (n + 2) rfl rfl (by omega) (by omega) (by rw [hz2]; omega) (by unfold maxLen; omega) (Nat.le_refl _) ?_))
  clear haw
  have hs0 := hb0.size
  intro w1 hown hgrow
  have hb1 : Below w0.heap.size w0 w1 := (Below.refl _ _).grown hgrow (Nat.le_refl _) (fun k h => by cases h)
  have HG1 : Hid (w1.heap[w0.heap.size]? = some (.cells (I64 (List.replicate (n + 2) 0)).toArray 3 (0, 0))) := by
    rcases hown.2 with ⟨h', _⟩ | ⟨g', cap', cur, h', hbg, hg, hnc, hcm, hcs, htake⟩
    · simp at h'
    · simp only [Value.slice.injEq, Option.some.injEq, Addr.mk.injEq, and_true, true_and] at h'
      obtain ⟨rfl, rfl⟩ := h'
      show w1.heap[w0.heap.size]? = _
      rw [hg]
      congr 2
      have h2 : cur.toList.take ((n + 2) * 1) = cur.toList := List.take_of_length_le (by simp [hcs])
      rw [h2] at htake
      apply Array.ext'
      rw [htake]
      simp only [Value.cells, Nat.mul_one, toList_madeCells_one]
      simp
  clear hown hgrow
  have hcn : (I64 l).length = Nat.min n (n + 2) := by rw [List.length_map, hn.out]; simp [Nat.min_def]
  have hcf : 0 + (I64 l).length ≤ (I64 (List.replicate (n + 2) 0)).length := by rw [List.length_map, hn.out]; simp
  have hcp : 0 < (I64 l).length → ∃ ad', ad = some ad' ∧ ∀ j v, (I64 l)[j]? = some v → w1.cell? (ad'.add j) = some v := by
    intro h0
    obtain ⟨ad', cap', he, hc1, hc2, h | ⟨b, off, rfl, hbN, hc⟩⟩ := hl.out
    · rw [List.length_map] at h0; omega
    · simp only [Value.slice.injEq] at he
      obtain ⟨rfl, -, rfl⟩ := he
      refine ⟨_, rfl, fun j v hj => ?_⟩
      have hjl : j < l.length := by
        have := (List.getElem?_eq_some_iff.1 hj).1
        simpa using this
      have e : (⟨b, off, none⟩ : Addr).add j = ⟨b, off + j, none⟩ := by unfold Addr.add; split <;> simp_all
      rw [e, (hb1.cell (p := ⟨b, off + j, none⟩) (by show b < w0.heap.size; omega)).trans ((hb0.cell (p := ⟨b, off + j, none⟩) hbN).trans (hc j hjl)), ← hj]
      simp [hjl]
  have HC : Hid ((I64 l).length = Nat.min n (n + 2)) := hcn
  have HF : Hid (0 + (I64 l).length ≤ (I64 (List.replicate (n + 2) 0)).length) := hcf
  have HP : Hid (0 < (I64 l).length → ∃ ad', ad = some ad' ∧ ∀ j v, (I64 l)[j]? = some v → w1.cell? (ad'.add j) = some v) := hcp
  clear hcn hcf hcp
  have HM : Hid (((splice (I64 (List.replicate (n + 2) 0)) 0 (I64 l)).set n (.int .i64 (-71))).set (n + 1) (.int .i64 (-72)) = I64 (l ++ [-71, -72])) := set_marks l n hn.out.symm
  have HLs : Hid ((splice (I64 (List.replicate (n + 2) 0)) 0 (I64 l)).length = n + 2) := by
    show _ = _
    rw [length_splice _ _ _ HF.out]; simp
  have h1c := one_cell_ints l
  generalize hX : I64 l = X at *
  clear hX
  generalize hZ : I64 (List.replicate (n + 2) 0) = Z at *
  clear hZ
  go_wp2_with (refine wpList_copy_splice rfl (.tmp 25) (.tmp 26) 29 29 rfl 3 Tryd.underlying29 hsz1 _ _ _ _ _ _ rfl rfl w0.heap.size 0 Z 3 HG1.out X HC.out (fun h => ⟨rfl, HP.out h⟩) HF.out h1c w0.heap.size w0 hb1 (Nat.le_refl _) ?_)
  intro w2 HG2 hb2
  have hfr := fun k => frozen_of_row w2 w0.heap.size k _ 3 HG2.out
  obtain ⟨x1, hx1⟩ : ∃ x1, w2.cell? ⟨w0.heap.size, n, none⟩ = some x1 := row_some HG2.out (by rw [HLs.out]; omega)
  obtain ⟨x2, hx2⟩ : ∃ x2, w2.cell? ⟨w0.heap.size, n + 1, none⟩ = some x2 := row_some HG2.out (by rw [HLs.out]; omega)
  have hrow : RowG ((w2.setCell ⟨w0.heap.size, n, none⟩ (.int .i64 (-71))).setCell ⟨w0.heap.size, n + 1, none⟩ (.int .i64 (-72))) w0.heap.size (l ++ [-71, -72]) := by
    have e1 := heap_setCell_same w2 w0.heap.size n _ 3 (.int .i64 (-71)) HG2.out
    have e2 := heap_setCell_same _ w0.heap.size (n + 1) _ 3 (.int .i64 (-72)) e1
    unfold RowG
    rw [e2, ← HM.out]
    congr 2
    simp
  have hbel : Below w0.heap.size w0 ((w2.setCell ⟨w0.heap.size, n, none⟩ (.int .i64 (-71))).setCell ⟨w0.heap.size, n + 1, none⟩ (.int .i64 (-72))) := (hb2.setCell (by simp) _).setCell (by simp) _
  have HRW : Hid (RowG ((w2.setCell ⟨w0.heap.size, n, none⟩ (.int .i64 (-71))).setCell ⟨w0.heap.size, n + 1, none⟩ (.int .i64 (-72))) w0.heap.size (l ++ [-71, -72])) := hrow
  have HBL : Hid (Below w0.heap.size w0 ((w2.setCell ⟨w0.heap.size, n, none⟩ (.int .i64 (-71))).setCell ⟨w0.heap.size, n + 1, none⟩ (.int .i64 (-72)))) := hbel
  have HB0 : Hid (Below w.heap.size w w0) := hb0
  clear hrow hbel HM HG1 HG2 HP HC HF hb1 hb2 hi hz0 hz1 hz2 hsz1 h1c HLs hb0
  go_wp2_with fail
  clear hfr hx1 hx2
  generalize (w2.setCell ⟨w0.heap.size, n, none⟩ (.int .i64 (-71))).setCell ⟨w0.heap.size, n + 1, none⟩ (.int .i64 (-72)) = w3 at HRW HBL ⊢
  have hB3 : Below w.heap.size w w3 := HB0.out.trans (HBL.out.mono hs0)
  have hg3 : w0.heap.size < w3.heap.size := HRW.out.lt
  generalize hgg : w0.heap.size = g at *
  clear hgg HBL HB0
  refine (encode_out l (some ⟨g, 0, none⟩) n (n + 2) w3 hn.out.symm (HRW.out.ints hn.out.symm rfl (by omega)) (hT.out.below hB3 h2) (by omega)).mono ?_
  rintro e w4 ⟨ada, ma, capa, rfl, hma, hoa, hb4⟩
  have HR4 : Hid (RowG w4 g (l ++ [-71, -72])) := HRW.out.below hb4 hg3
  have hB4 : Below w.heap.size w w4 := hB3.trans (hb4.mono (by omega))
  have hs4 := hb4.size
  have hc4 := encB_len l
  rw [← hma] at hc4
  have HMA : Hid (ma = (encB l).length) := hma
  clear hb4 HRW hB3 hma
  go_wp2_with fail
  refine (encode_out l (some ⟨g, 0, none⟩) n (n + 2) w4 hn.out.symm (HR4.out.ints hn.out.symm rfl (by omega)) (hT.out.below hB4 h2) (by omega)).mono ?_
  rintro e w5 ⟨adb, mb, capb, rfl, hmb, hob, hb5⟩
  have HR5 : Hid (RowG w5 g (l ++ [-71, -72])) := HR4.out.below hb5 (by omega)
  have HMB : Hid (mb = (encB l).length) := hmb
  have hc5 : mb ≤ 16777216 := by rw [HMB.out]; exact encB_len l
  have hB5 : Below w.heap.size w w5 := hB4.trans (hb5.mono (by omega))
  have hs5 := hb5.size
  have hoa5 := own_kept hoa (fun b hb' => hb5.block b (hoa.lt b hb').2)
  have hla := fun b hb' => (hoa.lt b hb').2
  clear hoa hb5 HR4 hB4 hmb
  go_wp2_with fail
  refine (ref_out l ad n cap w5 hn.out.symm (hl.out.below hB5 (Nat.le_refl _) (by omega))).mono ?_
  rintro e w6 ⟨adw, mw, capw, rfl, hmw, how, hb6⟩
  have HR6 : Hid (RowG w6 g (l ++ [-71, -72])) := HR5.out.below hb6 (by omega)
  have hB6 : Below w.heap.size w w6 := hB5.trans (hb6.mono (by omega))
  have hs6 := hb6.size
  have hoa6 := own_kept hoa5 (fun b hb' => hb6.block b (hoa5.lt b hb').2)
  have hob6 := own_kept hob (fun b hb' => hb6.block b (hob.lt b hb').2)
  have hlb := fun b hb' => (hob.lt b hb').2
  have hS1 : (convert 25 9 (.slice ada ma capa)).run Tryd.prog w6 = .ok (.string (strOfNums (encB l))) w6 := str_own HMA.out hoa6
  have hS2 : (convert 25 9 (.slice adb mb capb)).run Tryd.prog w6 = .ok (.string (strOfNums (encB l))) w6 := str_own HMB.out hob6
  have hS3 : (convert 25 9 (.slice adw mw capw)).run Tryd.prog w6 = .ok (.string (strOfNums (encB l))) w6 := str_own hmw how
  have HST : Hid (St5 w g n l 0 w3.heap.size w4.heap.size (.slice ada ma capa) (.slice adb mb capb) ma mb (encB l) w6) :=
    ⟨hB6, ⟨_, HR6.out, by rw [List.length_append, hn.out]; rfl, fun j _ hj => by simp [List.getD_eq_getElem?_getD, List.getElem?_append_left (show j < l.length by rw [hn.out]; exact hj)]⟩, hoa6, hob6⟩
  have d0 := HR6.out.cell n (by rw [List.length_append, hn.out]; simp)
  have d1 := HR6.out.cell (n + 1) (by rw [List.length_append, hn.out]; simp)
  have e0 : (l ++ [-71, -72]).getD n 0 = -71 := by simp [List.getD_eq_getElem?_getD, List.getElem?_append_right (show l.length ≤ n by rw [hn.out]; omega), hn.out]
  have e1 : (l ++ [-71, -72]).getD (n + 1) 0 = -72 := by simp [List.getD_eq_getElem?_getD, List.getElem?_append_right (show l.length ≤ n + 1 by rw [hn.out]; omega), hn.out]
  rw [e0] at d0
  rw [e1] at d1
  clear e0 e1 hb6 hoa5 hob hoa6 hob6 how hmw HR5 HR6 hB5 hB6
  generalize strOfNums (encB l) = S at hS1 hS2 hS3
  generalize encC l = c
  go_wp2
  clear hS1 hS2 hS3 d0 d1
  go_loopw [12] (fun i wr => ∃ (k : Nat), k ≤ n ∧ i = .int .i64 k ∧ Hid (St5 w g n l k w3.heap.size w4.heap.size (.slice ada ma capa) (.slice adb mb capb) ma mb (encB l) wr)) (fun i _ => n - (intOf i).toNat)
  case atStart => exact ⟨0, by omega, rfl, HST⟩
  case round =>
    clear HST
    obtain ⟨k, hk, rfl, HI⟩ := hrel
    by_cases hlt : k < n
    · obtain ⟨ad', cap', he, hc1, hc2, h | ⟨b, off, rfl, hbN, hc⟩⟩ := hl.out
      · exact absurd h (by rw [hn.out]; omega)
      · simp only [Value.slice.injEq] at he
        obtain ⟨rfl, -, rfl⟩ := he
        have hn' := hn.out
        have d0 := (HI.out.bel.cell (p := ⟨b, off + k, none⟩) hbN).trans (hc k (by omega))
        obtain ⟨l', hR', hL', hE'⟩ := HI.out.row
        have d1 := hR'.cell k (by omega)
        rw [hE' k (Nat.le_refl _) hlt] at d1
        have hf1 := hR'.frozen k
        clear hE' hR' hL' hc hc1 hc2 hn'
        generalize l.getD k 0 = x at d0 d1
        have h21 := word21 x wr
        have hk2 : (k : Int) < ((n + 2 : Nat) : Int) := by omega
        have hk3 : (k : Int) < (n : Int) + 2 := by omega
        have hk4 : (k : Int) < (n : Int) := by omega
        go_wp2_with (go_at_call 21; refine h21.mono ?_; rintro e w' ⟨rfl, rfl⟩)
        go_quiet (first | (go_at_call 22; exact Calls.quiet_of_same (word22 x _)) | fail)
        go_wp2
        go_roundw
        case rel => exact ⟨k + 1, by omega, by go_num, St5.set (HI.out.drew _) hs0 hg3 (by omega) _⟩
        case measure => simp [intOf]; omega
    · obtain rfl : k = n := by omega
      obtain ⟨l', hR', hL', -⟩ := HI.out.row
      have e' : l' = l'.take k ++ l'.drop k := (List.take_append_drop k l').symm
      have hlt' : (l'.take k).length = k := by rw [List.length_take]; omega
      have hld' : (l'.drop k).length = 2 := by rw [List.length_drop]; omega
      rw [e'] at hR'
      generalize l'.take k = la at *
      generalize l'.drop k = lb at *
      have HRR : Hid (RowG wr g (la ++ lb)) := hR'
      have HLT : Hid (la.length = k) := hlt'
      have HLD : Hid (lb.length = 2) := hld'
      clear hR' hL' e' hlt' hld'
      have hsr := HI.out.bel.size
      have hgr := HRR.out.lt
      go_wp2_with fail
      refine (ref_out la (some ⟨g, 0, none⟩) k (k + 2) wr HLT.out.symm (HRR.out.ints HLT.out.symm HLD.out (by omega))).mono ?_
      rintro e w7 ⟨adw, mw, capw, rfl, hmw, how, hb7⟩
      have HR7 : Hid (RowG w7 g (la ++ lb)) := HRR.out.below hb7 hgr
      have hs7 := hb7.size
      have hb7' : Below w.heap.size w w7 := HI.out.bel.trans (hb7.mono hsr)
      have HI7 := HI.out.next hb7
      have HMW : Hid (mw = (encB la).length) := hmw
      clear HI HRR hb7 hmw
      go_wp2_with fail
      refine (encode_out la (some ⟨g, 0, none⟩) k (k + 2) w7 HLT.out.symm (HR7.out.ints HLT.out.symm HLD.out (by omega)) (hT.out.below hb7' h2) (by omega)).mono ?_
      rintro e w8 ⟨adc, mc, capc, rfl, hmc, hoc, hb8⟩
      have HI8 := HI7.next hb8
      have hs8 := hb8.size
      have how8 := own_kept how (fun b hb' => hb8.block b (how.lt b hb').2)
      have hS1 : (convert 25 9 (.slice adc mc capc)).run Tryd.prog w8 = .ok (.string (strOfNums (encB la))) w8 := str_own hmc hoc
      have hS2 : (convert 25 9 (.slice adw mw capw)).run Tryd.prog w8 = .ok (.string (strOfNums (encB la))) w8 := str_own HMW.out how8
      have hc8 : mc ≤ 16777216 := by rw [hmc]; exact encB_len la
      have HOW := own_three w.heap.size w3.heap.size w4.heap.size w7.heap.size (.slice ada ma capa) (.slice adb mb capb) (.slice adc mc capc) ma mb mc _ _ _ w8 HI8.oa HI8.ob hoc (by omega) (by omega) (by omega) hla (fun b hb' => (HI7.ob.lt b hb').2) (fun b hb' => (HI7.oa.lt b hb').2) (by omega) (by omega) (by omega) (by omega)
      have HB8 : Hid (Below w.heap.size w w8) := HI8.bel
      clear how8 how hoc HI8 HI7 hb8 hb7' HR7 HMW hmc hla hlb
      generalize strOfNums (encB la) = S' at hS1 hS2
      generalize encC la = c'
      go_wp2_with (go_at_call 23; refine HOW.mono ?_; rintro e w9 ⟨rfl, hb9⟩)
      go_ret
      exact ⟨rfl, (HB8.out.alloc (by omega) _).trans hb9⟩
end Go.Proofs.YtjglehklfdhgaaaDoor
