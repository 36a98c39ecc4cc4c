/- HELPERS: the walk of RunesClasses. Made by tools/genclasses.py. -/
import Derived.Test.YtjglehklfdhgaaaDoorClL
import Derived.Test.YtjglehklfdhgaaaDoorAwake
namespace Go.Proofs.YtjglehklfdhgaaaDoor
open Go.RowKit Go.Mx
set_option linter.unusedVariables false
set_option linter.unusedSimpArgs false
def pick6 {α : Type} (a b c d e f : α) (p : Nat) : α := if p = 0 then a else if p = 1 then b else if p = 2 then c else if p = 3 then d else if p = 4 then e else f
theorem pick6_all {p : Nat → Prop} (h0 : p 0) (h1 : p 1) (h2 : p 2) (h3 : p 3) (h4 : p 4) (h5 : p 5) : ∀ j, j < 6 → p j := by
  intro j hj
  have : j = 0 ∨ j = 1 ∨ j = 2 ∨ j = 3 ∨ j = 4 ∨ j = 5 := by omega
  rcases this with rfl | rfl | rfl | rfl | rfl | rfl <;> assumption
theorem pick6_inj : ∀ i j, i < 6 → j < 6 → i ≠ j → pick6 9 8 7 6 5 4 i ≠ pick6 9 8 7 6 5 4 j := by
  intro i j hi hj hij
  have : ∀ k, k < 6 → pick6 9 8 7 6 5 4 k = 9 - k := pick6_all rfl rfl rfl rfl rfl rfl
  rw [this i hi, this j hj]
  omega
set_option maxHeartbeats 16000000 in
set_option maxRecDepth 1000000 in
theorem classes6 (A B : List (Int × Int)) (R : List Int) (aa ab ar : Option Addr) (na ca nb cb nr cr : Nat) (w : World) (hT : Hid (Tabs w)) (h2 : 2 ≤ w.heap.size) (hna : Hid (A.length = na)) (hnb : Hid (B.length = nb)) (hA2 : na ≤ 1048576) (hB2 : nb ≤ 1048576)
    (hnr : Hid (R.length = nr)) (hr2 : nr ≤ 1048576) (hA : Hid (RowAt w.heap.size w (.slice aa na ca) A)) (hB : Hid (RowAt w.heap.size w (.slice ab nb cb) B)) (cA : Hid (aa = none → ca = 0)) (cB : Hid (ab = none → cb = 0)) (hR : Hid (IntsAt w.heap.size w (.slice ar nr cr) R)) :
    Calls Tryd.prog 6 #[.agg #[.slice aa na ca, .slice ab nb cb, .slice ar nr cr]] w fun e w' => e = .returned (.bool true) ∧ Below w.heap.size w w' := by
  obtain ⟨tR, htR⟩ : ∃ t, t = rightB A := ⟨_, rfl⟩
  have HTR : Hid (tR = rightB A) := htR
  have hbb : (tR != tR) = false := by simp
  clear htR
  go_enter Tryd.func6, Tryd.ntmps6
  go_wp2_with fail
  refine (awake9 _ (tabs_alloc hT.out h2 _) (by simp; omega)).mono ?_
  rintro e w0 ⟨rfl, hb0⟩
  have hB0 : Below w.heap.size w w0 := ((Below.refl _ _).alloc (Nat.le_refl _) _).trans (hb0.mono (by simp))
  have hbox0 : w0.heap[w.heap.size]? = some (.cells #[.slice aa na ca, .slice ab nb cb, .slice ar nr cr] 44 (0, 0)) := (hb0.block w.heap.size (by simp)).trans (heap_alloc_new w _)
  have hs0 : w.heap.size < w0.heap.size := (Array.getElem?_eq_some_iff.1 hbox0).1
  have c0 : w0.cell? ⟨w.heap.size, 0, none⟩ = some (.slice aa na ca) := by rw [cell_of_row w0 _ 0 _ 44 (0, 0) hbox0]; rfl
  have c1 : w0.cell? ⟨w.heap.size, 1, none⟩ = some (.slice ab nb cb) := by rw [cell_of_row w0 _ 1 _ 44 (0, 0) hbox0]; rfl
  have HB0 : Hid (Below w.heap.size w w0) := hB0
  have HX0 : Hid (w0.heap[w.heap.size]? = some (.cells #[.slice aa na ca, .slice ab nb cb, .slice ar nr cr] 44 (0, 0))) := hbox0
  clear hb0 hB0 hbox0
  go_wp2_with fail
  refine (lend24 A aa na ca w0 hna (hA.out.below HB0.out (Nat.le_refl _) HB0.out.size) cA (by omega)).mono ?_
  rintro e w1 ⟨rfl, hR1, hb1⟩
  have hB1 : Below w.heap.size w w1 := HB0.out.trans (hb1.mono HB0.out.size)
  have hbox1 : w1.heap[w.heap.size]? = some (.cells #[.slice aa na ca, .slice ab nb cb, .slice ar nr cr] 44 (0, 0)) := (hb1.block w.heap.size hs0).trans HX0.out
  have c3 : w1.cell? ⟨w.heap.size, 1, none⟩ = some (.slice ab nb cb) := by rw [cell_of_row w1 _ 1 _ 44 (0, 0) hbox1]; rfl
  have hg1 := hR1.lt
  have HB1 : Hid (Below w.heap.size w w1) := hB1
  have HX1 : Hid (w1.heap[w.heap.size]? = some (.cells #[.slice aa na ca, .slice ab nb cb, .slice ar nr cr] 44 (0, 0))) := hbox1
  have HR1 : Hid (RowR w1 w0.heap.size (A ++ [(-201, -1), (-202, -2)])) := hR1
  clear c0 c1 HB0 HX0 hR1 hb1 hB1 hbox1
  generalize w0.heap.size = gc at HR1 hg1 hs0 ⊢
  go_wp2_with fail
  refine (lend24 B ab nb cb w1 hnb (hB.out.below HB1.out (Nat.le_refl _) HB1.out.size) cB (by omega)).mono ?_
  rintro e w2 ⟨rfl, hR2, hb2⟩
  have hg2 := hR2.lt
  have LV2 : Hid (Lv w.heap.size w2.heap.size w w2 (.cells #[.slice aa na ca, .slice ab nb cb, .slice ar nr cr] 44 (0, 0)) [(gc, A ++ [(-201, -1), (-202, -2)]), (w1.heap.size, B ++ [(-201, -1), (-202, -2)])] []) := by
    refine ⟨HB1.out.trans (hb2.mono HB1.out.size), (hb2.block w.heap.size (by omega)).trans HX1.out, ⟨by omega, Nat.le_refl _⟩, fun m hm => ?_, fun r hr => (by cases hr), List.Pairwise.nil⟩
    simp only [List.mem_cons, List.not_mem_nil, or_false] at hm
    rcases hm with rfl | rfl
    · exact ⟨HR1.out.below hb2 hg1, hs0, Nat.lt_trans hg1 hg2⟩
    · exact ⟨hR2, by show w.heap.size < w1.heap.size; omega, hg2⟩
  clear c3 HB1 HX1 HR1 hR2 hb2
  have hgd : gc ≠ w1.heap.size := by omega
  have hgd' : w1.heap.size ≠ gc := by omega
  generalize w1.heap.size = gd at LV2 hgd hgd' hg1 hg2 ⊢
  obtain ⟨M, hM⟩ : ∃ M, w2.heap.size = M := ⟨_, rfl⟩
  rw [hM] at LV2
  clear hM hg1 hg2 hs0
  obtain ⟨c0, c1, c2⟩ := LV2.out.x
  have hr25 := right25 A (some ⟨gc, 0, none⟩) na (na + 2) w2 hna.out.symm (by omega) (LV2.out.lent (g := gc) (R := [(-201, -1), (-202, -2)]) (by simp) hna.out)
  rw [← HTR.out] at hr25
  go_wp2_with fail
  refine hr25.mono ?_
  rintro e w3 ⟨rfl, hb3⟩
  have LV3 : Hid (Lv w.heap.size M w w3 (.cells #[.slice aa na ca, .slice ab nb cb, .slice ar nr cr] 44 (0, 0)) [(gc, A ++ [(-201, -1), (-202, -2)]), (gd, B ++ [(-201, -1), (-202, -2)])] []) := LV2.out.next hb3
  clear hr25 hb3 LV2 c0 c1 c2
  obtain ⟨c0, c1, c2⟩ := LV3.out.x
  go_wp2_with fail
  refine (norm_got A (some ⟨gc, 0, none⟩) na (na + 2) w3 hna.out hA2 (LV3.out.lent (g := gc) (R := [(-201, -1), (-202, -2)]) (by simp) hna.out)).mono ?_
  rintro e w4 ⟨adN, mN, capN, rfl, ho4, hm4, hb4⟩
  have HMN : Hid (mN = (XN A).length) := hm4
  have LV4 : Hid (Lv w.heap.size M w w4 (.cells #[.slice aa na ca, .slice ab nb cb, .slice ar nr cr] 44 (0, 0)) [(gc, A ++ [(-201, -1), (-202, -2)]), (gd, B ++ [(-201, -1), (-202, -2)])] [(.slice adN mN capN, XN A)]) := LV3.out.add hm4 ho4 hb4
  clear ho4 hm4 hb4 LV3 c0 c1 c2
  obtain ⟨c0, c1, c2⟩ := LV4.out.x
  go_wp2_with fail
  refine (norm_got A (some ⟨gc, 0, none⟩) na (na + 2) w4 hna.out hA2 (LV4.out.lent (g := gc) (R := [(-201, -1), (-202, -2)]) (by simp) hna.out)).mono ?_
  rintro e w5 ⟨adO, mO, capO, rfl, ho5, hm5, hb5⟩
  have hmm5 : mN = mO := HMN.out.trans hm5.symm
  subst hmm5
  have LV5 : Hid (Lv w.heap.size M w w5 (.cells #[.slice aa na ca, .slice ab nb cb, .slice ar nr cr] 44 (0, 0)) [(gc, A ++ [(-201, -1), (-202, -2)]), (gd, B ++ [(-201, -1), (-202, -2)])] [(.slice adO mN capO, XN A), (.slice adN mN capN, XN A)]) := LV4.out.add hm5 ho5 hb5
  clear ho5 hm5 hb5 LV4 c0 c1 c2
  obtain ⟨c0, c1, c2⟩ := LV5.out.x
  go_wp2_with fail
  refine (union_got A B (some ⟨gc, 0, none⟩) (some ⟨gd, 0, none⟩) na nb (na + 2) (nb + 2) w5 hna.out hnb.out hA2 hB2 (LV5.out.lent (g := gc) (R := [(-201, -1), (-202, -2)]) (by simp) hna.out) (LV5.out.lent (g := gd) (R := [(-201, -1), (-202, -2)]) (by simp) hnb.out)).mono ?_
  rintro e w6 ⟨adU, mU, capU, rfl, ho6, hm6, hb6⟩
  have HMU : Hid (mU = (XU A B).length) := hm6
  have LV6 : Hid (Lv w.heap.size M w w6 (.cells #[.slice aa na ca, .slice ab nb cb, .slice ar nr cr] 44 (0, 0)) [(gc, A ++ [(-201, -1), (-202, -2)]), (gd, B ++ [(-201, -1), (-202, -2)])] [(.slice adU mU capU, XU A B), (.slice adO mN capO, XN A), (.slice adN mN capN, XN A)]) := LV5.out.add hm6 ho6 hb6
  clear ho6 hm6 hb6 LV5 c0 c1 c2
  obtain ⟨c0, c1, c2⟩ := LV6.out.x
  go_wp2_with fail
  refine (turned_got A B (some ⟨gc, 0, none⟩) (some ⟨gd, 0, none⟩) na nb (na + 2) (nb + 2) w6 hna.out hnb.out hA2 hB2 (LV6.out.lent (g := gc) (R := [(-201, -1), (-202, -2)]) (by simp) hna.out) (LV6.out.lent (g := gd) (R := [(-201, -1), (-202, -2)]) (by simp) hnb.out)).mono ?_
  rintro e w7 ⟨adT, mT, capT, rfl, ho7, hm7, hb7⟩
  have hmm7 : mU = mT := HMU.out.trans hm7.symm
  subst hmm7
  have LV7 : Hid (Lv w.heap.size M w w7 (.cells #[.slice aa na ca, .slice ab nb cb, .slice ar nr cr] 44 (0, 0)) [(gc, A ++ [(-201, -1), (-202, -2)]), (gd, B ++ [(-201, -1), (-202, -2)])] [(.slice adT mU capT, XU A B), (.slice adU mU capU, XU A B), (.slice adO mN capO, XN A), (.slice adN mN capN, XN A)]) := LV6.out.add hm7 ho7 hb7
  clear ho7 hm7 hb7 LV6 c0 c1 c2
  obtain ⟨c0, c1, c2⟩ := LV7.out.x
  go_wp2_with fail
  refine (neg_got A (some ⟨gc, 0, none⟩) na (na + 2) w7 hna.out hA2 (LV7.out.lent (g := gc) (R := [(-201, -1), (-202, -2)]) (by simp) hna.out)).mono ?_
  rintro e w8 ⟨adG, mG, capG, rfl, ho8, hm8, hb8⟩
  have HMG : Hid (mG = (XG A).length) := hm8
  have LV8 : Hid (Lv w.heap.size M w w8 (.cells #[.slice aa na ca, .slice ab nb cb, .slice ar nr cr] 44 (0, 0)) [(gc, A ++ [(-201, -1), (-202, -2)]), (gd, B ++ [(-201, -1), (-202, -2)])] [(.slice adG mG capG, XG A), (.slice adT mU capT, XU A B), (.slice adU mU capU, XU A B), (.slice adO mN capO, XN A), (.slice adN mN capN, XN A)]) := LV7.out.add hm8 ho8 hb8
  clear ho8 hm8 hb8 LV7 c0 c1 c2
  obtain ⟨c0, c1, c2⟩ := LV8.out.x
  go_wp2_with fail
  refine (fold_got A (some ⟨gc, 0, none⟩) na (na + 2) w8 hna.out hA2 (LV8.out.lent (g := gc) (R := [(-201, -1), (-202, -2)]) (by simp) hna.out)).mono ?_
  rintro e w9 ⟨adF, mF, capF, rfl, ho9, hm9, hb9⟩
  have HMF : Hid (mF = (XF A).length) := hm9
  have LV9 : Hid (Lv w.heap.size M w w9 (.cells #[.slice aa na ca, .slice ab nb cb, .slice ar nr cr] 44 (0, 0)) [(gc, A ++ [(-201, -1), (-202, -2)]), (gd, B ++ [(-201, -1), (-202, -2)])] [(.slice adF mF capF, XF A), (.slice adG mG capG, XG A), (.slice adT mU capT, XU A B), (.slice adU mU capU, XU A B), (.slice adO mN capO, XN A), (.slice adN mN capN, XN A)]) := LV8.out.add hm9 ho9 hb9
  clear ho9 hm9 hb9 LV8 c0 c1 c2
  obtain ⟨c0, c1, c2⟩ := LV9.out.x
  go_wp2
  go_loopw [21] (fun ix wr => ∃ (k : Nat), k ≤ nr ∧ ix = .int .i64 k ∧ Hid (Lv w.heap.size M w wr (.cells #[.slice aa na ca, .slice ab nb cb, .slice ar nr cr] 44 (0, 0)) [(gc, A ++ [(-201, -1), (-202, -2)]), (gd, B ++ [(-201, -1), (-202, -2)])] [(.slice adF mF capF, XF A), (.slice adG mG capG, XG A), (.slice adT mU capT, XU A B), (.slice adU mU capU, XU A B), (.slice adO mN capO, XN A), (.slice adN mN capN, XN A)])) (fun ix _ => nr - (intOf ix).toNat)
  case atStart => exact ⟨0, by omega, rfl, LV9⟩
  case round =>
    clear LV9 c0 c1 c2
    obtain ⟨k, hk, rfl, LVr⟩ := hrel
    obtain ⟨c0, c1, c2⟩ := LVr.out.x
    by_cases hlt : k < nr
    · obtain ⟨ad', cap', he, hz1, hz2, h | ⟨b, off, rfl, hbN, hc⟩⟩ := hR.out
      · exact absurd h (by rw [hnr.out]; omega)
      · simp only [Value.slice.injEq] at he
        obtain ⟨rfl, -, rfl⟩ := he
        have HD : Hid (∀ wq, Below w.heap.size w wq → wq.cell? ⟨b, off + k, none⟩ = some (.int .i64 (R.getD k 0))) := fun wq hbq => (hbq.cell (p := ⟨b, off + k, none⟩) hbN).trans (hc k (by rw [hnr.out]; exact hlt))
        clear hc hz1 hz2
        generalize R.getD k 0 = r at HD
        have d0 := HD.out wr LVr.out.below
        have h30 := has30 A (some ⟨gc, 0, none⟩) na (na + 2) r wr hna.out.symm (by omega) (LVr.out.lent (g := gc) (R := [(-201, -1), (-202, -2)]) (by simp) hna.out)
        have h31 : ∀ wq, Hid (Lv w.heap.size M w wq (.cells #[.slice aa na ca, .slice ab nb cb, .slice (some ⟨b, off, none⟩) nr cr] 44 (0, 0)) [(gc, A ++ [(-201, -1), (-202, -2)]), (gd, B ++ [(-201, -1), (-202, -2)])] [(.slice adF mF capF, XF A), (.slice adG mG capG, XG A), (.slice adT mU capT, XU A B), (.slice adU mU capU, XU A B), (.slice adO mN capO, XN A), (.slice adN mN capN, XN A)]) → Calls Tryd.prog 31 #[.slice aa na ca, .int .i64 r] wq fun e w' => e = .returned (.bool (rightB A && hasB A r)) ∧ Below wq.heap.size wq w' := fun wq hq =>
          rhas31 A aa na ca r wq hna (by omega) (hq.out.arg rfl hA.out)
        generalize (rightB A && hasB A r) = t at h30 h31
        have htt : (t != t) = false := by simp
        have hkn : (k : Int) < (nr : Int) := by omega
        go_wp2_with fail
        refine h30.mono ?_
        rintro e wh ⟨rfl, hbh⟩
        have LVh : Hid (Lv w.heap.size M w wh (.cells #[.slice aa na ca, .slice ab nb cb, .slice (some ⟨b, off, none⟩) nr cr] 44 (0, 0)) [(gc, A ++ [(-201, -1), (-202, -2)]), (gd, B ++ [(-201, -1), (-202, -2)])] [(.slice adF mF capF, XF A), (.slice adG mG capG, XG A), (.slice adT mU capT, XU A B), (.slice adU mU capU, XU A B), (.slice adO mN capO, XN A), (.slice adN mN capN, XN A)]) := LVr.out.next hbh
        clear c0 c1 c2 d0 h30 hbh LVr
        obtain ⟨c0, c1, c2⟩ := LVh.out.x
        have d0 := HD.out wh LVh.out.below
        have hp := h31 wh.drew (LVh.out.next ((Below.refl _ _).drew))
        clear h31
        go_wp2_with fail
        go_cut [114] from 91 to 114 (fun s wx => s = .bool false ∧ Hid (Lv w.heap.size M w wx (.cells #[.slice aa na ca, .slice ab nb cb, .slice (some ⟨b, off, none⟩) nr cr] 44 (0, 0)) [(gc, A ++ [(-201, -1), (-202, -2)]), (gd, B ++ [(-201, -1), (-202, -2)])] [(.slice adF mF capF, XF A), (.slice adG mG capG, XG A), (.slice adT mU capT, XU A B), (.slice adU mU capU, XU A B), (.slice adO mN capO, XN A), (.slice adN mN capN, XN A)]))
        case first =>
          go_region_with (go_at_call 31; refine hp.mono ?_; rintro e w' ⟨rfl, hb'⟩)
          all_goals go_wp2_with fail
          all_goals go_meet
          all_goals exact ⟨by simp, (LVh.out.next ((Below.refl _ _).drew)).next hb'⟩
        obtain ⟨rfl, LVx⟩ := hcut
        clear hp d0 c0 c1 c2 LVh
        go_wp2
        go_roundw
        case rel => exact ⟨k + 1, by omega, by go_num, LVx⟩
        case measure => simp [intOf]; omega
    · have hkr : nr = k := by omega
      subst hkr
      clear hR hnr hk hlt hr2
      go_wp2_with fail
      refine (kept32 A aa na ca gc w.heap.size wr hna (hA.out.below LVr.out.below (Nat.le_refl _) (Nat.le_refl _)) (LVr.out.mar (gc, A ++ [(-201, -1), (-202, -2)]) (by simp)).1 (by omega)).mono ?_
      rintro e w10 ⟨rfl, hk10, hb10⟩
      have LV10 : Hid (Lv w.heap.size M w w10 (.cells #[.slice aa na ca, .slice ab nb cb, .slice ar nr cr] 44 (0, 0)) [(gd, B ++ [(-201, -1), (-202, -2)])] [(.slice adF mF capF, XF A), (.slice adG mG capG, XG A), (.slice adT mU capT, XU A B), (.slice adU mU capU, XU A B), (.slice adO mN capO, XN A), (.slice adN mN capN, XN A)]) := LVr.out.cut (g := gc) (K := A ++ [(-201, -1), (-202, -2)]) (by simp) hk10 hb10 (by intro m hm; simp at hm; subst hm; exact ⟨by simp, hgd'⟩)
      clear hk10 hb10 LVr c0 c1 c2
      obtain ⟨c0, c1, c2⟩ := LV10.out.x
      go_wp2_with fail
      refine (kept32 B ab nb cb gd w.heap.size w10 hnb (hB.out.below LV10.out.below (Nat.le_refl _) (Nat.le_refl _)) (LV10.out.mar (gd, B ++ [(-201, -1), (-202, -2)]) (by simp)).1 (by omega)).mono ?_
      rintro e w11 ⟨rfl, hk11, hb11⟩
      have LV11 : Hid (Lv w.heap.size M w w11 (.cells #[.slice aa na ca, .slice ab nb cb, .slice ar nr cr] 44 (0, 0)) [] [(.slice adF mF capF, XF A), (.slice adG mG capG, XG A), (.slice adT mU capT, XU A B), (.slice adU mU capU, XU A B), (.slice adO mN capO, XN A), (.slice adN mN capN, XN A)]) := LV10.out.cut (g := gd) (K := B ++ [(-201, -1), (-202, -2)]) (by simp) hk11 hb11 (by intro m hm; cases hm)
      clear hk11 hb11 LV10 c0 c1 c2
      obtain ⟨c0, c1, c2⟩ := LV11.out.x
      have hr33 := rright33 A aa na ca w11 hna (by omega) (LV11.out.arg rfl hA.out)
      rw [← HTR.out] at hr33
      go_wp2_with fail
      refine hr33.mono ?_
      rintro e w12 ⟨rfl, hb12⟩
      have LV12 : Hid (Lv w.heap.size M w w12 (.cells #[.slice aa na ca, .slice ab nb cb, .slice ar nr cr] 44 (0, 0)) [] [(.slice adF mF capF, XF A), (.slice adG mG capG, XG A), (.slice adT mU capT, XU A B), (.slice adU mU capU, XU A B), (.slice adO mN capO, XN A), (.slice adN mN capN, XN A)]) := LV11.out.next hb12
      clear hr33 hb12 LV11 c0 c1 c2
      obtain ⟨c0, c1, c2⟩ := LV12.out.x
      go_wp2_with fail
      refine (rnorm_got A aa na ca w12 hna.out hA2 (LV12.out.arg rfl hA.out)).mono ?_
      rintro e w13 ⟨adP, mP, capP, rfl, ho13, hm13, hb13⟩
      have hmm13 : mN = mP := HMN.out.trans hm13.symm
      subst hmm13
      have LV13 : Hid (Lv w.heap.size M w w13 (.cells #[.slice aa na ca, .slice ab nb cb, .slice ar nr cr] 44 (0, 0)) [] [(.slice adP mN capP, XN A), (.slice adF mF capF, XF A), (.slice adG mG capG, XG A), (.slice adT mU capT, XU A B), (.slice adU mU capU, XU A B), (.slice adO mN capO, XN A), (.slice adN mN capN, XN A)]) := LV12.out.add hm13 ho13 hb13
      clear ho13 hm13 hb13 LV12 c0 c1 c2
      obtain ⟨c0, c1, c2⟩ := LV13.out.x
      go_wp2_with fail
      refine (runion_got A B aa ab na nb ca cb w13 hna.out hnb.out hA2 hB2 (LV13.out.arg rfl hA.out) (LV13.out.arg rfl hB.out) cA.out cB.out).mono ?_
      rintro e w14 ⟨adV, mV, capV, rfl, ho14, hm14, hb14⟩
      have hmm14 : mU = mV := HMU.out.trans hm14.symm
      subst hmm14
      have LV14 : Hid (Lv w.heap.size M w w14 (.cells #[.slice aa na ca, .slice ab nb cb, .slice ar nr cr] 44 (0, 0)) [] [(.slice adV mU capV, XU A B), (.slice adP mN capP, XN A), (.slice adF mF capF, XF A), (.slice adG mG capG, XG A), (.slice adT mU capT, XU A B), (.slice adU mU capU, XU A B), (.slice adO mN capO, XN A), (.slice adN mN capN, XN A)]) := LV13.out.add hm14 ho14 hb14
      clear ho14 hm14 hb14 LV13 c0 c1 c2
      obtain ⟨c0, c1, c2⟩ := LV14.out.x
      go_wp2_with fail
      refine (rneg_got A aa na ca w14 hna.out hA2 (LV14.out.arg rfl hA.out)).mono ?_
      rintro e w15 ⟨adH, mH, capH, rfl, ho15, hm15, hb15⟩
      have hmm15 : mG = mH := HMG.out.trans hm15.symm
      subst hmm15
      have LV15 : Hid (Lv w.heap.size M w w15 (.cells #[.slice aa na ca, .slice ab nb cb, .slice ar nr cr] 44 (0, 0)) [] [(.slice adH mG capH, XG A), (.slice adV mU capV, XU A B), (.slice adP mN capP, XN A), (.slice adF mF capF, XF A), (.slice adG mG capG, XG A), (.slice adT mU capT, XU A B), (.slice adU mU capU, XU A B), (.slice adO mN capO, XN A), (.slice adN mN capN, XN A)]) := LV14.out.add hm15 ho15 hb15
      clear ho15 hm15 hb15 LV14 c0 c1 c2
      obtain ⟨c0, c1, c2⟩ := LV15.out.x
      go_wp2_with fail
      refine (rfold_got A aa na ca w15 hna.out hA2 (LV15.out.arg rfl hA.out) cA.out).mono ?_
      rintro e w16 ⟨adE, mE, capE, rfl, ho16, hm16, hb16⟩
      have hmm16 : mF = mE := HMF.out.trans hm16.symm
      subst hmm16
      have LV16 : Hid (Lv w.heap.size M w w16 (.cells #[.slice aa na ca, .slice ab nb cb, .slice ar nr cr] 44 (0, 0)) [] [(.slice adE mF capE, XF A), (.slice adH mG capH, XG A), (.slice adV mU capV, XU A B), (.slice adP mN capP, XN A), (.slice adF mF capF, XF A), (.slice adG mG capG, XG A), (.slice adT mU capT, XU A B), (.slice adU mU capU, XU A B), (.slice adO mN capO, XN A), (.slice adN mN capN, XN A)]) := LV15.out.add hm16 ho16 hb16
      clear ho16 hm16 hb16 LV15 c0 c1 c2
      obtain ⟨c0, c1, c2⟩ := LV16.out.x
      have s1 := LV16.out.same (aa := adN) (ab := adP) (m := mN) (ca := capN) (cb := capP) (K := XN A) HMN.out (outL_len _ _) (by simp) (by simp)
      have s2 := LV16.out.same (aa := adO) (ab := adP) (m := mN) (ca := capO) (cb := capP) (K := XN A) HMN.out (outL_len _ _) (by simp) (by simp)
      have s3 := LV16.out.same (aa := adU) (ab := adV) (m := mU) (ca := capU) (cb := capV) (K := XU A B) HMU.out (outL_len _ _) (by simp) (by simp)
      have s4 := LV16.out.same (aa := adT) (ab := adV) (m := mU) (ca := capT) (cb := capV) (K := XU A B) HMU.out (outL_len _ _) (by simp) (by simp)
      have s5 := LV16.out.same (aa := adG) (ab := adH) (m := mG) (ca := capG) (cb := capH) (K := XG A) HMG.out (outL_len _ _) (by simp) (by simp)
      have s6 := LV16.out.same (aa := adF) (ab := adE) (m := mF) (ca := capF) (cb := capE) (K := XF A) HMF.out (outL_len _ _) (by simp) (by simp)
      have HOW := LV16.out.six (pick6 (.slice adN mN capN) (.slice adO mN capO) (.slice adU mU capU) (.slice adT mU capT) (.slice adG mG capG) (.slice adF mF capF)) (pick6 (XN A) (XN A) (XU A B) (XU A B) (XG A) (XF A)) (pick6 9 8 7 6 5 4) (pick6_all rfl rfl rfl rfl rfl rfl) pick6_inj (pick6_all (outL_len _ _) (outL_len _ _) (outL_len _ _) (outL_len _ _) (outL_len _ _) (outL_len _ _))
      clear LV16 c0 c1 c2 HTR
      generalize cN A = eN
      generalize cU A B = eU
      generalize cG A = eG
      generalize cF A = eF
      have b1 : (eN != eN) = false := by simp
      have b2 : (eU != eU) = false := by simp
      have b3 : (eG != eG) = false := by simp
      have b4 : (eF != eF) = false := by simp
      go_wp2_with fail
      refine (s1 0).mono ?_
      rintro e w' ⟨rfl, q1, rfl⟩
      go_wp2_with fail
      refine (s2 q1).mono ?_
      rintro e w' ⟨rfl, q2, rfl⟩
      go_wp2_with fail
      refine (s3 q2).mono ?_
      rintro e w' ⟨rfl, q3, rfl⟩
      go_wp2_with fail
      refine (s4 q3).mono ?_
      rintro e w' ⟨rfl, q4, rfl⟩
      go_wp2_with fail
      refine (s5 q4).mono ?_
      rintro e w' ⟨rfl, q5, rfl⟩
      go_wp2_with fail
      refine (s6 q5).mono ?_
      rintro e w' ⟨rfl, q6, rfl⟩
      have HW := HOW q6
      clear HOW s1 s2 s3 s4 s5 s6
      go_wp2_with fail
      refine HW.mono ?_
      rintro e w17 ⟨rfl, hb17⟩
      go_wp2
      go_ret
      exact ⟨rfl, hb17⟩
end Go.Proofs.YtjglehklfdhgaaaDoor
