/- HELPERS: the walk of RunesPlaces, one of eight cases. -/
import Derived.Test.YtjglehklfdhgaaaDoorPlL
namespace Go.Proofs.YtjglehklfdhgaaaDoor
open Go.RowKit Go.Mx
set_option linter.unusedVariables false
set_option linter.unusedSimpArgs false
set_option maxHeartbeats 6000000 in
set_option maxRecDepth 1000000 in
theorem places_PTF (l : List Int) (b off n cap : Nat) (at' : Int) (w : World) (hn : Hid (n = l.length)) (hn1 : 1 ≤ n) (hn2 : n ≤ 1048576) (hc1 : n ≤ cap) (hc2 : cap ≤ 1048576) (hB : Hid (Bytes w b off l)) (hbN : b < w.heap.size) (hL : Hid (ByteL l)) (hT : Hid (Tabs w)) (h2 : 2 ≤ w.heap.size)
    (ha1 : -9223372036854775808 ≤ at') (ha2 : at' ≤ 9223372036854775807) (hat : ¬ at' < 0) (k : Nat) (HK0 : Hid (k ≤ (cut l).length ∧ (if at' < 0 then -(at' + 1) else at') % (((cut l).length : Int) + 1) = (k : Int))) (HPC0 : Hid (plK k l < cap)) (hkn : ¬ k < n) :
    Calls Tryd.prog 8 #[.slice (some ⟨b, off, none⟩) n cap, .int .i64 at'] w fun e w' => e = .returned (.bool true) ∧ Below w.heap.size w w' := by
  have haw := awake9 w hT h2
  go_enter Tryd.func8, Tryd.ntmps8
  go_wp2_with (go_at_call 9; refine haw.mono ?_; rintro e w1 ⟨rfl, hb1⟩)
  have hs1 := hb1.size
  have hcut := cut_any l b off cap n w1 hn (by omega) hc1 (by omega) (hT.out.below hb1 h2) (hB.out.below hb1 hbN) hL (by omega) (by omega)
  have hKn := cut_len l
  rw [← hn.out] at hKn
  have hpl := pl_at l n hn.out
  generalize hPL : placesOf (cut l) ++ [(n : Int)] = PL at hcut hpl
  refine hcut.mono ?_
  rintro e w2 ⟨g2, hg2, rfl, hr2, hp2, hb2⟩
  have hbw2 := hb1.trans (hb2.mono hs1)
  have hs2 := hb2.size
  have pc : ∀ i, i ≤ (cut l).length → w2.cell? ⟨g2, i, none⟩ = some (.int .i64 ((plK i l : Nat) : Int)) := fun i hi => by
    rw [hp2.cellAt i (by omega), List.getElem?_map, hpl i hi]; rfl
  have rc : ∀ i, i < (cut l).length → w2.cell? ⟨w1.heap.size, i, none⟩ = some (.int .i64 ((runesOf (cut l)).getD i 0)) := fun i hi => by
    rw [hr2.cellAt i (by omega)]
    have hi' : i < (runesOf (cut l)).length := by rw [runes_len]; exact hi
    simp [hi']
  have hg2lt : g2 < w2.heap.size := (hp2.lt _ rfl).2
  have hg1lt : w1.heap.size < w2.heap.size := (hr2.lt _ rfl).2
  have pc0 : w2.cell? ⟨g2, 0, none⟩ = some (.int .i64 0) := pc 0 (by omega)
  have pck : w2.cell? ⟨g2, (cut l).length, none⟩ = some (.int .i64 (n : Int)) := by rw [pc _ (Nat.le_refl _), pl_last, ← hn.out]
  have HPC : Hid (∀ i, i ≤ (cut l).length → w2.cell? ⟨g2, i, none⟩ = some (.int .i64 ((plK i l : Nat) : Int))) := pc
  have HRC : Hid (∀ i, i < (cut l).length → w2.cell? ⟨w1.heap.size, i, none⟩ = some (.int .i64 ((runesOf (cut l)).getD i 0))) := rc
  have HB2 : Hid (Bytes w2 b off l) := (hB.out.below hbw2 hbN)
  have HT2 : Hid (Tabs w2) := hT.out.below hbw2 h2
  clear hcut haw hpl hPL hr2 hp2 pc rc
  generalize hK : (cut l).length = K at *
  have HK : Hid ((cut l).length = K) := hK
  clear hK
  go_wp2
  clear pc0 pck
  go_loopw [8] (fun c wr => ∃ (i : Nat), i ≤ K ∧ c = .int .i64 i ∧ Below w2.heap.size w2 wr) (fun c _ => K - (intOf c).toNat)
  case atStart => exact ⟨0, by omega, rfl, Below.refl _ _⟩
  case round =>
    obtain ⟨i, hi, rfl, hbw⟩ := hrel
    have hsw := hbw.size
    by_cases hlt : i < K
    · have e0 := (hbw.cell (p := ⟨g2, i, none⟩) hg2lt).trans (HPC.out i (by omega))
      have e1 := (hbw.cell (p := ⟨g2, i + 1, none⟩) hg2lt).trans (HPC.out (i + 1) (by omega))
      have r0 := (hbw.cell (p := ⟨w1.heap.size, i, none⟩) hg1lt).trans (HRC.out i hlt)
      obtain ⟨q1, q2, q3, q4, q5, q6, q7⟩ := pl_step l hL.out i (by rw [HK.out]; exact hlt)
      rw [← hn.out] at q1 q5
      generalize hr : (runesOf (cut l)).getD i 0 = r at *
      generalize hp0 : plK i l = p0 at *
      generalize hp1 : plK (i + 1) l = p1 at *
      generalize hsd : sd (l.drop p0) = ln at *
      have HQ7 : Hid ((1 < ln ∨ ¬ r = 65533) → enc r = (l.drop p0).take ln) := q7
      have HQ6 : Hid (dom r = true) := q6
      have z1 : p0 + ln ≤ p1 := by omega
      have z2 : p1 ≤ p0 + ln := by omega
      have hdom := dom40 r
      rw [q6] at hdom
      clear hr hp0 hp1 hsd q7 q6 q2
      have hI0 : (0 : Int) ≤ (i : Int) + 1 := by omega
      have hI1 : (i : Int) + 1 < (K : Int) + 1 := by omega
      have hI2 : (i : Int) < (K : Int) + 1 := by omega
      have hI4 : (i : Int) + 1 < ((K + 1 : Nat) : Int) := by omega
      have hI5 : (i : Int) < ((K + 1 : Nat) : Int) := by omega
      go_wp2
      go_quiet (fail)
      by_cases hcc : 1 < ln ∨ ¬ r = 65533
      · have hen : enc r = (l.drop p0).take ln := HQ7.out hcc
        have HEN : Hid (enc r = (l.drop p0).take ln) := hen
        have hll : (enc r).length = ln := by rw [hen, List.length_take, List.length_drop, ← hn.out]; omega
        have hone : ∀ k', k' < [r].length → (wr.drewN nq).cell? ⟨w1.heap.size, i + k', none⟩ = some (.int .i64 ([r].getD k' 0)) := by
          intro k' hk'
          obtain rfl : k' = 0 := by simp at hk'; omega
          exact r0
        have hints : IntsAt (wr.drewN nq).heap.size (wr.drewN nq) (.slice (some ⟨w1.heap.size, i, none⟩) 1 (n - i)) [r] := ⟨_, _, rfl, by simp; omega, by omega, .inr ⟨w1.heap.size, i, rfl, by simp; omega, hone⟩⟩
        have hbwq : Below w2.heap.size w2 (wr.drewN nq) := below_drewN hbw nq
        have henc := encode19 [r] (some ⟨w1.heap.size, i, none⟩) 1 (n - i) (wr.drewN nq) rfl hints (HT2.out.below hbwq (by omega)) (by simp; omega)
        have hencl : encL [r] = enc r := by simp [encL]
        clear hen hone hints
        have hor : 1 < (p1 : Int) - (p0 : Int) ∨ (r != 65533) = true := by
          rcases hcc with h | h
          · left; omega
          · right; simp [h]
        have hcall : ∀ {w' : World} {e : Ending}, EncEnd (wr.drewN nq).heap.size (wr.drewN nq) w' e [r] → ∃ g5 cp5, e = .returned (.tuple #[.slice (some ⟨g5, 0, none⟩) ln cp5, .int .i64 0]) ∧ Below w2.heap.size w2 w' ∧ (∀ q, (convert 25 9 (.slice (some ⟨g5, 0, none⟩) ln cp5)).run Tryd.prog (w'.drewN q) = .ok (.string (strOfNums (enc r))) (w'.drewN q)) ∧
            (∀ q, (convert 25 9 (.slice (some ⟨b, off + p0, none⟩) (p1 - p0) (cap - p0))).run Tryd.prog (w'.drewN q) = .ok (.string (strOfNums (enc r))) (w'.drewN q)) := by
          intro w' e hE
          obtain ⟨hbE, hE⟩ := hE
          rw [if_neg (by simp), if_pos (by simp [HQ6.out]), hencl, hll] at hE
          obtain ⟨g5, cp5, rfl, ho5⟩ := hE
          have hb5 : Below w2.heap.size w2 w' := hbwq.trans (hbE.mono (by simp; omega))
          have hB5 : Bytes w' b off l := HB2.out.below hb5 (by omega)
          refine ⟨g5, cp5, rfl, hb5, fun q => str_slice (w'.drewN q) g5 0 _ cp5 (enc r) hll (fun k' hk' => bytes_own ho5 hll k' (by omega)), fun q => str_slice (w'.drewN q) b (off + p0) _ (cap - p0) (enc r) (by omega) (fun k' hk' => ?_)⟩
          have h7 := hB5.drop p0 k' (by rw [List.length_drop, ← hn.out]; omega)
          refine Eq.trans h7 ?_
          rw [HEN.out]
          simp [List.getD_eq_getElem?_getD, List.getElem?_take_of_lt (show k' < ln by omega)]
        clear hencl hll HEN
        generalize strOfNums (enc r) = S at hcall
        go_wp2_with (first | (go_at_call 40; refine (hdom _).mono ?_; rintro e w' ⟨rfl, rfl⟩) | (go_at_call 19; refine henc.mono ?_; intro e w5 hE; obtain ⟨g5, cp5, rfl, hb5, hS1, hS2⟩ := hcall hE; have f0 := (hb5.cell (p := ⟨g2, i, none⟩) hg2lt).trans ((hbw.cell (p := ⟨g2, i, none⟩) hg2lt).symm.trans e0); have f1 := (hb5.cell (p := ⟨g2, i + 1, none⟩) hg2lt).trans ((hbw.cell (p := ⟨g2, i + 1, none⟩) hg2lt).symm.trans e1); clear hE))
        all_goals try (go_quiet (fail))
        all_goals try go_wp2
        all_goals go_roundw
        all_goals first | exact ⟨i + 1, by omega, by go_num, below_drewN hb5 _⟩ | exact ⟨i + 1, by omega, by go_num, below_drewN hbw _⟩ | (simp [intOf]; omega)
      · have hl1 : ln = 1 := by omega
        have hr1 : r = 65533 := by omega
        subst hr1
        go_wp2_with (go_at_call 40; refine (hdom _).mono ?_; rintro e w' ⟨rfl, rfl⟩)
        go_roundw
        case rel => exact ⟨i + 1, by omega, by go_num, below_drewN hbw _⟩
        case measure => simp [intOf]; omega
    · obtain rfl : i = K := by omega
      obtain ⟨hk, hkm⟩ := HK0.out
      have f0 := (hbw.cell (p := ⟨g2, k, none⟩) hg2lt).trans (HPC.out k hk)
      have hpk := pl_le l k (by rw [HK.out]; exact hk)
      have hah := cut_ahead l k (by rw [HK.out]; exact hk)
      have hbe := cut_behind l k (by rw [HK.out]; exact hk)
      rw [← hn.out] at hpk
      generalize hpp : plK k l = pk at *
      have HAH : Hid (runesOf (cut (l.take pk)) = (runesOf (cut l)).take k) := hah
      have HBE : Hid (runesOf (cut (l.drop pk)) = (runesOf (cut l)).drop k) := hbe
      clear hah hbe hpp
      have hI0 : (0 : Int) ≤ (k : Int) := by omega
      have hI1 : (k : Int) < (i : Int) + 1 := by omega
      have hI5 : (k : Int) < ((i + 1 : Nat) : Int) := by omega
      have hTr : Tabs wr := HT2.out.below hbw (by omega)
      have hBr : Bytes wr b off l := HB2.out.below hbw (by omega)
      have hc1 := cut13 (l.take pk) (some ⟨b, off, none⟩) pk cap wr (by rw [List.length_take, ← hn.out]; omega) (by omega) hTr (by omega) ⟨_, cap, by rw [List.length_take, ← hn.out]; congr 1; omega, by rw [List.length_take]; omega, by omega, .inr ⟨b, off, rfl, by omega, fun j hj => by
        rw [List.length_take] at hj
        rw [hBr j (by omega)]
        simp [List.getD_eq_getElem?_getD, List.getElem?_take_of_lt (show j < pk by omega)]⟩⟩ (fun j => by
          have := hL.out j
          by_cases hj : j < pk
          · simpa [List.getD_eq_getElem?_getD, List.getElem?_take_of_lt hj] using this
          · simp [List.getD_eq_getElem?_getD, List.getElem?_take, hj])
      have hlen1 : (cut (l.take pk)).length = k := by rw [← runes_len, HAH.out, List.length_take, runes_len, HK.out]; omega
      have hlen2 : (cut (l.drop pk)).length = i - k := by rw [← runes_len, HBE.out, List.length_drop, runes_len, HK.out]
      have HC1 : Hid (∀ {e w'}, CutEnd wr w' e (l.take pk) pk → ∃ g3, wr.heap.size < g3 ∧ e = .returned (.tuple #[.slice (some ⟨wr.heap.size, 0, none⟩) k pk, .slice (some ⟨g3, 0, none⟩) (k + 1) (pk + 1)]) ∧ IntsC w' (.slice (some ⟨wr.heap.size, 0, none⟩) k pk) ((runesOf (cut l)).take k) ∧ wr.heap.size < w'.heap.size ∧ Below wr.heap.size wr w') := by
        intro e w' hE
        obtain ⟨g3, hg3, he, ho, _, hb⟩ := hE
        rw [hlen1] at he ho
        refine ⟨g3, hg3, he, ?_, (ho.lt _ rfl).2, hb⟩
        rw [← HAH.out]
        exact ints_own (by rw [runes_len, hlen1]) ho
      have hkmN : at' < 0 → (at' + 1).tmod ((i : Int) + 1) = -(k : Int) := by
        intro hat
        rw [if_pos hat] at hkm
        have h3 := Int.neg_tmod (at' + 1) ((i : Int) + 1)
        rw [Int.tmod_eq_emod_of_nonneg (by omega), hkm] at h3
        omega
      have hkmP : ¬ at' < 0 → at' % ((i : Int) + 1) = (k : Int) := by
        intro hat
        rwa [if_neg hat] at hkm
      have HN : Hid (at' < 0 → (at' + 1).tmod ((i : Int) + 1) = -(k : Int)) := hkmN
      have HP : Hid (¬ at' < 0 → at' % ((i : Int) + 1) = (k : Int)) := hkmP
      have HL2 : Hid ((cut (l.drop pk)).length = i - k) := hlen2
      clear hlen1 hTr hBr hkm hkmN hkmP hlen2
      have hkm2 := HP.out (by omega)
      clear HN HP
      go_wp2_with fail
      refine hc1.mono ?_
      intro e w3 hE
      obtain ⟨g3, hg3, rfl, hx3, hs3, hb3⟩ := HC1.out hE
      have hbw3 := hbw.trans (hb3.mono hsw)
      have f3 := (hbw3.cell (p := ⟨g2, k, none⟩) hg2lt).trans ((hbw.cell (p := ⟨g2, k, none⟩) hg2lt).symm.trans f0)
      clear hE hc1 HC1
      have hpc := HPC0.out
      go_wp2_with fail
      refine (cut_drop l b off n pk k (i - k) w3 hn.out hn2 hpk (HT2.out.below hbw3 (by omega)) (by omega) (HB2.out.below hbw3 (by omega)) (by omega) hL.out HBE.out HL2.out _ _ (by omega) (by first | exact .inl rfl | (right; omega))).mono ?_
      rintro e w4 ⟨g4, hg4, rfl, hx4, hb4⟩
      have hbw4 := hbw3.trans (hb4.mono (by omega))
      have hx3' := hx3.below hb4
      have hRl := runes_len l
      rw [HK.out] at hRl
      have hcell4 : Hid (∀ j, j < (runesOf (cut l)).length → w4.cell? ⟨w1.heap.size, j, none⟩ = some (.int .i64 ((runesOf (cut l)).getD j 0))) := fun j hj => (hbw4.cell (p := ⟨w1.heap.size, j, none⟩) hg1lt).trans (HRC.out j (by omega))
      have hT4 : Hid (Tabs w4) := HT2.out.below hbw4 (by omega)
      have hdm : Hid ((runesOf (cut l)).all dom = true) := cut_all_dom l
      have hb40 : Below w.heap.size w w4 := hbw2.trans (hbw4.mono (by omega))
      have hs4 := hb4.size
      clear HRC HPC HB2 HT2 HAH HBE HL2 hb4 hx3 f0 f3
      generalize runesOf (cut l) = R at *
      have HRl : Hid (R.length = i) := hRl
      clear hRl
      go_wp2_with fail
      refine (same_true (R.take k) _ _ w4 hx3' (ints_take (by rw [HRl.out]; exact hk) hcell4.out) (by rw [List.length_take]; omega)).mono ?_
      rintro e w5 ⟨rfl, q5, rfl⟩
      go_wp2_with fail
      have hdrop : ∀ ad c, (ad = some ⟨w1.heap.size, k, none⟩ ∨ i - k = 0) → Calls Tryd.prog 17 #[.slice (some ⟨w3.heap.size, 0, none⟩) (i - k) (n - pk), .slice ad (i - k) c] (w4.drewN q5) fun e w' => e = .returned (.bool true) ∧ ∃ q, w' = (w4.drewN q5).drewN q := fun ad c had => same_true (R.drop k) _ _ (w4.drewN q5) (hx4.drewN q5) ((ints_drop (g := w1.heap.size) (R := R) (k := k) ad (by rw [HRl.out]) had hcell4.out).drewN q5) (by rw [List.length_drop, HRl.out]; omega)
      refine (hdrop _ _ (by first | exact .inl rfl | (right; omega))).mono ?_
      rintro e w6 ⟨rfl, q6, rfl⟩
      go_wp2_with fail
      have hIA : IntsAt (w4.drewN (q5 + q6)).heap.size (w4.drewN (q5 + q6)) (.slice (some ⟨w1.heap.size, 0, none⟩) i n) R := ⟨_, n, by rw [HRl.out], by rw [HRl.out]; omega, by omega, .inr ⟨w1.heap.size, 0, rfl, by simp; omega, fun j hj => by rw [Nat.zero_add]; exact hcell4.out j hj⟩⟩
      have henc := encode_ok R _ (some ⟨w1.heap.size, 0, none⟩) i n (w4.drewN (q5 + q6)) rfl HRl.out.symm (by omega) hIA hT4.out (by simp; omega) hdm.out
      refine henc.mono ?_
      rintro e w7 ⟨g6, cp6, rfl, hBA, hb7⟩
      have hb70 : Below w.heap.size w w7 := (below_drewN hb40 (q5 + q6)).trans (hb7.mono (by have := hb40.size; simpa using this))
      have hs7 : w4.heap.size ≤ w7.heap.size := hb7.size
      have hIC7 : IntsC w7 (.slice (some ⟨w1.heap.size, 0, none⟩) i n) R := (hIA.c).below hb7
      have hcb := cut_back R g6 cp6 _ w7 rfl (by rw [HRl.out]; omega) hdm.out hBA ((tabs_drewN hT4.out (q5 + q6)).below hb7 (by simp; omega)) (by omega)
      clear henc hIA hBA hdrop hcell4 hT4
      go_wp2_with fail
      refine hcb.mono ?_
      rintro e w8 ⟨v1, v2, rfl, hI8, hb8⟩
      have hb80 : Below w.heap.size w w8 := hb70.trans (hb8.mono (by omega))
      have hsm := same_true R v1 (.slice (some ⟨w1.heap.size, 0, none⟩) i n) w8 hI8 (hIC7.below hb8) (by rw [HRl.out]; omega)
      clear hcb hIC7 hI8
      go_wp2_with fail
      refine hsm.mono ?_
      rintro e w9 ⟨rfl, q9, rfl⟩
      go_wp2
      go_ret
      exact ⟨rfl, below_drewN hb80 _⟩
end Go.Proofs.YtjglehklfdhgaaaDoor
