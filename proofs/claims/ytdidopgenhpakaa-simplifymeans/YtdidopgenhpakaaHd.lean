/- HELPERS: the law SimplifyRests. -/
import Derived.Test.YtdidopgenhpakaaHc
namespace Go.Proofs.Ytdidopgenhpakaa
open Go.RowKit
set_option linter.unusedVariables false
set_option linter.unusedSimpArgs false
theorem err_ok {t : Tn} (h : errS t = 0) : t.sound = true ∧ t.bigS = false := by
  unfold errS at h
  split at h
  · rename_i hs
    split at h
    · cases h
    · rename_i hb; exact ⟨hs, by simpa using hb⟩
  · cases h
theorem err_three (t : Tn) : errS t = 0 ∨ (errS t = 50 ∧ sizeT t = 0) ∨ (errS t = 3 ∧ 0 < sizeT t) := by
  unfold errS sizeT
  cases t.sound
  · right; left; exact ⟨rfl, rfl⟩
  · cases t.bigS
    · left; rfl
    · right; right
      refine ⟨rfl, ?_⟩
      have := t.S.pos
      simp only [if_true, capN]
      omega
/-- what is known of a form that was made -/
theorem form_facts {t : Tn} (h : errS t = 0) : Nf t.S ∧ t.S.nodes ≤ 200000 ∧ t.S.sound = true ∧ errS t.S = 0 ∧ simT t.S = t.S ∧ sizeT t.S = t.S.nodes ∧ sizeT t = t.S.nodes ∧ simT t = t.S := by
  obtain ⟨hs, hb⟩ := err_ok h
  have hsd := hs
  simp only [Tn.sound, Bool.and_eq_true, decide_eq_true_eq] at hsd
  have hnf := nf_S t hsd.1.1
  have hbb := hb
  simp only [Tn.bigS, Bool.or_eq_false_iff, decide_eq_false_iff_not] at hbb
  have hss : t.S.sound = true := by
    simp only [Tn.sound, Bool.and_eq_true, decide_eq_true_eq]
    exact ⟨⟨hnf.fine, by omega⟩, by omega⟩
  have hbs : t.S.bigS = false := by unfold Tn.bigS; rw [hnf.S_eq]; exact hb
  have hes : errS t.S = 0 := by unfold errS; rw [hss, hbs]; rfl
  refine ⟨hnf, by omega, hss, hes, ?_, ?_, ?_, ?_⟩
  · unfold simT; rw [hes, if_pos rfl]; exact hnf.S_eq
  · unfold sizeT; rw [hss, hnf.S_eq]; simp only [if_true, capN]; omega
  · unfold sizeT; rw [hs]; simp only [if_true, capN]; omega
  · unfold simT; rw [h, if_pos rfl]
set_option maxRecDepth 100000 in
set_option maxHeartbeats 8000000 in
theorem rests4 {w : World} {N : Nv} {t : Tn} (h : TI w w.heap.size N t) (hsm : t.small = true) : Calls Try.prog 4 #[N.v] w fun e w' => e = .returned (.bool true) ∧ Below w.heap.size w w' := by
  have hBW : Below w.heap.size w (w.alloc (.cells #[.int .i64 N.k, .slice N.r1 N.r2 N.r3, .int .i64 N.a2, .slice N.s1 N.s2 N.s3, .int .i64 N.a4, .int .i64 N.a5, .bool N.a6, .int .i64 N.a7, .string N.a8] 25)) := Joins.below_alloc1 w _
  have hBN : BN (w.alloc (.cells #[.int .i64 N.k, .slice N.r1 N.r2 N.r3, .int .i64 N.a2, .slice N.s1 N.s2 N.s3, .int .i64 N.a4, .int .i64 N.a5, .bool N.a6, .int .i64 N.a7, .string N.a8] 25)) w.heap.size N := heap_alloc_new w _
  obtain ⟨W, hW⟩ : ∃ W, W = w.alloc (.cells #[.int .i64 N.k, .slice N.r1 N.r2 N.r3, .int .i64 N.a2, .slice N.s1 N.s2 N.s3, .int .i64 N.a4, .int .i64 N.a5, .bool N.a6, .int .i64 N.a7, .string N.a8] 25) := ⟨_, rfl⟩
  have hSW : W.heap.size = w.heap.size + 1 := by rw [hW]; simp
  rw [← hW] at hBN hBW
  have HTW : Hid (∀ V, Below W.heap.size W V → TI V V.heap.size N t ∧ BN V w.heap.size N ∧ Below w.heap.size w V) := fun V hV =>
    ⟨(h.kept fun b hb => (hV.block b (by omega)).trans (hBW.block b hb)).le (by have := hV.size; omega), (hV.block w.heap.size (by omega)).trans hBN, hBW.trans (Joins.below_le hV (by omega))⟩
  have HC1 := deep10 (HTW.out W (Below.refl _ _)).1
  obtain ⟨z, hz⟩ : ∃ z, z = w.heap.size := ⟨_, rfl⟩
  rw [← hz] at HTW hBN
  obtain ⟨k, r1, r2, r3, a2, s1, s2, s3, a4, a5, a6, a7, a8⟩ := N
  obtain ⟨q0, q1, q2, q3, q4, q5, q6, q7, q8⟩ := nine' hBN
  dsimp only at hW HC1 q0 q1 q2 q3 q4 q5 q6 q7 q8
  have HZ := hid hz
  clear hBN hBW hSW h
  go_enter Try.func4, Try.ntmps4
  go_upto_region 1 with fail
  rw [← hz, ← hW]
  clear hW hz
  go_upto_region 2 with (first | (go_at_call 7; (with_reducible refine HC1.mono ?_); rintro e w1 ⟨rfl, hb1⟩; have HB1 := hid hb1; clear hb1 HC1))
  by_cases hdp : 4194304 < t.nodes
  · have d1 : decide (4194304 < t.nodes) = true := by simpa using hdp
    rw [d1]
    clear hdp d1
    go_wp2
    all_goals go_ret
    all_goals exact ⟨rfl, by rw [← HZ.out]; exact (HTW.out _ HB1.out).2.2⟩
  have d1 : decide (4194304 < t.nodes) = false := by simpa using hdp
  rw [d1]
  clear hdp d1
  have HC2 := heavy8 (HTW.out _ HB1.out).1 hsm
  clear q0 q1 q2 q3 q4 q5 q6 q7 q8
  obtain ⟨q0, q1, q2, q3, q4, q5, q6, q7, q8⟩ := nine' (HTW.out _ HB1.out).2.1
  go_upto_region 5 with (first | (go_at_call 8; (with_reducible refine HC2.mono ?_); rintro e w2 ⟨hv, rfl, hb2⟩; have hbb := HB1.out.trans (Joins.below_le hb2 HB1.out.size); have HB2 := hid hbb; clear hb2 hbb HC2))
  cases hv
  case true =>
    go_wp2
    all_goals go_ret
    all_goals exact ⟨rfl, by rw [← HZ.out]; exact (HTW.out _ HB2.out).2.2⟩
  have HC3 := awake9 w2
  go_upto_region 8 with (first | (go_at_call 9; (with_reducible refine HC3.mono ?_); rintro e w3 ⟨rfl, hb3⟩; have hbb := HB2.out.trans (Joins.below_le hb3 HB2.out.size); have HB3 := hid hbb; clear hb3 hbb HC3))
  have HC4 := simplify11 (HTW.out _ HB3.out).1
  clear q0 q1 q2 q3 q4 q5 q6 q7 q8
  obtain ⟨q0, q1, q2, q3, q4, q5, q6, q7, q8⟩ := nine' (HTW.out _ HB3.out).2.1
  obtain ⟨er, her⟩ : ∃ er, er = errS t := ⟨_, rfl⟩
  rw [← her] at HC4
  have HER := hid her
  clear her
  go_upto_region 9 with (first | (go_at_call 11; (with_reducible refine HC4.mono ?_); rintro e w4 ⟨M, rfl, AA, hM, hAA, hb4⟩; have HM := hid hM; have hbb := HB3.out.trans (Joins.below_le hb4 HB3.out.size); have HB4 := hid hbb; clear hM hAA hb4 hbb HC4))
  obtain ⟨V, hV⟩ : ∃ V, V = w4.alloc (.cells #[.int .i64 M.k, .slice M.r1 M.r2 M.r3, .int .i64 M.a2, .slice M.s1 M.s2 M.s3, .int .i64 M.a4, .int .i64 M.a5, .bool M.a6, .int .i64 M.a7, .string M.a8] 25) := ⟨_, rfl⟩
  rw [← hV]
  obtain ⟨x, hx⟩ : ∃ x, x = w4.heap.size := ⟨_, rfl⟩
  rw [← hx]
  have hbV : Below w4.heap.size w4 V := by rw [hV]; exact Joins.below_alloc1 w4 _
  have hsV : V.heap.size = x + 1 := by rw [hV, hx]; simp
  have hMV : BN V x M := by rw [hV, hx]; exact heap_alloc_new w4 _
  have hTM : TI V x M (simT t) := by rw [hx]; exact HM.out.ti.kept hbV.block
  have hbWV := HB4.out.trans (Joins.below_le hbV HB4.out.size)
  have HTM : Hid (∀ U, Below V.heap.size V U → TI U U.heap.size M (simT t) ∧ BN U x M ∧ Below W.heap.size W U) := fun U hU =>
    ⟨(hTM.kept fun b hb => hU.block b (by omega)).le (by have := hU.size; omega), (hU.block x (by omega)).trans hMV, hbWV.trans (Joins.below_le hU hbWV.size)⟩
  have HC5 := size12 (HTW.out _ hbWV).1
  clear q0 q1 q2 q3 q4 q5 q6 q7 q8
  obtain ⟨q0, q1, q2, q3, q4, q5, q6, q7, q8⟩ := nine' (HTW.out _ hbWV).2.1
  obtain ⟨sz, hsz⟩ : ∃ sz, sz = sizeT t := ⟨_, rfl⟩
  rw [← hsz] at HC5
  have HSZ := hid hsz
  clear hV hx hbV hsV hMV hTM hbWV hsz HM
  go_upto_region 10 with (first | (go_at_call 12; (with_reducible refine HC5.mono ?_); rintro e w5 ⟨rfl, hb5⟩; have HB5 := hid hb5; clear hb5 HC5))
  clear q0 q1 q2 q3 q4 q5 q6 q7 q8
  obtain ⟨q0, q1, q2, q3, q4, q5, q6, q7, q8⟩ := nine' (HTM.out _ HB5.out).2.1
  have h3 := err_three t
  rw [← HER.out, ← HSZ.out] at h3
  by_cases he : er = 0
  · have g1 : (er != 0) = false := by simp [he]
    have hff := form_facts (by rw [← HER.out]; exact he)
    have HFF := hid hff
    have hTT : ∀ U, Below V.heap.size V U → TI U U.heap.size M t.S := fun U hU => by have := (HTM.out U hU).1; rwa [hff.2.2.2.2.2.2.2] at this
    have HTT := hid hTT
    clear hff hTT h3
    have HC6 := nodes20 (HTT.out _ HB5.out) HFF.out.2.1 w5 (Nat.le_refl _) (fun _ _ => rfl)
    rw [← HFF.out.2.2.2.2.2.2.1, ← HSZ.out] at HC6
    go_upto_region 14 with (first | (go_at_call 20; (with_reducible refine HC6.mono ?_); rintro e w6 ⟨rfl, hb6⟩; have hbb := HB5.out.trans (Joins.below_le hb6 HB5.out.size); have HB6 := hid hbb; clear hb6 hbb HC6))
    have HC7 := simple21 (HTT.out _ HB6.out) HFF.out.1 HFF.out.2.1 0 w6 (fun _ => by decide) (fun _ => by decide) (fun _ => by decide) (Nat.le_refl _) (fun _ _ => rfl)
    clear q0 q1 q2 q3 q4 q5 q6 q7 q8
    obtain ⟨q0, q1, q2, q3, q4, q5, q6, q7, q8⟩ := nine' (HTM.out _ HB6.out).2.1
    go_upto_region 15 with (first | (go_at_call 21; (with_reducible refine HC7.mono ?_); rintro e w7 ⟨rfl, hb7⟩; have hbb := HB6.out.trans (Joins.below_le hb7 HB6.out.size); have HB7 := hid hbb; clear hb7 hbb HC7))
    have HC8 := sound25 (HTT.out _ HB7.out)
    rw [HFF.out.2.2.1] at HC8
    simp only [if_true] at HC8
    clear q0 q1 q2 q3 q4 q5 q6 q7 q8
    obtain ⟨q0, q1, q2, q3, q4, q5, q6, q7, q8⟩ := nine' (HTM.out _ HB7.out).2.1
    go_upto_region 16 with (first | (go_at_call 22; (with_reducible refine HC8.mono ?_); rintro e w8 ⟨rfl, hb8⟩; have hbb := HB7.out.trans (Joins.below_le hb8 HB7.out.size); have HB8 := hid hbb; clear hb8 hbb HC8))
    have HC9 := simplify11 (HTT.out _ HB8.out)
    rw [HFF.out.2.2.2.1, HFF.out.2.2.2.2.1] at HC9
    clear q0 q1 q2 q3 q4 q5 q6 q7 q8
    obtain ⟨q0, q1, q2, q3, q4, q5, q6, q7, q8⟩ := nine' (HTM.out _ HB8.out).2.1
    go_upto_region 17 with (first | (go_at_call 11; (with_reducible refine HC9.mono ?_); rintro e w9 ⟨M2, rfl, AA2, hM2, hAA2, hb9⟩; have HM2 := hid hM2; have hbb := HB8.out.trans (Joins.below_le hb9 HB8.out.size); have HB9 := hid hbb; clear hM2 hAA2 hb9 hbb HC9))
    obtain ⟨V2, hV2⟩ : ∃ V2, V2 = w9.alloc (.cells #[.int .i64 M2.k, .slice M2.r1 M2.r2 M2.r3, .int .i64 M2.a2, .slice M2.s1 M2.s2 M2.s3, .int .i64 M2.a4, .int .i64 M2.a5, .bool M2.a6, .int .i64 M2.a7, .string M2.a8] 25) := ⟨_, rfl⟩
    rw [← hV2]
    obtain ⟨y, hy⟩ : ∃ y, y = w9.heap.size := ⟨_, rfl⟩
    rw [← hy]
    have hbV2 : Below w9.heap.size w9 V2 := by rw [hV2]; exact Joins.below_alloc1 w9 _
    have hsV2 : V2.heap.size = y + 1 := by rw [hV2, hy]; simp
    have hMV2 : BN V2 y M2 := by rw [hV2, hy]; exact heap_alloc_new w9 _
    have hTM2 : TI V2 y M2 t.S := by rw [hy]; exact HM2.out.ti.kept hbV2.block
    have hbVV2 := HB9.out.trans (Joins.below_le hbV2 HB9.out.size)
    have HTM2 : Hid (∀ U, Below V2.heap.size V2 U → TI U U.heap.size M2 t.S ∧ BN U y M2) := fun U hU =>
      ⟨(hTM2.kept fun b hb => hU.block b (by omega)).le (by have := hU.size; omega), (hU.block y (by omega)).trans hMV2⟩
    have HC10 := size12 (HTT.out _ hbVV2)
    rw [HFF.out.2.2.2.2.2.1, ← HFF.out.2.2.2.2.2.2.1, ← HSZ.out] at HC10
    clear q0 q1 q2 q3 q4 q5 q6 q7 q8
    obtain ⟨q0, q1, q2, q3, q4, q5, q6, q7, q8⟩ := nine' (HTM.out _ hbVV2).2.1
    have HBV2 := hid hbVV2
    clear hV2 hy hbV2 hsV2 hMV2 hTM2 hbVV2 HM2
    go_upto_region 18 with (first | (go_at_call 12; (with_reducible refine HC10.mono ?_); rintro e w10 ⟨rfl, hb10⟩; have HB10' := hid hb10; have hbb := HBV2.out.trans (Joins.below_le hb10 HBV2.out.size); have HB10 := hid hbb; clear hb10 hbb HC10))
    have HC11 := same13 (HTM2.out _ HB10'.out).1 (HTT.out _ HB10.out)
    clear q0 q1 q2 q3 q4 q5 q6 q7 q8
    obtain ⟨q0, q1, q2, q3, q4, q5, q6, q7, q8⟩ := nine' (HTM.out _ HB10.out).2.1
    obtain ⟨o0, o1, o2, o3, o4, o5, o6, o7, o8⟩ := nine' (HTM2.out _ HB10'.out).2
    have hszb : sz ≤ 200000 := by rw [HSZ.out, HFF.out.2.2.2.2.2.2.1]; exact HFF.out.2.1
    have g2 : decide ((sz : Int) ≤ 200000) = true := by simp; omega
    have g3 : ((sz : Int) == (sz : Int)) = true := by simp
    go_wp2_with (first | (go_at_call 15; (with_reducible refine HC11.mono ?_); rintro e w11 ⟨rfl, hb11⟩; have hbb := HB10.out.trans (Joins.below_le hb11 HB10.out.size); have HB11 := hid hbb; clear hb11 hbb HC11))
    all_goals go_ret
    all_goals exact ⟨rfl, by rw [← HZ.out]; exact (HTW.out _ (HTM.out _ HB11.out).2.2).2.2⟩
  · have g1 : (er != 0) = true := by simp [he]
    have hT0 : TI w5 w5.heap.size M zeroT := by
      have := (HTM.out _ HB5.out).1
      have e : simT t = zeroT := by unfold simT; rw [← HER.out, if_neg he]
      rwa [e] at this
    have HC6 := same13 hT0 (z_ti w5)
    clear hT0
    rcases h3 with h3 | ⟨h3, h4⟩ | ⟨h3, h4⟩
    · exact absurd h3 he
    · have g2 : (er == 50) = true := by simp [h3]
      have g3 : ((sz : Int) == 0) = true := by simp [h4]
      clear h3 h4 he
      go_wp2_with (first | (go_at_call 15; (with_reducible refine HC6.mono ?_); rintro e w6 ⟨rfl, hb6⟩; have hbb := HB5.out.trans (Joins.below_le hb6 HB5.out.size); have HB6 := hid hbb; clear hb6 hbb HC6))
      all_goals go_ret
      all_goals exact ⟨rfl, by rw [← HZ.out]; exact (HTW.out _ (HTM.out _ HB6.out).2.2).2.2⟩
    · have g2 : (er == 50) = false := by simp [h3]
      have g3 : (er == 3) = true := by simp [h3]
      have g4 : decide ((sz : Int) > 0) = true := by simp; omega
      have g5 : decide (0 < sz) = true := by simpa using h4
      clear h3 h4 he
      go_wp2_with (first | (go_at_call 15; (with_reducible refine HC6.mono ?_); rintro e w6 ⟨rfl, hb6⟩; have hbb := HB5.out.trans (Joins.below_le hb6 HB5.out.size); have HB6 := hid hbb; clear hb6 hbb HC6))
      all_goals go_ret
      all_goals exact ⟨rfl, by rw [← HZ.out]; exact (HTW.out _ (HTM.out _ HB6.out).2.2).2.2⟩
end Go.Proofs.Ytdidopgenhpakaa
