/- HELPERS: the law SimplifyGroups. -/
import Derived.Test.YtdidopgenhpakaaIa
namespace Go.Proofs.Ytdidopgenhpakaa
open Go.RowKit
set_option linter.unusedVariables false
set_option linter.unusedSimpArgs false
theorem gr_nil (w : World) : GR w.heap.size w (.slice none 0 0) (.slice none 0 0) [] := ⟨World.ownsRow_nil _ _ _ _, World.ownsRow_nil _ _ _ _, fun c h => by cases h⟩
set_option maxRecDepth 100000 in
set_option maxHeartbeats 8000000 in
theorem groups6 {w : World} {N : Nv} {t : Tn} (h : TI w w.heap.size N t) (hsm : t.small = true) : Calls Try.prog 6 #[N.v] w fun e w' => e = .returned (.bool true) ∧ Below w.heap.size w w' := by
  have hBW : Below w.heap.size w (w.alloc (.cells #[.int .i64 N.k, .slice N.r1 N.r2 N.r3, .int .i64 N.a2, .slice N.s1 N.s2 N.s3, .int .i64 N.a4, .int .i64 N.a5, .bool N.a6, .int .i64 N.a7, .string N.a8] 25)) := Joins.below_alloc1 w _
  have hBN : BN (w.alloc (.cells #[.int .i64 N.k, .slice N.r1 N.r2 N.r3, .int .i64 N.a2, .slice N.s1 N.s2 N.s3, .int .i64 N.a4, .int .i64 N.a5, .bool N.a6, .int .i64 N.a7, .string N.a8] 25)) w.heap.size N := heap_alloc_new w _
  obtain ⟨W, hW⟩ : ∃ W, W = w.alloc (.cells #[.int .i64 N.k, .slice N.r1 N.r2 N.r3, .int .i64 N.a2, .slice N.s1 N.s2 N.s3, .int .i64 N.a4, .int .i64 N.a5, .bool N.a6, .int .i64 N.a7, .string N.a8] 25) := ⟨_, rfl⟩
  have hSW : W.heap.size = w.heap.size + 1 := by rw [hW]; simp
  rw [← hW] at hBN hBW
  have HTW : Hid (∀ V, Below W.heap.size W V → TI V V.heap.size N t ∧ BN V w.heap.size N ∧ Below w.heap.size w V) := fun V hV =>
    ⟨(h.kept fun b hb => (hV.block b (by omega)).trans (hBW.block b hb)).le (by have := hV.size; omega), (hV.block w.heap.size (by omega)).trans hBN, hBW.trans (Joins.below_le hV (by omega))⟩
  have HC1 := deep10 (HTW.out W (Below.refl _ _)).1
  obtain ⟨z, hz⟩ : ∃ z, z = w.heap.size := ⟨_, rfl⟩
  rw [← hz] at HTW hBN
  obtain ⟨k, r1, r2, r3, a2, s1, s2, s3, a4, a5, a6, a7, a8⟩ := N
  obtain ⟨q0, q1, q2, q3, q4, q5, q6, q7, q8⟩ := nine' hBN
  dsimp only at hW HC1 q0 q1 q2 q3 q4 q5 q6 q7 q8
  have HZ := hid hz
  clear hBN hBW hSW h
  go_enter Try.func6, Try.ntmps6
  go_upto_region 1 with fail
  rw [← hz, ← hW]
  clear hW hz
  go_upto_region 2 with (first | (go_at_call 7; (with_reducible refine HC1.mono ?_); rintro e w1 ⟨rfl, hb1⟩; have HB1 := hid hb1; clear hb1 HC1))
  by_cases hdp : 4194304 < t.nodes
  · have d1 : decide (4194304 < t.nodes) = true := by simpa using hdp
    rw [d1]
    clear hdp d1
    go_wp2
    all_goals go_ret
    all_goals exact ⟨rfl, by rw [← HZ.out]; exact (HTW.out _ HB1.out).2.2⟩
  have d1 : decide (4194304 < t.nodes) = false := by simpa using hdp
  rw [d1]
  clear hdp d1
  have HC2 := heavy8 (HTW.out _ HB1.out).1 hsm
  clear q0 q1 q2 q3 q4 q5 q6 q7 q8
  obtain ⟨q0, q1, q2, q3, q4, q5, q6, q7, q8⟩ := nine' (HTW.out _ HB1.out).2.1
  go_upto_region 5 with (first | (go_at_call 8; (with_reducible refine HC2.mono ?_); rintro e w2 ⟨hv, rfl, hb2⟩; have hbb := HB1.out.trans (Joins.below_le hb2 HB1.out.size); have HB2 := hid hbb; clear hb2 hbb HC2))
  cases hv
  case true =>
    go_wp2
    all_goals go_ret
    all_goals exact ⟨rfl, by rw [← HZ.out]; exact (HTW.out _ HB2.out).2.2⟩
  have HC3 := awake9 w2
  go_upto_region 8 with (first | (go_at_call 9; (with_reducible refine HC3.mono ?_); rintro e w3 ⟨rfl, hb3⟩; have hbb := HB2.out.trans (Joins.below_le hb3 HB2.out.size); have HB3 := hid hbb; clear hb3 hbb HC3))
  have HC4 := simplify11 (HTW.out _ HB3.out).1
  clear q0 q1 q2 q3 q4 q5 q6 q7 q8
  obtain ⟨q0, q1, q2, q3, q4, q5, q6, q7, q8⟩ := nine' (HTW.out _ HB3.out).2.1
  obtain ⟨er, her⟩ : ∃ er, er = errS t := ⟨_, rfl⟩
  rw [← her] at HC4
  have HER := hid her
  clear her
  go_upto_region 9 with (first | (go_at_call 11; (with_reducible refine HC4.mono ?_); rintro e w4 ⟨M, rfl, AA, hM, hAA, hb4⟩; have HM := hid hM; have hbb := HB3.out.trans (Joins.below_le hb4 HB3.out.size); have HB4 := hid hbb; clear hM hAA hb4 hbb HC4))
  obtain ⟨V, hV⟩ : ∃ V, V = w4.alloc (.cells #[.int .i64 M.k, .slice M.r1 M.r2 M.r3, .int .i64 M.a2, .slice M.s1 M.s2 M.s3, .int .i64 M.a4, .int .i64 M.a5, .bool M.a6, .int .i64 M.a7, .string M.a8] 25) := ⟨_, rfl⟩
  rw [← hV]
  obtain ⟨x, hx⟩ : ∃ x, x = w4.heap.size := ⟨_, rfl⟩
  rw [← hx]
  have hbV : Below w4.heap.size w4 V := by rw [hV]; exact Joins.below_alloc1 w4 _
  have hsV : V.heap.size = x + 1 := by rw [hV, hx]; simp
  have hMV : BN V x M := by rw [hV, hx]; exact heap_alloc_new w4 _
  have hTM : TI V x M (simT t) := by rw [hx]; exact HM.out.ti.kept hbV.block
  have hbWV := HB4.out.trans (Joins.below_le hbV HB4.out.size)
  have HTM : Hid (∀ U, Below V.heap.size V U → TI U U.heap.size M (simT t) ∧ BN U x M ∧ Below W.heap.size W U) := fun U hU =>
    ⟨(hTM.kept fun b hb => hU.block b (by omega)).le (by have := hU.size; omega), (hU.block x (by omega)).trans hMV, hbWV.trans (Joins.below_le hU hbWV.size)⟩
  have HBWV := hid hbWV
  have hsV2 := hsV
  have HSV := hid hsV2
  clear q0 q1 q2 q3 q4 q5 q6 q7 q8 hV hx hbV hsV hMV hTM hbWV HM hsV2
  by_cases he : er = 0
  · have g1 : (er != 0) = false := by simp [he]
    have hff := form_facts (by rw [← HER.out]; exact he)
    have hsd := (err_ok (by rw [← HER.out]; exact he : errS t = 0)).1
    simp only [Tn.sound, Bool.and_eq_true, decide_eq_true_eq] at hsd
    have hTT : ∀ U, Below V.heap.size V U → TI U U.heap.size M t.S := fun U hU => by have := (HTM.out U hU).1; rwa [hff.2.2.2.2.2.2.2] at this
    have HTT := hid hTT
    obtain ⟨hgl, hgm⟩ := groups_same hsd.1.1
    have gn1 := grp_len t []
    have gn2 := grp_len t.S []
    simp only [List.length_nil, Nat.zero_add] at gn1 gn2
    have HC5 := groups26 (HTW.out _ HBWV.out).1 V.heap.size (.slice none 0 0) (.slice none 0 0) [] V (Nat.le_refl _) (Nat.le_refl _) (fun _ _ => rfl) (gr_nil V) (by simp; omega)
    have HC6 := fun (U : World) (hU : Below V.heap.size V U) => groups26 (HTT.out U hU) U.heap.size (.slice none 0 0) (.slice none 0 0) [] U (Nat.le_refl _) (Nat.le_refl _) (fun _ _ => rfl) (gr_nil U) (by simp; omega)
    obtain ⟨L1, hL1⟩ : ∃ L1, L1 = t.grp [] := ⟨_, rfl⟩
    obtain ⟨L2, hL2⟩ : ∃ L2, L2 = t.S.grp [] := ⟨_, rfl⟩
    rw [← hL1] at HC5 hgl hgm gn1
    rw [← hL2] at HC6 hgl hgm gn2
    obtain ⟨n, hn⟩ : ∃ n, n = L1.length := ⟨_, rfl⟩
    have hnb : n ≤ 200000 := by omega
    have HN1 := hid hn
    have HN2 : Hid (n = L2.length) := hn.trans hgl
    have HGM := hid hgm
    clear hff hsd hTT hgl hgm gn1 gn2 hL1 hL2 hn he
    obtain ⟨q0, q1, q2, q3, q4, q5, q6, q7, q8⟩ := nine' (HTW.out _ HBWV.out).2.1
    go_upto_region 12 with (first | (go_at_call 26; (with_reducible refine HC5.mono ?_); rintro e w5 ⟨va, vb, rfl, hg5, hc5⟩; have HG5 := hid hg5; have HB5 := hid (show Below V.heap.size V w5 from (gr_nil V).below hc5 (Nat.le_refl _)); clear hg5 hc5 HC5))
    have HC7 := HC6 w5 HB5.out
    clear HC6 q0 q1 q2 q3 q4 q5 q6 q7 q8
    obtain ⟨q0, q1, q2, q3, q4, q5, q6, q7, q8⟩ := nine' (HTM.out _ HB5.out).2.1
    go_upto_region 13 with (first | (go_at_call 26; (with_reducible refine HC7.mono ?_); rintro e w6 ⟨vc, vd, rfl, hg6, hc6⟩; have HG6 := hid hg6; have HB6 := hid (show Below w5.heap.size w5 w6 from (gr_nil w5).below hc6 (Nat.le_refl _)); clear hg6 hc6 HC7))
    have HGA := hid (HG5.out.kept HB6.out)
    have HBE : Hid (Below w.heap.size w w6) := by
      have h1 := (HTW.out _ (HTM.out _ HB5.out).2.2).2.2
      have h2 := HB6.out
      rw [HZ.out] at h1
      exact h1.trans (Joins.below_le h2 h1.size)
    obtain ⟨ua, ca, hva, _, _⟩ := row_shape HGA.out.ra
    obtain ⟨ub, cb, hvb, _, _⟩ := row_shape HGA.out.rb
    obtain ⟨uc, cc, hvc, _, _⟩ := row_shape HG6.out.ra
    obtain ⟨ud, cd, hvd, _, _⟩ := row_shape HG6.out.rb
    rw [← HN1.out] at hva hvb
    rw [← HN2.out] at hvc hvd
    subst hva hvb hvc hvd
    have hnn : ((n : Int) != (n : Int)) = false := by simp
    clear q0 q1 q2 q3 q4 q5 q6 q7 q8
    go_wp2_with fail
    go_loopw [12] (fun y wq => ∃ i : Nat, y = .int .i64 (i : Int) ∧ i ≤ n ∧ Hid (Below w6.heap.size w6 wq)) (fun y _ => n - (intOf y).toNat)
    case atStart => exact ⟨0, rfl, by omega, Below.refl _ _⟩
    case round =>
      obtain ⟨i, rfl, hi, BK⟩ := hrel
      by_cases hil : i < n
      · have b1 : decide ((i : Int) < (n : Int)) = true := by simp; omega
        have b2 : (i : Int) < (n : Int) := by omega
        have ad1 : IntKind.i64.wrap ((i : Int) + 1) = (i : Int) + 1 := by simp [IntKind.wrap, IntKind.bits, IntKind.signed]; omega
        have hi1 : i < L1.length := by have := HN1.out; omega
        have hhas := HGM.out _ (List.getElem_mem hi1)
        obtain ⟨ba, ca2, ea, hca⟩ := gi_at HGA.out.ra (by omega)
        obtain ⟨bb, cb2, eb, hcb⟩ := gs_at HGA.out.rb (by omega)
        have hba : ba < w6.heap.size := (HGA.out.ra.lt ba (by rw [ea]; rfl)).2
        have hbb : bb < w6.heap.size := (HGA.out.rb.lt bb (by rw [eb]; rfl)).2
        have c1 := hca i hi1
        have c2 := hcb i hi1
        obtain ⟨i0, hi0⟩ : ∃ i0, i0 = L1[i].1 := ⟨_, rfl⟩
        obtain ⟨s0, hs0⟩ : ∃ s0, s0 = L1[i].2 := ⟨_, rfl⟩
        rw [← hi0] at c1 hhas
        rw [← hs0] at c2 hhas
        simp only [Value.slice.injEq] at ea eb
        obtain ⟨rfl, _, _⟩ := ea
        obtain ⟨rfl, _, _⟩ := eb
        have C1 := hid c1
        have C2 := hid c2
        have HHAS := hid hhas
        clear hca hcb hi0 hs0 c1 c2 hhas
        go_wp2_with fail
        go_loopw [13, 14] (fun u y wq => ∃ j : Nat, y = .int .i64 (j : Int) ∧ j ≤ n ∧ (∃ hb : Bool, u = .bool hb ∧ Hid (hb = hasG (L2.take j) i0 s0)) ∧ Hid (Below w6.heap.size w6 wq)) (fun _ y _ => n - (intOf y).toNat)
        case atStart => exact ⟨0, rfl, by omega, ⟨false, rfl, rfl⟩, BK.out⟩
        case round =>
          obtain ⟨j, rfl, hj, ⟨hb, rfl, HHB⟩, BJ⟩ := hrel
          have k1 := (cell_eq (BJ.out.block ba hba) i).trans C1.out
          have k2 := (cell_eq (BJ.out.block bb hbb) i).trans C2.out
          by_cases hjl : j < n
          · have d1 : decide ((j : Int) < (n : Int)) = true := by simp; omega
            have d2 : (j : Int) < (n : Int) := by omega
            have adj : IntKind.i64.wrap ((j : Int) + 1) = (j : Int) + 1 := by simp [IntKind.wrap, IntKind.bits, IntKind.signed]; omega
            have hj2 : j < L2.length := by have := HN2.out; omega
            obtain ⟨bc, cc2, ec, hcc⟩ := gi_at HG6.out.ra (by omega)
            obtain ⟨bd, cd2, ed, hcd⟩ := gs_at HG6.out.rb (by omega)
            have hbc : bc < w6.heap.size := (HG6.out.ra.lt bc (by rw [ec]; rfl)).2
            have hbd : bd < w6.heap.size := (HG6.out.rb.lt bd (by rw [ed]; rfl)).2
            have k3 := (cell_eq (BJ.out.block bc hbc) j).trans (hcc j hj2)
            have k4 := (cell_eq (BJ.out.block bd hbd) j).trans (hcd j hj2)
            have hst := hasG_take L2 i0 s0 j hj2
            obtain ⟨i1, hi1'⟩ : ∃ i1, i1 = L2[j].1 := ⟨_, rfl⟩
            obtain ⟨s1', hs1'⟩ : ∃ s1', s1' = L2[j].2 := ⟨_, rfl⟩
            rw [← hi1'] at k3 hst
            rw [← hs1'] at k4 hst
            simp only [Value.slice.injEq] at ec ed
            obtain ⟨rfl, _, _⟩ := ec
            obtain ⟨rfl, _, _⟩ := ed
            rw [← HHB.out] at hst
            have HST := hid hst
            clear hcc hcd hi1' hs1' hst
            cases hb
            · by_cases hi7 : i1 = i0
              · have e1 : (i1 == i0) = true := by simpa using hi7
                clear hi7
                cases hsb : (s1'.toList == s0.toList)
                · go_upto_region 22 with fail
                  go_quiet (fail)
                  go_wp2
                  refine ⟨⟨j + 1, by push_cast; rfl, by omega, ⟨false, rfl, ?_⟩, ⟨BJ.out.os, BJ.out.tape, BJ.out.output, BJ.out.size, BJ.out.block⟩⟩, by simp [intOf]; omega⟩
                  show false = _
                  rw [HST.out, e1, hsb]; rfl
                · go_upto_region 22 with fail
                  go_quiet (fail)
                  go_wp2
                  refine ⟨⟨j + 1, by push_cast; rfl, by omega, ⟨true, rfl, ?_⟩, ⟨BJ.out.os, BJ.out.tape, BJ.out.output, BJ.out.size, BJ.out.block⟩⟩, by simp [intOf]; omega⟩
                  show true = _
                  rw [HST.out, e1, hsb]; rfl
              · have e1 : (i1 == i0) = false := by simpa using hi7
                clear hi7
                go_upto_region 22 with fail
                go_quiet (fail)
                go_wp2
                refine ⟨⟨j + 1, by push_cast; rfl, by omega, ⟨false, rfl, ?_⟩, ⟨BJ.out.os, BJ.out.tape, BJ.out.output, BJ.out.size, BJ.out.block⟩⟩, by simp [intOf]; omega⟩
                show false = _
                rw [HST.out, e1]; rfl
            · go_upto_region 22 with fail
              go_quiet (fail)
              go_wp2
              refine ⟨⟨j + 1, by push_cast; rfl, by omega, ⟨true, rfl, ?_⟩, ⟨BJ.out.os, BJ.out.tape, BJ.out.output, BJ.out.size, BJ.out.block⟩⟩, by simp [intOf]; omega⟩
              show true = _
              rw [HST.out]; rfl
          · have d1 : decide ((j : Int) < (n : Int)) = false := by simp; omega
            have hjn : j = n := by omega
            have hbt : hb = true := by have := HHB.out; rw [hjn, HN2.out, List.take_length] at this; rw [this]; exact HHAS.out
            subst hbt
            clear hjn k1 k2
            go_wp2
            exact ⟨⟨i + 1, by push_cast; rfl, by omega, BJ.out⟩, by simp [intOf]; omega⟩
      · have b1 : decide ((i : Int) < (n : Int)) = false := by simp; omega
        go_wp2
        all_goals go_ret
        all_goals exact ⟨rfl, HBE.out.trans (Joins.below_le BK.out HBE.out.size)⟩
  · have g1 : (er != 0) = true := by simp [he]
    clear he
    go_wp2
    all_goals go_ret
    all_goals exact ⟨rfl, by rw [← HZ.out]; exact (HTW.out _ HBWV.out).2.2⟩
end Go.Proofs.Ytdidopgenhpakaa
