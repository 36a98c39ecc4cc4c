/- HELPERS: the walk of RunesSets: the way on. -/
import Derived.Test.YtjglehklfdhgaabDoorSetL
namespace Go.Proofs.YtjglehklfdhgaabDoor
open Go.Shelf Go.RowKit Go.Lib Go.Sort Go.Mx
set_option linter.unusedVariables false
set_option linter.unusedSimpArgs false
theorem IntsAt.below1 {w w' : World} {v : Value} {R : List Int} (h : IntsAt w.heap.size w v R) (hb : Below w.heap.size w w') : IntsAt w'.heap.size w' v R := by
  obtain ⟨ad, cap, he, h | ⟨b, off, ha, hbN, hc⟩⟩ := h
  · exact ⟨ad, cap, he, .inl h⟩
  · exact ⟨ad, cap, he, .inr ⟨b, off, ha, Nat.lt_of_lt_of_le hbN hb.size, fun k hk => (hb.cell (p := ⟨b, off + k, none⟩) hbN).trans (hc k hk)⟩⟩
set_option maxHeartbeats 16000000 in
set_option maxRecDepth 1000000 in
theorem sets_mainB (LA LB : List (Int × Int)) (aA aB aR : Option Addr) (nA nB nR cA cB cR : Nat) (w0 : World) (hT : Hid (Tabs w0)) (h2 : 2 ≤ w0.heap.size)
    (hA : Hid (RowAt w0.heap.size w0 (.slice aA nA cA) LA)) (hB : Hid (RowAt w0.heap.size w0 (.slice aB nB cB) LB)) (hnA : Hid (nA = LA.length)) (hnB : Hid (nB = LB.length)) (hSA : nA ≤ 1048576) (hSB : nB ≤ 1048576) (LR : List Int) (CA CB : List (Int × Int)) (na nb : Nat) (okA : Hid (LA.all okR = true)) (okB : Hid (LB.all okR = true)) (rA : Hid (rightFrom 0 CA = true)) (rB : Hid (rightFrom 0 CB = true)) (KA : Hid (CA.length ≤ 5000)) (KB : Hid (CB.length ≤ 5000)) (hna : Hid (na = CA.length)) (hnb : Hid (nb = CB.length)) (sA : Hid (∀ r, hasB CA r = (dom r && hasB LA r))) (sB : Hid (∀ r, hasB CB r = (dom r && hasB LB r))) (CU : List (Int × Int)) (nu : Nat) (hnu : Hid (nu = CU.length)) (rU : Hid (rightFrom 0 CU = true)) (KU : Hid (CU.length ≤ 5000)) (sU : Hid (∀ r, hasB CU r = (hasB CA r || hasB CB r))) (CN : List (Int × Int)) (nn : Nat) (hnn : Hid (nn = CN.length)) (rN : Hid (rightFrom 0 CN = true)) (KN : Hid (CN.length ≤ 5000)) (sN : Hid (∀ r, hasB CN r = (dom r && !hasB CA r))) (CO : List (Int × Int)) (no : Nat) (hno : Hid (no = CO.length)) (rO : Hid (rightFrom 0 CO = true)) (KO : Hid (CO.length ≤ 5000)) (sO : Hid (∀ r, hasB CO r = foldB CA r))
    (hed : ∀ w, RowAt w.heap.size w (.slice aA nA cA) LA → RowAt w.heap.size w (.slice aB nB cB) LB → IntsAt w.heap.size w (.slice aR nR cR) LR → Calls Tryd.prog 10 #[.slice aA nA cA, .slice aB nB cB, .slice aR nR cR] w fun e w' => ∃ v m X, e = .returned v ∧ w'.ownsRow w.heap.size 3 1 v m (I64 X) ∧ Below w.heap.size w w' ∧ 1 ≤ m ∧ m ≤ 3000000)
    (HR : Hid (IntsAt w0.heap.size w0 (.slice aR nR cR) LR)) (hl : na ≤ 2000) :
    Calls Tryd.prog 3 #[.agg #[.slice aA nA cA, .slice aB nB cB, .slice aR nR cR]] w0 fun e w' => e = .returned (.bool true) ∧ Below w0.heap.size w0 w' := by
  have HS0 : Hid (St3 w0 w0.heap.size (.slice aA nA cA) (.slice aB nB cB) (.slice aR nR cR) [(.slice aA nA cA, LA), (.slice aB nB cB, LB)] (w0.alloc (.cells #[.slice aA nA cA, .slice aB nB cB, .slice aR nR cR] 25))) := St3.new w0 _ _ _ LA LB hA.out hB.out
  have HT1 : Hid (Tabs (w0.alloc (.cells #[.slice aA nA cA, .slice aB nB cB, .slice aR nR cR] 25))) := tabs_alloc hT.out h2 _
  go_enter Tryd.func3, Tryd.ntmps3
  go_wp2_with fail
  refine (awake9 _ HT1.out (by simp; omega)).mono ?_
  rintro e w1 ⟨rfl, hb⟩
  have HS1 : Hid (St3 w0 w0.heap.size (.slice aA nA cA) (.slice aB nB cB) (.slice aR nR cR) [(.slice aA nA cA, LA), (.slice aB nB cB, LB)] w1) := HS0.out.next hb
  have c0 := HS1.out.b0
  have c1 := HS1.out.b1
  have c2 := HS1.out.b2
  have g1 := HS1.out.bg
  clear hb HS0 HT1 hT hA hB
  go_wp2_with fail
  refine (norm_eq LA CA aA nA cA w1 hnA.out (by omega) (HS1.out.get 0 rfl) okA.out rA.out KA.out (fun r => (sA.out r).symm)).mono ?_
  intro e w2 hG
  obtain ⟨ad_a, cap_a, rfl, hr, hb⟩ := hG.n hna.out
  have HS2 : Hid (St3 w0 w0.heap.size (.slice aA nA cA) (.slice aB nB cB) (.slice aR nR cR) [(.slice ad_a na cap_a, CA), (.slice aA nA cA, LA), (.slice aB nB cB, LB)] w2) := (HS1.out.next hb).add hr
  clear hr hb HS1 c0 c1 c2 g1
  have c0 := HS2.out.b0
  have c1 := HS2.out.b1
  have c2 := HS2.out.b2
  have g1 := HS2.out.bg
  go_wp2_with fail
  refine (norm_eq LB CB aB nB cB w2 hnB.out (by omega) (HS2.out.get 2 rfl) okB.out rB.out KB.out (fun r => (sB.out r).symm)).mono ?_
  intro e w3 hG
  obtain ⟨ad_b, cap_b, rfl, hr, hb⟩ := hG.n hnb.out
  have HS3 : Hid (St3 w0 w0.heap.size (.slice aA nA cA) (.slice aB nB cB) (.slice aR nR cR) [(.slice ad_b nb cap_b, CB), (.slice ad_a na cap_a, CA), (.slice aA nA cA, LA), (.slice aB nB cB, LB)] w3) := (HS2.out.next hb).add hr
  clear hr hb HS2 c0 c1 c2 g1
  have c0 := HS3.out.b0
  have c1 := HS3.out.b1
  have c2 := HS3.out.b2
  have g1 := HS3.out.bg
  go_wp2_with fail
  refine (union_eq CA CB CU ad_a ad_b na nb cap_a cap_b w3 hna.out hnb.out (HS3.out.get 1 rfl) (HS3.out.get 0 rfl) rA.out KA.out rB.out KB.out rU.out KU.out (fun r => (sU.out r).symm)).mono ?_
  intro e w4 hG
  obtain ⟨ad_u, cap_u, rfl, hr, hb⟩ := hG.n hnu.out
  have HS4 : Hid (St3 w0 w0.heap.size (.slice aA nA cA) (.slice aB nB cB) (.slice aR nR cR) [(.slice ad_u nu cap_u, CU), (.slice ad_b nb cap_b, CB), (.slice ad_a na cap_a, CA), (.slice aA nA cA, LA), (.slice aB nB cB, LB)] w4) := (HS3.out.next hb).add hr
  clear hr hb HS3 c0 c1 c2 g1
  have c0 := HS4.out.b0
  have c1 := HS4.out.b1
  have c2 := HS4.out.b2
  have g1 := HS4.out.bg
  go_wp2_with fail
  refine (neg_eq CA CN ad_a na cap_a w4 hna.out (HS4.out.get 2 rfl) rA.out KA.out rN.out KN.out (fun r => (sN.out r).symm)).mono ?_
  intro e w5 hG
  obtain ⟨ad_n, cap_n, rfl, hr, hb⟩ := hG.n hnn.out
  have HS5 : Hid (St3 w0 w0.heap.size (.slice aA nA cA) (.slice aB nB cB) (.slice aR nR cR) [(.slice ad_n nn cap_n, CN), (.slice ad_u nu cap_u, CU), (.slice ad_b nb cap_b, CB), (.slice ad_a na cap_a, CA), (.slice aA nA cA, LA), (.slice aB nB cB, LB)] w5) := (HS4.out.next hb).add hr
  clear hr hb HS4 c0 c1 c2 g1
  have c0 := HS5.out.b0
  have c1 := HS5.out.b1
  have c2 := HS5.out.b2
  have g1 := HS5.out.bg
  go_wp2_with fail
  refine (fold_eq CA CO ad_a na cap_a w5 hna.out (HS5.out.get 3 rfl) rA.out KA.out rO.out KO.out (fun r => (sO.out r).symm)).mono ?_
  intro e w6 hG
  obtain ⟨ad_o, cap_o, rfl, hr, hb⟩ := hG.n hno.out
  have HS6 : Hid (St3 w0 w0.heap.size (.slice aA nA cA) (.slice aB nB cB) (.slice aR nR cR) [(.slice ad_o no cap_o, CO), (.slice ad_n nn cap_n, CN), (.slice ad_u nu cap_u, CU), (.slice ad_b nb cap_b, CB), (.slice ad_a na cap_a, CA), (.slice aA nA cA, LA), (.slice aB nB cB, LB)] w6) := (HS5.out.next hb).add hr
  clear hr hb HS5 c0 c1 c2 g1
  have c0 := HS6.out.b0
  have c1 := HS6.out.b1
  have c2 := HS6.out.b2
  have g1 := HS6.out.bg
  go_wp2_with fail
  refine (hed w6 (HS6.out.get 5 rfl) (HS6.out.get 6 rfl) (HR.out.below1 HS6.out.bel)).mono ?_
  rintro e w9 ⟨v, m, X, rfl, ho, hb, hm1, hm2⟩
  have HS9 : Hid (St3 w0 w0.heap.size (.slice aA nA cA) (.slice aB nB cB) (.slice aR nR cR) [(.slice ad_o no cap_o, CO), (.slice ad_n nn cap_n, CN), (.slice ad_u nu cap_u, CU), (.slice ad_b nb cap_b, CB), (.slice ad_a na cap_a, CA), (.slice aA nA cA, LA), (.slice aB nB cB, LB)] w9) := HS6.out.next hb
  obtain ⟨gl, cl, rfl⟩ := Joins.ownsRow_form ho (by omega)
  have HL9 : Hid (w9.ownsRow w6.heap.size 3 1 (.slice (some ⟨gl, 0, none⟩) m cl) m (I64 X)) := ho
  have hgl : gl < w9.heap.size := (ho.lt _ rfl).2
  clear ho hb HS6 c0 c1 c2 g1 HR hed
  have c0 := HS9.out.b0
  have c1 := HS9.out.b1
  have c2 := HS9.out.b2
  have g1 := HS9.out.bg
  go_wp2
  go_loopw [16] (fun i wr => ∃ (k : Nat), k ≤ m ∧ i = .int .i64 k ∧ Below w9.heap.size w9 wr) (fun i _ => m - (intOf i).toNat)
  case atStart => exact ⟨0, by omega, rfl, Below.refl _ _⟩
  case round =>
    obtain ⟨k, hk, rfl, hbw⟩ := hrel
    have hsw := hbw.size
    by_cases hlt : k < m
    · have hXl : X.length = m := by have := HL9.out.1; simpa using this
      have d0 : wr.cell? ⟨gl, k, none⟩ = some (.int .i64 (X.getD k 0)) := by
        rw [hbw.cell (p := ⟨gl, k, none⟩) hgl, HL9.out.cellAt k (by omega)]
        simp [show k < X.length by omega]
      generalize X.getD k 0 = r at d0
      clear hXl
      have HSr : Hid (St3 w0 w0.heap.size (.slice aA nA cA) (.slice aB nB cB) (.slice aR nR cR) [(.slice ad_o no cap_o, CO), (.slice ad_n nn cap_n, CN), (.slice ad_u nu cap_u, CU), (.slice ad_b nb cap_b, CB), (.slice ad_a na cap_a, CA), (.slice aA nA cA, LA), (.slice aB nB cB, LB)] wr) := HS9.out.next hbw
      have e0 := HSr.out.b0
      have e1 := HSr.out.b1
      have eg := HSr.out.bg
      have v1 : hasB CA r = (hasB LA r && dom r) := by rw [sA.out, Bool.and_comm]
      have v2 : hasB CU r = ((hasB LA r && dom r) || (hasB LB r && dom r)) := by rw [sU.out, sA.out, sB.out, Bool.and_comm, Bool.and_comm (dom r) (hasB LB r)]
      have v3 : hasB CN r = (dom r && !(hasB LA r && dom r)) := by rw [sN.out, sA.out, Bool.and_comm (hasB LA r)]
      have v4 : hasB CO r = ((hasB LA r && dom r) || (dom r && hasB LA (otherI r))) := by
        rw [sO.out]
        unfold foldB
        rw [sA.out, sA.out, other_dom, Bool.and_comm (hasB LA r)]
        cases dom r <;> simp
      have hdo : ∀ w, Calls Tryd.prog 11 #[.int .i64 r] w fun e w' => e = .returned (.bool (dom r)) ∧ w' = w := fun w => dom11 r w
      have hdo2 : ∀ w, Calls Tryd.prog 11 #[.int .i64 (otherI r)] w fun e w' => e = .returned (.bool (dom r)) ∧ w' = w := fun w => by have := dom11 (otherI r) w; rwa [other_dom] at this
      have hot : ∀ w, Calls Tryd.prog 13 #[.int .i64 r] w fun e w' => e = .returned (.int .i64 (otherI r)) ∧ w' = w := fun w => other13 r w
      have hmA := member12 LA aA nA cA r wr wr.heap.size hnA.out (by omega) (HSr.out.get 5 rfl)
      have hmB := member12 LB aB nB cB r wr wr.heap.size hnB.out (by omega) (HSr.out.get 6 rfl)
      have hmO := fun q => member12 LA aA nA cA (otherI r) (wr.drewN q) wr.heap.size hnA.out (by omega) (show RowAt wr.heap.size wr _ _ from HSr.out.get 5 rfl)
      have HV1 : Hid (hasB CA r = (hasB LA r && dom r)) := v1
      have HV2 : Hid (hasB CU r = ((hasB LA r && dom r) || (hasB LB r && dom r))) := v2
      have HV3 : Hid (hasB CN r = (dom r && !(hasB LA r && dom r))) := v3
      have HV4 : Hid (hasB CO r = ((hasB LA r && dom r) || (dom r && hasB LA (otherI r)))) := v4
      clear v1 v2 v3 v4
      generalize dom r = is at hdo hdo2 HV1 HV2 HV3 HV4
      generalize hasB LA r = mA at hmA HV1 HV2 HV3 HV4
      generalize hasB LB r = mB at hmB HV2
      generalize hasB LA (otherI r) = mo at hmO HV4
      generalize hro : otherI r = ro at hdo2 hot hmO
      clear hro c0 c1 c2 g1
      cases is <;> cases mA <;> cases mB <;> cases mo
      all_goals
        go_wp2_with fail
        refine (hdo _).mono ?_
        rintro e w' ⟨rfl, rfl⟩
        go_wp2_with fail
        refine hmA.mono ?_
        rintro e w1' ⟨rfl, rfl⟩
        go_wp2_with fail
        refine hmB.mono ?_
        rintro e w' ⟨rfl, rfl⟩
        clear hmA hmB hdo
        go_wp2_with fail
        go_quiet (first | (go_at_call 13; exact Calls.quiet_of_same (hot _)) | (go_at_call 11; exact Calls.quiet_of_same (hdo2 _)) | (go_at_call 12; exact Calls.quiet_of_same (hmO _)))
        clear hdo2 hot hmO d0 e0 e1 eg
        have HSq : Hid (St3 w0 w0.heap.size (.slice aA nA cA) (.slice aB nB cB) (.slice aR nR cR) [(.slice ad_o no cap_o, CO), (.slice ad_n nn cap_n, CN), (.slice ad_u nu cap_u, CU), (.slice ad_b nb cap_b, CB), (.slice ad_a na cap_a, CA), (.slice aA nA cA, LA), (.slice aB nB cB, LB)] (w'.drewN nq)) := HSr.out.next (below_drewN (Below.refl _ _) _)
        have HBq : Hid (Below w9.heap.size w9 (w'.drewN nq)) := below_drewN hbw _
        clear HSr hbw
        generalize w'.drewN nq = x0 at HSq HBq ⊢
        go_wp2_with fail
        refine (hasC CA ad_a na cap_a r x0 hna.out rA.out KA.out (HSq.out.get 4 rfl) _ HV1.out).mono ?_
        rintro e x1 ⟨rfl, hb1⟩
        have HSx1 := HSq.out.next hb1
        have HBx1 := HBq.out.trans (hb1.mono HBq.out.size)
        go_wp2_with fail
        refine (hasC CU ad_u nu cap_u r x1 hnu.out rU.out KU.out (HSx1.get 2 rfl) _ HV2.out).mono ?_
        rintro e x2 ⟨rfl, hb2⟩
        have HSx2 := HSx1.next hb2
        have HBx2 := HBx1.trans (hb2.mono HBx1.size)
        go_wp2_with fail
        refine (hasC CN ad_n nn cap_n r x2 hnn.out rN.out KN.out (HSx2.get 1 rfl) _ HV3.out).mono ?_
        rintro e x3 ⟨rfl, hb3⟩
        have HSx3 := HSx2.next hb3
        have HBx3 := HBx2.trans (hb3.mono HBx2.size)
        go_wp2_with fail
        refine (hasC CO ad_o no cap_o r x3 hno.out rO.out KO.out (HSx3.get 0 rfl) _ HV4.out).mono ?_
        rintro e x4 ⟨rfl, hb4⟩
        have HBx4 : Hid (Below w9.heap.size w9 x4) := HBx3.trans (hb4.mono HBx3.size)
        clear hb1 hb2 hb3 hb4 HSx1 HSx2 HSx3 HBx1 HBx2 HBx3 HV1 HV2 HV3 HV4 HSq HBq
        go_wp2
        go_roundw
        case rel => exact ⟨k + 1, by omega, by go_num, HBx4.out⟩
        case measure => simp [intOf]; omega
    · have hkm : k = m := by omega
      have HBX : Hid (Below w0.heap.size w0 wr) := (HS9.out.next hbw).bel
      clear c0 c1 c2 g1
      go_wp2
      go_ret
      exact ⟨rfl, HBX.out⟩
end Go.Proofs.YtjglehklfdhgaabDoor
