/- HELPERS: the walk of RunesSets: where a list is no class, or an answer is none. -/
import Derived.Test.YtjglehklfdhgaabDoorSetL
namespace Go.Proofs.YtjglehklfdhgaabDoor
open Go.Shelf Go.RowKit Go.Lib Go.Sort Go.Mx
set_option linter.unusedVariables false
set_option linter.unusedSimpArgs false
set_option maxHeartbeats 16000000 in
set_option maxRecDepth 1000000 in
theorem sets_badA (LA LB : List (Int × Int)) (aA aB aR : Option Addr) (nA nB nR cA cB cR : Nat) (w0 : World) (hT : Hid (Tabs w0)) (h2 : 2 ≤ w0.heap.size)
    (hA : Hid (RowAt w0.heap.size w0 (.slice aA nA cA) LA)) (hB : Hid (RowAt w0.heap.size w0 (.slice aB nB cB) LB)) (hnA : Hid (nA = LA.length)) (hnB : Hid (nB = LB.length)) (hSA : nA ≤ 1048576) (hSB : nB ≤ 1048576) (bA : Hid (¬ ∃ C, LA.all okR = true ∧ rightFrom 0 C = true ∧ C.length ≤ 5000 ∧ ∀ r, hasB C r = (dom r && hasB LA r))) :
    Calls Tryd.prog 3 #[.agg #[.slice aA nA cA, .slice aB nB cB, .slice aR nR cR]] w0 fun e w' => e = .returned (.bool true) ∧ Below w0.heap.size w0 w' := by
  have HS0 : Hid (St3 w0 w0.heap.size (.slice aA nA cA) (.slice aB nB cB) (.slice aR nR cR) [(.slice aA nA cA, LA), (.slice aB nB cB, LB)] (w0.alloc (.cells #[.slice aA nA cA, .slice aB nB cB, .slice aR nR cR] 25))) := St3.new w0 _ _ _ LA LB hA.out hB.out
  have HT1 : Hid (Tabs (w0.alloc (.cells #[.slice aA nA cA, .slice aB nB cB, .slice aR nR cR] 25))) := tabs_alloc hT.out h2 _
  go_enter Tryd.func3, Tryd.ntmps3
  go_wp2_with fail
  refine (awake9 _ HT1.out (by simp; omega)).mono ?_
  rintro e w1 ⟨rfl, hb⟩
  have HS1 : Hid (St3 w0 w0.heap.size (.slice aA nA cA) (.slice aB nB cB) (.slice aR nR cR) [(.slice aA nA cA, LA), (.slice aB nB cB, LB)] w1) := HS0.out.next hb
  have c0 := HS1.out.b0
  have c1 := HS1.out.b1
  have c2 := HS1.out.b2
  have g1 := HS1.out.bg
  clear hb HS0 HT1 hT hA hB
  go_wp2_with fail
  refine (norm_bad LA aA nA cA w1 hnA.out (by omega) (HS1.out.get 0 rfl) bA.out).mono ?_
  rintro e w2 ⟨c, hc, rfl, hb⟩
  have hc1 : (c != 0) = true := by simp; omega
  clear hc
  have HS2 : Hid (St3 w0 w0.heap.size (.slice aA nA cA) (.slice aB nB cB) (.slice aR nR cR) [(.slice aA nA cA, LA), (.slice aB nB cB, LB)] w2) := HS1.out.next hb
  clear hb HS1 c0 c1 c2 g1
  have c0 := HS2.out.b0
  have c1 := HS2.out.b1
  have c2 := HS2.out.b2
  have g1 := HS2.out.bg
  go_wp2_with fail
  refine (normS LB aB nB cB w2 hnB.out (by omega) (HS2.out.get 1 rfl)).mono ?_
  intro e w3 hE
  have hX : ∃ v x, e = .returned (.tuple #[v, .int .i64 x]) ∧ Below w2.heap.size w2 w3 := by
    rcases hE with ⟨C, _, ⟨ad, cap, he, _, hb⟩, _⟩ | ⟨x, _, he, hb⟩
    · exact ⟨_, _, he, hb⟩
    · exact ⟨_, _, he, hb⟩
  obtain ⟨v, x, rfl, hb⟩ := hX
  clear hE
  have HS3 : Hid (St3 w0 w0.heap.size (.slice aA nA cA) (.slice aB nB cB) (.slice aR nR cR) [(.slice aA nA cA, LA), (.slice aB nB cB, LB)] w3) := HS2.out.next hb
  clear hb HS2 c0 c1 c2 g1
  have c0 := HS3.out.b0
  have c1 := HS3.out.b1
  have c2 := HS3.out.b2
  have g1 := HS3.out.bg
  have HBX : Hid (Below w0.heap.size w0 w3) := HS3.out.bel
  clear HS3 c0 c1 c2 g1
  go_wp2
  go_ret
  exact ⟨ret_bool (by simp <;> omega), HBX.out⟩
set_option maxHeartbeats 16000000 in
set_option maxRecDepth 1000000 in
theorem sets_badB (LA LB : List (Int × Int)) (aA aB aR : Option Addr) (nA nB nR cA cB cR : Nat) (w0 : World) (hT : Hid (Tabs w0)) (h2 : 2 ≤ w0.heap.size)
    (hA : Hid (RowAt w0.heap.size w0 (.slice aA nA cA) LA)) (hB : Hid (RowAt w0.heap.size w0 (.slice aB nB cB) LB)) (hnA : Hid (nA = LA.length)) (hnB : Hid (nB = LB.length)) (hSA : nA ≤ 1048576) (hSB : nB ≤ 1048576) (CA : List (Int × Int)) (na : Nat) (okA : Hid (LA.all okR = true)) (rA : Hid (rightFrom 0 CA = true)) (KA : Hid (CA.length ≤ 5000)) (hna : Hid (na = CA.length)) (sA : Hid (∀ r, hasB CA r = (dom r && hasB LA r))) (bB : Hid (¬ ∃ C, LB.all okR = true ∧ rightFrom 0 C = true ∧ C.length ≤ 5000 ∧ ∀ r, hasB C r = (dom r && hasB LB r))) :
    Calls Tryd.prog 3 #[.agg #[.slice aA nA cA, .slice aB nB cB, .slice aR nR cR]] w0 fun e w' => e = .returned (.bool true) ∧ Below w0.heap.size w0 w' := by
  have HS0 : Hid (St3 w0 w0.heap.size (.slice aA nA cA) (.slice aB nB cB) (.slice aR nR cR) [(.slice aA nA cA, LA), (.slice aB nB cB, LB)] (w0.alloc (.cells #[.slice aA nA cA, .slice aB nB cB, .slice aR nR cR] 25))) := St3.new w0 _ _ _ LA LB hA.out hB.out
  have HT1 : Hid (Tabs (w0.alloc (.cells #[.slice aA nA cA, .slice aB nB cB, .slice aR nR cR] 25))) := tabs_alloc hT.out h2 _
  go_enter Tryd.func3, Tryd.ntmps3
  go_wp2_with fail
  refine (awake9 _ HT1.out (by simp; omega)).mono ?_
  rintro e w1 ⟨rfl, hb⟩
  have HS1 : Hid (St3 w0 w0.heap.size (.slice aA nA cA) (.slice aB nB cB) (.slice aR nR cR) [(.slice aA nA cA, LA), (.slice aB nB cB, LB)] w1) := HS0.out.next hb
  have c0 := HS1.out.b0
  have c1 := HS1.out.b1
  have c2 := HS1.out.b2
  have g1 := HS1.out.bg
  clear hb HS0 HT1 hT hA hB
  go_wp2_with fail
  refine (norm_eq LA CA aA nA cA w1 hnA.out (by omega) (HS1.out.get 0 rfl) okA.out rA.out KA.out (fun r => (sA.out r).symm)).mono ?_
  intro e w2 hG
  obtain ⟨ad_a, cap_a, rfl, hr, hb⟩ := hG.n hna.out
  have HS2 : Hid (St3 w0 w0.heap.size (.slice aA nA cA) (.slice aB nB cB) (.slice aR nR cR) [(.slice ad_a na cap_a, CA), (.slice aA nA cA, LA), (.slice aB nB cB, LB)] w2) := (HS1.out.next hb).add hr
  clear hr hb HS1 c0 c1 c2 g1
  have c0 := HS2.out.b0
  have c1 := HS2.out.b1
  have c2 := HS2.out.b2
  have g1 := HS2.out.bg
  go_wp2_with fail
  refine (norm_bad LB aB nB cB w2 hnB.out (by omega) (HS2.out.get 2 rfl) bB.out).mono ?_
  rintro e w3 ⟨c, hc, rfl, hb⟩
  have hc1 : (c != 0) = true := by simp; omega
  clear hc
  have HS3 : Hid (St3 w0 w0.heap.size (.slice aA nA cA) (.slice aB nB cB) (.slice aR nR cR) [(.slice ad_a na cap_a, CA), (.slice aA nA cA, LA), (.slice aB nB cB, LB)] w3) := HS2.out.next hb
  clear hb HS2 c0 c1 c2 g1
  have c0 := HS3.out.b0
  have c1 := HS3.out.b1
  have c2 := HS3.out.b2
  have g1 := HS3.out.bg
  have HBX : Hid (Below w0.heap.size w0 w3) := HS3.out.bel
  clear HS3 c0 c1 c2 g1
  go_wp2
  go_ret
  exact ⟨ret_bool (by simp <;> omega), HBX.out⟩
set_option maxHeartbeats 16000000 in
set_option maxRecDepth 1000000 in
theorem sets_noUa (LA LB : List (Int × Int)) (aA aB aR : Option Addr) (nA nB nR cA cB cR : Nat) (w0 : World) (hT : Hid (Tabs w0)) (h2 : 2 ≤ w0.heap.size)
    (hA : Hid (RowAt w0.heap.size w0 (.slice aA nA cA) LA)) (hB : Hid (RowAt w0.heap.size w0 (.slice aB nB cB) LB)) (hnA : Hid (nA = LA.length)) (hnB : Hid (nB = LB.length)) (hSA : nA ≤ 1048576) (hSB : nB ≤ 1048576) (CA CB : List (Int × Int)) (na nb : Nat) (okA : Hid (LA.all okR = true)) (okB : Hid (LB.all okR = true)) (rA : Hid (rightFrom 0 CA = true)) (rB : Hid (rightFrom 0 CB = true)) (KA : Hid (CA.length ≤ 5000)) (KB : Hid (CB.length ≤ 5000)) (hna : Hid (na = CA.length)) (hnb : Hid (nb = CB.length)) (sA : Hid (∀ r, hasB CA r = (dom r && hasB LA r))) (sB : Hid (∀ r, hasB CB r = (dom r && hasB LB r))) (hU : Hid (¬ HasU (CA ++ CB))) (hl : 2000 < na) :
    Calls Tryd.prog 3 #[.agg #[.slice aA nA cA, .slice aB nB cB, .slice aR nR cR]] w0 fun e w' => e = .returned (.bool true) ∧ Below w0.heap.size w0 w' := by
  have HS0 : Hid (St3 w0 w0.heap.size (.slice aA nA cA) (.slice aB nB cB) (.slice aR nR cR) [(.slice aA nA cA, LA), (.slice aB nB cB, LB)] (w0.alloc (.cells #[.slice aA nA cA, .slice aB nB cB, .slice aR nR cR] 25))) := St3.new w0 _ _ _ LA LB hA.out hB.out
  have HT1 : Hid (Tabs (w0.alloc (.cells #[.slice aA nA cA, .slice aB nB cB, .slice aR nR cR] 25))) := tabs_alloc hT.out h2 _
  go_enter Tryd.func3, Tryd.ntmps3
  go_wp2_with fail
  refine (awake9 _ HT1.out (by simp; omega)).mono ?_
  rintro e w1 ⟨rfl, hb⟩
  have HS1 : Hid (St3 w0 w0.heap.size (.slice aA nA cA) (.slice aB nB cB) (.slice aR nR cR) [(.slice aA nA cA, LA), (.slice aB nB cB, LB)] w1) := HS0.out.next hb
  have c0 := HS1.out.b0
  have c1 := HS1.out.b1
  have c2 := HS1.out.b2
  have g1 := HS1.out.bg
  clear hb HS0 HT1 hT hA hB
  go_wp2_with fail
  refine (norm_eq LA CA aA nA cA w1 hnA.out (by omega) (HS1.out.get 0 rfl) okA.out rA.out KA.out (fun r => (sA.out r).symm)).mono ?_
  intro e w2 hG
  obtain ⟨ad_a, cap_a, rfl, hr, hb⟩ := hG.n hna.out
  have HS2 : Hid (St3 w0 w0.heap.size (.slice aA nA cA) (.slice aB nB cB) (.slice aR nR cR) [(.slice ad_a na cap_a, CA), (.slice aA nA cA, LA), (.slice aB nB cB, LB)] w2) := (HS1.out.next hb).add hr
  clear hr hb HS1 c0 c1 c2 g1
  have c0 := HS2.out.b0
  have c1 := HS2.out.b1
  have c2 := HS2.out.b2
  have g1 := HS2.out.bg
  go_wp2_with fail
  refine (norm_eq LB CB aB nB cB w2 hnB.out (by omega) (HS2.out.get 2 rfl) okB.out rB.out KB.out (fun r => (sB.out r).symm)).mono ?_
  intro e w3 hG
  obtain ⟨ad_b, cap_b, rfl, hr, hb⟩ := hG.n hnb.out
  have HS3 : Hid (St3 w0 w0.heap.size (.slice aA nA cA) (.slice aB nB cB) (.slice aR nR cR) [(.slice ad_b nb cap_b, CB), (.slice ad_a na cap_a, CA), (.slice aA nA cA, LA), (.slice aB nB cB, LB)] w3) := (HS2.out.next hb).add hr
  clear hr hb HS2 c0 c1 c2 g1
  have c0 := HS3.out.b0
  have c1 := HS3.out.b1
  have c2 := HS3.out.b2
  have g1 := HS3.out.bg
  go_wp2_with fail
  refine (union_none CA CB ad_a ad_b na nb cap_a cap_b w3 hna.out hnb.out (HS3.out.get 1 rfl) (HS3.out.get 0 rfl) rA.out KA.out rB.out KB.out hU.out).mono ?_
  rintro e w4 ⟨rfl, hb⟩
  have HS4 : Hid (St3 w0 w0.heap.size (.slice aA nA cA) (.slice aB nB cB) (.slice aR nR cR) [(.slice ad_b nb cap_b, CB), (.slice ad_a na cap_a, CA), (.slice aA nA cA, LA), (.slice aB nB cB, LB)] w4) := HS3.out.next hb
  clear hb HS3 c0 c1 c2 g1
  have c0 := HS4.out.b0
  have c1 := HS4.out.b1
  have c2 := HS4.out.b2
  have g1 := HS4.out.bg
  go_wp2_with fail
  refine (neg_some CA ad_a na cap_a w4 hna.out (HS4.out.get 1 rfl) rA.out KA.out).mono ?_
  rintro e w5 ⟨vn, xn, rfl, hb⟩
  have HS5 : Hid (St3 w0 w0.heap.size (.slice aA nA cA) (.slice aB nB cB) (.slice aR nR cR) [(.slice ad_b nb cap_b, CB), (.slice ad_a na cap_a, CA), (.slice aA nA cA, LA), (.slice aB nB cB, LB)] w5) := HS4.out.next hb
  clear hb HS4 c0 c1 c2 g1
  have c0 := HS5.out.b0
  have c1 := HS5.out.b1
  have c2 := HS5.out.b2
  have g1 := HS5.out.bg
  go_wp2_with fail
  refine (fold_some CA ad_a na cap_a w5 hna.out (HS5.out.get 1 rfl) rA.out KA.out).mono ?_
  rintro e w6 ⟨vo, xo, rfl, hb⟩
  have HS6 : Hid (St3 w0 w0.heap.size (.slice aA nA cA) (.slice aB nB cB) (.slice aR nR cR) [(.slice ad_b nb cap_b, CB), (.slice ad_a na cap_a, CA), (.slice aA nA cA, LA), (.slice aB nB cB, LB)] w6) := HS5.out.next hb
  clear hb HS5 c0 c1 c2 g1
  have c0 := HS6.out.b0
  have c1 := HS6.out.b1
  have c2 := HS6.out.b2
  have g1 := HS6.out.bg
  have HBX : Hid (Below w0.heap.size w0 w6) := HS6.out.bel
  clear HS6 c0 c1 c2 g1
  go_wp2
  go_ret
  exact ⟨ret_bool (by simp <;> omega), HBX.out⟩
set_option maxHeartbeats 16000000 in
set_option maxRecDepth 1000000 in
theorem sets_noUb (LA LB : List (Int × Int)) (aA aB aR : Option Addr) (nA nB nR cA cB cR : Nat) (w0 : World) (hT : Hid (Tabs w0)) (h2 : 2 ≤ w0.heap.size)
    (hA : Hid (RowAt w0.heap.size w0 (.slice aA nA cA) LA)) (hB : Hid (RowAt w0.heap.size w0 (.slice aB nB cB) LB)) (hnA : Hid (nA = LA.length)) (hnB : Hid (nB = LB.length)) (hSA : nA ≤ 1048576) (hSB : nB ≤ 1048576) (CA CB : List (Int × Int)) (na nb : Nat) (okA : Hid (LA.all okR = true)) (okB : Hid (LB.all okR = true)) (rA : Hid (rightFrom 0 CA = true)) (rB : Hid (rightFrom 0 CB = true)) (KA : Hid (CA.length ≤ 5000)) (KB : Hid (CB.length ≤ 5000)) (hna : Hid (na = CA.length)) (hnb : Hid (nb = CB.length)) (sA : Hid (∀ r, hasB CA r = (dom r && hasB LA r))) (sB : Hid (∀ r, hasB CB r = (dom r && hasB LB r))) (hU : Hid (¬ HasU (CA ++ CB))) (hl0 : na ≤ 2000) (hl : 2000 < nb) :
    Calls Tryd.prog 3 #[.agg #[.slice aA nA cA, .slice aB nB cB, .slice aR nR cR]] w0 fun e w' => e = .returned (.bool true) ∧ Below w0.heap.size w0 w' := by
  have HS0 : Hid (St3 w0 w0.heap.size (.slice aA nA cA) (.slice aB nB cB) (.slice aR nR cR) [(.slice aA nA cA, LA), (.slice aB nB cB, LB)] (w0.alloc (.cells #[.slice aA nA cA, .slice aB nB cB, .slice aR nR cR] 25))) := St3.new w0 _ _ _ LA LB hA.out hB.out
  have HT1 : Hid (Tabs (w0.alloc (.cells #[.slice aA nA cA, .slice aB nB cB, .slice aR nR cR] 25))) := tabs_alloc hT.out h2 _
  go_enter Tryd.func3, Tryd.ntmps3
  go_wp2_with fail
  refine (awake9 _ HT1.out (by simp; omega)).mono ?_
  rintro e w1 ⟨rfl, hb⟩
  have HS1 : Hid (St3 w0 w0.heap.size (.slice aA nA cA) (.slice aB nB cB) (.slice aR nR cR) [(.slice aA nA cA, LA), (.slice aB nB cB, LB)] w1) := HS0.out.next hb
  have c0 := HS1.out.b0
  have c1 := HS1.out.b1
  have c2 := HS1.out.b2
  have g1 := HS1.out.bg
  clear hb HS0 HT1 hT hA hB
  go_wp2_with fail
  refine (norm_eq LA CA aA nA cA w1 hnA.out (by omega) (HS1.out.get 0 rfl) okA.out rA.out KA.out (fun r => (sA.out r).symm)).mono ?_
  intro e w2 hG
  obtain ⟨ad_a, cap_a, rfl, hr, hb⟩ := hG.n hna.out
  have HS2 : Hid (St3 w0 w0.heap.size (.slice aA nA cA) (.slice aB nB cB) (.slice aR nR cR) [(.slice ad_a na cap_a, CA), (.slice aA nA cA, LA), (.slice aB nB cB, LB)] w2) := (HS1.out.next hb).add hr
  clear hr hb HS1 c0 c1 c2 g1
  have c0 := HS2.out.b0
  have c1 := HS2.out.b1
  have c2 := HS2.out.b2
  have g1 := HS2.out.bg
  go_wp2_with fail
  refine (norm_eq LB CB aB nB cB w2 hnB.out (by omega) (HS2.out.get 2 rfl) okB.out rB.out KB.out (fun r => (sB.out r).symm)).mono ?_
  intro e w3 hG
  obtain ⟨ad_b, cap_b, rfl, hr, hb⟩ := hG.n hnb.out
  have HS3 : Hid (St3 w0 w0.heap.size (.slice aA nA cA) (.slice aB nB cB) (.slice aR nR cR) [(.slice ad_b nb cap_b, CB), (.slice ad_a na cap_a, CA), (.slice aA nA cA, LA), (.slice aB nB cB, LB)] w3) := (HS2.out.next hb).add hr
  clear hr hb HS2 c0 c1 c2 g1
  have c0 := HS3.out.b0
  have c1 := HS3.out.b1
  have c2 := HS3.out.b2
  have g1 := HS3.out.bg
  go_wp2_with fail
  refine (union_none CA CB ad_a ad_b na nb cap_a cap_b w3 hna.out hnb.out (HS3.out.get 1 rfl) (HS3.out.get 0 rfl) rA.out KA.out rB.out KB.out hU.out).mono ?_
  rintro e w4 ⟨rfl, hb⟩
  have HS4 : Hid (St3 w0 w0.heap.size (.slice aA nA cA) (.slice aB nB cB) (.slice aR nR cR) [(.slice ad_b nb cap_b, CB), (.slice ad_a na cap_a, CA), (.slice aA nA cA, LA), (.slice aB nB cB, LB)] w4) := HS3.out.next hb
  clear hb HS3 c0 c1 c2 g1
  have c0 := HS4.out.b0
  have c1 := HS4.out.b1
  have c2 := HS4.out.b2
  have g1 := HS4.out.bg
  go_wp2_with fail
  refine (neg_some CA ad_a na cap_a w4 hna.out (HS4.out.get 1 rfl) rA.out KA.out).mono ?_
  rintro e w5 ⟨vn, xn, rfl, hb⟩
  have HS5 : Hid (St3 w0 w0.heap.size (.slice aA nA cA) (.slice aB nB cB) (.slice aR nR cR) [(.slice ad_b nb cap_b, CB), (.slice ad_a na cap_a, CA), (.slice aA nA cA, LA), (.slice aB nB cB, LB)] w5) := HS4.out.next hb
  clear hb HS4 c0 c1 c2 g1
  have c0 := HS5.out.b0
  have c1 := HS5.out.b1
  have c2 := HS5.out.b2
  have g1 := HS5.out.bg
  go_wp2_with fail
  refine (fold_some CA ad_a na cap_a w5 hna.out (HS5.out.get 1 rfl) rA.out KA.out).mono ?_
  rintro e w6 ⟨vo, xo, rfl, hb⟩
  have HS6 : Hid (St3 w0 w0.heap.size (.slice aA nA cA) (.slice aB nB cB) (.slice aR nR cR) [(.slice ad_b nb cap_b, CB), (.slice ad_a na cap_a, CA), (.slice aA nA cA, LA), (.slice aB nB cB, LB)] w6) := HS5.out.next hb
  clear hb HS5 c0 c1 c2 g1
  have c0 := HS6.out.b0
  have c1 := HS6.out.b1
  have c2 := HS6.out.b2
  have g1 := HS6.out.bg
  have HBX : Hid (Below w0.heap.size w0 w6) := HS6.out.bel
  clear HS6 c0 c1 c2 g1
  go_wp2
  go_ret
  exact ⟨ret_bool (by simp <;> omega), HBX.out⟩
set_option maxHeartbeats 16000000 in
set_option maxRecDepth 1000000 in
theorem sets_noN (LA LB : List (Int × Int)) (aA aB aR : Option Addr) (nA nB nR cA cB cR : Nat) (w0 : World) (hT : Hid (Tabs w0)) (h2 : 2 ≤ w0.heap.size)
    (hA : Hid (RowAt w0.heap.size w0 (.slice aA nA cA) LA)) (hB : Hid (RowAt w0.heap.size w0 (.slice aB nB cB) LB)) (hnA : Hid (nA = LA.length)) (hnB : Hid (nB = LB.length)) (hSA : nA ≤ 1048576) (hSB : nB ≤ 1048576) (CA CB : List (Int × Int)) (na nb : Nat) (okA : Hid (LA.all okR = true)) (okB : Hid (LB.all okR = true)) (rA : Hid (rightFrom 0 CA = true)) (rB : Hid (rightFrom 0 CB = true)) (KA : Hid (CA.length ≤ 5000)) (KB : Hid (CB.length ≤ 5000)) (hna : Hid (na = CA.length)) (hnb : Hid (nb = CB.length)) (sA : Hid (∀ r, hasB CA r = (dom r && hasB LA r))) (sB : Hid (∀ r, hasB CB r = (dom r && hasB LB r))) (CU : List (Int × Int)) (nu : Nat) (hnu : Hid (nu = CU.length)) (rU : Hid (rightFrom 0 CU = true)) (KU : Hid (CU.length ≤ 5000)) (sU : Hid (∀ r, hasB CU r = (hasB CA r || hasB CB r))) (hN : Hid (¬ HasU (negFrom 0 CA))) (hl : 2000 < na) :
    Calls Tryd.prog 3 #[.agg #[.slice aA nA cA, .slice aB nB cB, .slice aR nR cR]] w0 fun e w' => e = .returned (.bool true) ∧ Below w0.heap.size w0 w' := by
  have HS0 : Hid (St3 w0 w0.heap.size (.slice aA nA cA) (.slice aB nB cB) (.slice aR nR cR) [(.slice aA nA cA, LA), (.slice aB nB cB, LB)] (w0.alloc (.cells #[.slice aA nA cA, .slice aB nB cB, .slice aR nR cR] 25))) := St3.new w0 _ _ _ LA LB hA.out hB.out
  have HT1 : Hid (Tabs (w0.alloc (.cells #[.slice aA nA cA, .slice aB nB cB, .slice aR nR cR] 25))) := tabs_alloc hT.out h2 _
  go_enter Tryd.func3, Tryd.ntmps3
  go_wp2_with fail
  refine (awake9 _ HT1.out (by simp; omega)).mono ?_
  rintro e w1 ⟨rfl, hb⟩
  have HS1 : Hid (St3 w0 w0.heap.size (.slice aA nA cA) (.slice aB nB cB) (.slice aR nR cR) [(.slice aA nA cA, LA), (.slice aB nB cB, LB)] w1) := HS0.out.next hb
  have c0 := HS1.out.b0
  have c1 := HS1.out.b1
  have c2 := HS1.out.b2
  have g1 := HS1.out.bg
  clear hb HS0 HT1 hT hA hB
  go_wp2_with fail
  refine (norm_eq LA CA aA nA cA w1 hnA.out (by omega) (HS1.out.get 0 rfl) okA.out rA.out KA.out (fun r => (sA.out r).symm)).mono ?_
  intro e w2 hG
  obtain ⟨ad_a, cap_a, rfl, hr, hb⟩ := hG.n hna.out
  have HS2 : Hid (St3 w0 w0.heap.size (.slice aA nA cA) (.slice aB nB cB) (.slice aR nR cR) [(.slice ad_a na cap_a, CA), (.slice aA nA cA, LA), (.slice aB nB cB, LB)] w2) := (HS1.out.next hb).add hr
  clear hr hb HS1 c0 c1 c2 g1
  have c0 := HS2.out.b0
  have c1 := HS2.out.b1
  have c2 := HS2.out.b2
  have g1 := HS2.out.bg
  go_wp2_with fail
  refine (norm_eq LB CB aB nB cB w2 hnB.out (by omega) (HS2.out.get 2 rfl) okB.out rB.out KB.out (fun r => (sB.out r).symm)).mono ?_
  intro e w3 hG
  obtain ⟨ad_b, cap_b, rfl, hr, hb⟩ := hG.n hnb.out
  have HS3 : Hid (St3 w0 w0.heap.size (.slice aA nA cA) (.slice aB nB cB) (.slice aR nR cR) [(.slice ad_b nb cap_b, CB), (.slice ad_a na cap_a, CA), (.slice aA nA cA, LA), (.slice aB nB cB, LB)] w3) := (HS2.out.next hb).add hr
  clear hr hb HS2 c0 c1 c2 g1
  have c0 := HS3.out.b0
  have c1 := HS3.out.b1
  have c2 := HS3.out.b2
  have g1 := HS3.out.bg
  go_wp2_with fail
  refine (union_eq CA CB CU ad_a ad_b na nb cap_a cap_b w3 hna.out hnb.out (HS3.out.get 1 rfl) (HS3.out.get 0 rfl) rA.out KA.out rB.out KB.out rU.out KU.out (fun r => (sU.out r).symm)).mono ?_
  intro e w4 hG
  obtain ⟨ad_u, cap_u, rfl, hr, hb⟩ := hG.n hnu.out
  have HS4 : Hid (St3 w0 w0.heap.size (.slice aA nA cA) (.slice aB nB cB) (.slice aR nR cR) [(.slice ad_u nu cap_u, CU), (.slice ad_b nb cap_b, CB), (.slice ad_a na cap_a, CA), (.slice aA nA cA, LA), (.slice aB nB cB, LB)] w4) := (HS3.out.next hb).add hr
  clear hr hb HS3 c0 c1 c2 g1
  have c0 := HS4.out.b0
  have c1 := HS4.out.b1
  have c2 := HS4.out.b2
  have g1 := HS4.out.bg
  go_wp2_with fail
  refine (neg_none CA ad_a na cap_a w4 hna.out (HS4.out.get 2 rfl) rA.out KA.out hN.out).mono ?_
  rintro e w5 ⟨rfl, hb⟩
  have HS5 : Hid (St3 w0 w0.heap.size (.slice aA nA cA) (.slice aB nB cB) (.slice aR nR cR) [(.slice ad_u nu cap_u, CU), (.slice ad_b nb cap_b, CB), (.slice ad_a na cap_a, CA), (.slice aA nA cA, LA), (.slice aB nB cB, LB)] w5) := HS4.out.next hb
  clear hb HS4 c0 c1 c2 g1
  have c0 := HS5.out.b0
  have c1 := HS5.out.b1
  have c2 := HS5.out.b2
  have g1 := HS5.out.bg
  go_wp2_with fail
  refine (fold_some CA ad_a na cap_a w5 hna.out (HS5.out.get 2 rfl) rA.out KA.out).mono ?_
  rintro e w6 ⟨vo, xo, rfl, hb⟩
  have HS6 : Hid (St3 w0 w0.heap.size (.slice aA nA cA) (.slice aB nB cB) (.slice aR nR cR) [(.slice ad_u nu cap_u, CU), (.slice ad_b nb cap_b, CB), (.slice ad_a na cap_a, CA), (.slice aA nA cA, LA), (.slice aB nB cB, LB)] w6) := HS5.out.next hb
  clear hb HS5 c0 c1 c2 g1
  have c0 := HS6.out.b0
  have c1 := HS6.out.b1
  have c2 := HS6.out.b2
  have g1 := HS6.out.bg
  have HBX : Hid (Below w0.heap.size w0 w6) := HS6.out.bel
  clear HS6 c0 c1 c2 g1
  go_wp2
  go_ret
  exact ⟨ret_bool (by simp <;> omega), HBX.out⟩
set_option maxHeartbeats 16000000 in
set_option maxRecDepth 1000000 in
theorem sets_noO (LA LB : List (Int × Int)) (aA aB aR : Option Addr) (nA nB nR cA cB cR : Nat) (w0 : World) (hT : Hid (Tabs w0)) (h2 : 2 ≤ w0.heap.size)
    (hA : Hid (RowAt w0.heap.size w0 (.slice aA nA cA) LA)) (hB : Hid (RowAt w0.heap.size w0 (.slice aB nB cB) LB)) (hnA : Hid (nA = LA.length)) (hnB : Hid (nB = LB.length)) (hSA : nA ≤ 1048576) (hSB : nB ≤ 1048576) (CA CB : List (Int × Int)) (na nb : Nat) (okA : Hid (LA.all okR = true)) (okB : Hid (LB.all okR = true)) (rA : Hid (rightFrom 0 CA = true)) (rB : Hid (rightFrom 0 CB = true)) (KA : Hid (CA.length ≤ 5000)) (KB : Hid (CB.length ≤ 5000)) (hna : Hid (na = CA.length)) (hnb : Hid (nb = CB.length)) (sA : Hid (∀ r, hasB CA r = (dom r && hasB LA r))) (sB : Hid (∀ r, hasB CB r = (dom r && hasB LB r))) (CU : List (Int × Int)) (nu : Nat) (hnu : Hid (nu = CU.length)) (rU : Hid (rightFrom 0 CU = true)) (KU : Hid (CU.length ≤ 5000)) (sU : Hid (∀ r, hasB CU r = (hasB CA r || hasB CB r))) (CN : List (Int × Int)) (nn : Nat) (hnn : Hid (nn = CN.length)) (rN : Hid (rightFrom 0 CN = true)) (KN : Hid (CN.length ≤ 5000)) (sN : Hid (∀ r, hasB CN r = (dom r && !hasB CA r))) (hO : Hid (¬ HasU (CA ++ allFold CA))) (hl : 2000 < na) :
    Calls Tryd.prog 3 #[.agg #[.slice aA nA cA, .slice aB nB cB, .slice aR nR cR]] w0 fun e w' => e = .returned (.bool true) ∧ Below w0.heap.size w0 w' := by
  have HS0 : Hid (St3 w0 w0.heap.size (.slice aA nA cA) (.slice aB nB cB) (.slice aR nR cR) [(.slice aA nA cA, LA), (.slice aB nB cB, LB)] (w0.alloc (.cells #[.slice aA nA cA, .slice aB nB cB, .slice aR nR cR] 25))) := St3.new w0 _ _ _ LA LB hA.out hB.out
  have HT1 : Hid (Tabs (w0.alloc (.cells #[.slice aA nA cA, .slice aB nB cB, .slice aR nR cR] 25))) := tabs_alloc hT.out h2 _
  go_enter Tryd.func3, Tryd.ntmps3
  go_wp2_with fail
  refine (awake9 _ HT1.out (by simp; omega)).mono ?_
  rintro e w1 ⟨rfl, hb⟩
  have HS1 : Hid (St3 w0 w0.heap.size (.slice aA nA cA) (.slice aB nB cB) (.slice aR nR cR) [(.slice aA nA cA, LA), (.slice aB nB cB, LB)] w1) := HS0.out.next hb
  have c0 := HS1.out.b0
  have c1 := HS1.out.b1
  have c2 := HS1.out.b2
  have g1 := HS1.out.bg
  clear hb HS0 HT1 hT hA hB
  go_wp2_with fail
  refine (norm_eq LA CA aA nA cA w1 hnA.out (by omega) (HS1.out.get 0 rfl) okA.out rA.out KA.out (fun r => (sA.out r).symm)).mono ?_
  intro e w2 hG
  obtain ⟨ad_a, cap_a, rfl, hr, hb⟩ := hG.n hna.out
  have HS2 : Hid (St3 w0 w0.heap.size (.slice aA nA cA) (.slice aB nB cB) (.slice aR nR cR) [(.slice ad_a na cap_a, CA), (.slice aA nA cA, LA), (.slice aB nB cB, LB)] w2) := (HS1.out.next hb).add hr
  clear hr hb HS1 c0 c1 c2 g1
  have c0 := HS2.out.b0
  have c1 := HS2.out.b1
  have c2 := HS2.out.b2
  have g1 := HS2.out.bg
  go_wp2_with fail
  refine (norm_eq LB CB aB nB cB w2 hnB.out (by omega) (HS2.out.get 2 rfl) okB.out rB.out KB.out (fun r => (sB.out r).symm)).mono ?_
  intro e w3 hG
  obtain ⟨ad_b, cap_b, rfl, hr, hb⟩ := hG.n hnb.out
  have HS3 : Hid (St3 w0 w0.heap.size (.slice aA nA cA) (.slice aB nB cB) (.slice aR nR cR) [(.slice ad_b nb cap_b, CB), (.slice ad_a na cap_a, CA), (.slice aA nA cA, LA), (.slice aB nB cB, LB)] w3) := (HS2.out.next hb).add hr
  clear hr hb HS2 c0 c1 c2 g1
  have c0 := HS3.out.b0
  have c1 := HS3.out.b1
  have c2 := HS3.out.b2
  have g1 := HS3.out.bg
  go_wp2_with fail
  refine (union_eq CA CB CU ad_a ad_b na nb cap_a cap_b w3 hna.out hnb.out (HS3.out.get 1 rfl) (HS3.out.get 0 rfl) rA.out KA.out rB.out KB.out rU.out KU.out (fun r => (sU.out r).symm)).mono ?_
  intro e w4 hG
  obtain ⟨ad_u, cap_u, rfl, hr, hb⟩ := hG.n hnu.out
  have HS4 : Hid (St3 w0 w0.heap.size (.slice aA nA cA) (.slice aB nB cB) (.slice aR nR cR) [(.slice ad_u nu cap_u, CU), (.slice ad_b nb cap_b, CB), (.slice ad_a na cap_a, CA), (.slice aA nA cA, LA), (.slice aB nB cB, LB)] w4) := (HS3.out.next hb).add hr
  clear hr hb HS3 c0 c1 c2 g1
  have c0 := HS4.out.b0
  have c1 := HS4.out.b1
  have c2 := HS4.out.b2
  have g1 := HS4.out.bg
  go_wp2_with fail
  refine (neg_eq CA CN ad_a na cap_a w4 hna.out (HS4.out.get 2 rfl) rA.out KA.out rN.out KN.out (fun r => (sN.out r).symm)).mono ?_
  intro e w5 hG
  obtain ⟨ad_n, cap_n, rfl, hr, hb⟩ := hG.n hnn.out
  have HS5 : Hid (St3 w0 w0.heap.size (.slice aA nA cA) (.slice aB nB cB) (.slice aR nR cR) [(.slice ad_n nn cap_n, CN), (.slice ad_u nu cap_u, CU), (.slice ad_b nb cap_b, CB), (.slice ad_a na cap_a, CA), (.slice aA nA cA, LA), (.slice aB nB cB, LB)] w5) := (HS4.out.next hb).add hr
  clear hr hb HS4 c0 c1 c2 g1
  have c0 := HS5.out.b0
  have c1 := HS5.out.b1
  have c2 := HS5.out.b2
  have g1 := HS5.out.bg
  go_wp2_with fail
  refine (fold_none CA ad_a na cap_a w5 hna.out (HS5.out.get 3 rfl) rA.out KA.out hO.out).mono ?_
  rintro e w6 ⟨rfl, hb⟩
  have HS6 : Hid (St3 w0 w0.heap.size (.slice aA nA cA) (.slice aB nB cB) (.slice aR nR cR) [(.slice ad_n nn cap_n, CN), (.slice ad_u nu cap_u, CU), (.slice ad_b nb cap_b, CB), (.slice ad_a na cap_a, CA), (.slice aA nA cA, LA), (.slice aB nB cB, LB)] w6) := HS5.out.next hb
  clear hb HS5 c0 c1 c2 g1
  have c0 := HS6.out.b0
  have c1 := HS6.out.b1
  have c2 := HS6.out.b2
  have g1 := HS6.out.bg
  have HBX : Hid (Below w0.heap.size w0 w6) := HS6.out.bel
  clear HS6 c0 c1 c2 g1
  go_wp2
  go_ret
  exact ⟨ret_bool (by simp <;> omega), HBX.out⟩
end Go.Proofs.YtjglehklfdhgaabDoor
