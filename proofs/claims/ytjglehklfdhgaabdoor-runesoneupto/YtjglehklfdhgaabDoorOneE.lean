/- HELPERS: the walk of RunesOne where a list is no class, or one is long. -/
import Derived.Test.YtjglehklfdhgaabDoorOneW
namespace Go.Proofs.YtjglehklfdhgaabDoor
open Go.Shelf Go.RowKit Go.Lib Go.Sort Go.Mx
set_option linter.unusedVariables false
set_option linter.unusedSimpArgs false
/-- is there a class of a list's runes, of at most 5000 ranges -/
def HasC (L : List (Int × Int)) : Prop := ∃ C, L.all okR = true ∧ rightFrom 0 C = true ∧ C.length ≤ 5000 ∧ ∀ r, hasB C r = (dom r && hasB L r)
set_option maxHeartbeats 4000000 in
set_option maxRecDepth 1000000 in
theorem one_badA (LA LB : List (Int × Int)) (aA aB aR : Option Addr) (nA nB nR cA cB cR : Nat) (w0 : World) (hT : Hid (Tabs w0)) (h2 : 2 ≤ w0.heap.size)
    (hA : Hid (RowAt w0.heap.size w0 (.slice aA nA cA) LA)) (hB : Hid (RowAt w0.heap.size w0 (.slice aB nB cB) LB)) (hnA : Hid (nA = LA.length)) (hnB : Hid (nB = LB.length)) (hSA : nA ≤ 1048576) (hSB : nB ≤ 1048576) (bA : Hid (¬ HasC LA)) :
    Calls Tryd.prog 4 #[.agg #[.slice aA nA cA, .slice aB nB cB, .slice aR nR cR]] w0 fun e w' => e = .returned (.bool true) ∧ Below w0.heap.size w0 w' := by
  have HS0 : Hid (St w0 w0.heap.size (.slice aA nA cA) (.slice aB nB cB) [(.slice aA nA cA, LA), (.slice aB nB cB, LB)] (w0.alloc (.cells #[.slice aA nA cA, .slice aB nB cB, .slice aR nR cR] 25))) := St.new w0 _ _ _ LA LB hA.out hB.out
  have HT1 : Hid (Tabs (w0.alloc (.cells #[.slice aA nA cA, .slice aB nB cB, .slice aR nR cR] 25))) := tabs_alloc hT.out h2 _
  go_enter Tryd.func4, Tryd.ntmps4
  go_wp2_with fail
  refine (awake9 _ HT1.out (by simp; omega)).mono ?_
  rintro e w1 ⟨rfl, hb⟩
  have HS1 : Hid (St w0 w0.heap.size (.slice aA nA cA) (.slice aB nB cB) [(.slice aA nA cA, LA), (.slice aB nB cB, LB)] w1) := HS0.out.next hb
  have c0 := HS1.out.b0
  have c1 := HS1.out.b1
  have g1 := HS1.out.bg
  clear hb HS0 HT1 hT hA hB
  go_wp2_with fail
  refine (norm_bad LA aA nA cA w1 hnA.out (by omega) (HS1.out.get 0 rfl) bA.out).mono ?_
  rintro e w2 ⟨c, hc, rfl, hb⟩
  have HS2 : Hid (St w0 w0.heap.size (.slice aA nA cA) (.slice aB nB cB) [(.slice aA nA cA, LA), (.slice aB nB cB, LB)] w2) := HS1.out.next hb
  have d1 := HS2.out.b1
  have hc1 : (c != 0) = true := by simp; omega
  clear hb HS1 c0 c1 g1 hc
  go_wp2_with fail
  refine (normS LB aB nB cB w2 hnB.out (by omega) (HS2.out.get 1 rfl)).mono ?_
  intro e w3 hE
  have hX : ∃ v x, e = .returned (.tuple #[v, .int .i64 x]) ∧ Below w2.heap.size w2 w3 := by
    rcases hE with ⟨C, _, ⟨ad, cap, he, _, hb⟩, _⟩ | ⟨x, _, he, hb⟩
    · exact ⟨_, _, he, hb⟩
    · exact ⟨_, _, he, hb⟩
  obtain ⟨v, x, rfl, hb⟩ := hX
  have HB3 : Hid (Below w0.heap.size w0 w3) := (HS2.out.next hb).bel
  clear hE hb HS2 d1
  go_wp2
  go_ret
  exact ⟨rfl, HB3.out⟩
set_option maxHeartbeats 4000000 in
set_option maxRecDepth 1000000 in
theorem one_badB (LA LB : List (Int × Int)) (aA aB aR : Option Addr) (nA nB nR cA cB cR : Nat) (w0 : World) (hT : Hid (Tabs w0)) (h2 : 2 ≤ w0.heap.size)
    (hA : Hid (RowAt w0.heap.size w0 (.slice aA nA cA) LA)) (hB : Hid (RowAt w0.heap.size w0 (.slice aB nB cB) LB)) (hnA : Hid (nA = LA.length)) (hnB : Hid (nB = LB.length)) (hSA : nA ≤ 1048576) (hSB : nB ≤ 1048576) (CA : List (Int × Int)) (na : Nat) (okA : Hid (LA.all okR = true)) (rA : Hid (rightFrom 0 CA = true)) (KA : Hid (CA.length ≤ 5000)) (hna : Hid (na = CA.length)) (sA : Hid (∀ r, hasB CA r = (dom r && hasB LA r))) (bB : Hid (¬ HasC LB)) :
    Calls Tryd.prog 4 #[.agg #[.slice aA nA cA, .slice aB nB cB, .slice aR nR cR]] w0 fun e w' => e = .returned (.bool true) ∧ Below w0.heap.size w0 w' := by
  have HS0 : Hid (St w0 w0.heap.size (.slice aA nA cA) (.slice aB nB cB) [(.slice aA nA cA, LA), (.slice aB nB cB, LB)] (w0.alloc (.cells #[.slice aA nA cA, .slice aB nB cB, .slice aR nR cR] 25))) := St.new w0 _ _ _ LA LB hA.out hB.out
  have HT1 : Hid (Tabs (w0.alloc (.cells #[.slice aA nA cA, .slice aB nB cB, .slice aR nR cR] 25))) := tabs_alloc hT.out h2 _
  go_enter Tryd.func4, Tryd.ntmps4
  go_wp2_with fail
  refine (awake9 _ HT1.out (by simp; omega)).mono ?_
  rintro e w1 ⟨rfl, hb⟩
  have HS1 : Hid (St w0 w0.heap.size (.slice aA nA cA) (.slice aB nB cB) [(.slice aA nA cA, LA), (.slice aB nB cB, LB)] w1) := HS0.out.next hb
  have c0 := HS1.out.b0
  have c1 := HS1.out.b1
  have g1 := HS1.out.bg
  clear hb HS0 HT1 hT hA hB
  go_wp2_with fail
  refine (norm_eq LA CA aA nA cA w1 hnA.out (by omega) (HS1.out.get 0 rfl) okA.out rA.out KA.out (fun r => (sA.out r).symm)).mono ?_
  intro e w2 hG
  obtain ⟨ad_a, cap_a, rfl, hr, hb⟩ := hG.n hna.out
  have HS2 : Hid (St w0 w0.heap.size (.slice aA nA cA) (.slice aB nB cB) [(.slice aA nA cA, LA), (.slice aB nB cB, LB)] w2) := HS1.out.next hb
  have d1 := HS2.out.b1
  clear hr hb HS1 c0 c1 g1
  go_wp2_with fail
  refine (norm_bad LB aB nB cB w2 hnB.out (by omega) (HS2.out.get 1 rfl) bB.out).mono ?_
  rintro e w3 ⟨c, hc, rfl, hb⟩
  have hc1 : (c != 0) = true := by simp; omega
  have HB3 : Hid (Below w0.heap.size w0 w3) := (HS2.out.next hb).bel
  clear hb HS2 d1 hc
  go_wp2
  go_ret
  exact ⟨rfl, HB3.out⟩
set_option maxHeartbeats 4000000 in
set_option maxRecDepth 1000000 in
theorem one_longA (LA LB : List (Int × Int)) (aA aB aR : Option Addr) (nA nB nR cA cB cR : Nat) (w0 : World) (hT : Hid (Tabs w0)) (h2 : 2 ≤ w0.heap.size)
    (hA : Hid (RowAt w0.heap.size w0 (.slice aA nA cA) LA)) (hB : Hid (RowAt w0.heap.size w0 (.slice aB nB cB) LB)) (hnA : Hid (nA = LA.length)) (hnB : Hid (nB = LB.length)) (hSA : nA ≤ 1048576) (hSB : nB ≤ 1048576) (CA CB : List (Int × Int)) (na nb : Nat) (okA : Hid (LA.all okR = true)) (okB : Hid (LB.all okR = true)) (rA : Hid (rightFrom 0 CA = true)) (rB : Hid (rightFrom 0 CB = true)) (KA : Hid (CA.length ≤ 5000)) (KB : Hid (CB.length ≤ 5000)) (hna : Hid (na = CA.length)) (hnb : Hid (nb = CB.length)) (sA : Hid (∀ r, hasB CA r = (dom r && hasB LA r))) (sB : Hid (∀ r, hasB CB r = (dom r && hasB LB r))) (hl : 2000 < na) :
    Calls Tryd.prog 4 #[.agg #[.slice aA nA cA, .slice aB nB cB, .slice aR nR cR]] w0 fun e w' => e = .returned (.bool true) ∧ Below w0.heap.size w0 w' := by
  have HS0 : Hid (St w0 w0.heap.size (.slice aA nA cA) (.slice aB nB cB) [(.slice aA nA cA, LA), (.slice aB nB cB, LB)] (w0.alloc (.cells #[.slice aA nA cA, .slice aB nB cB, .slice aR nR cR] 25))) := St.new w0 _ _ _ LA LB hA.out hB.out
  have HT1 : Hid (Tabs (w0.alloc (.cells #[.slice aA nA cA, .slice aB nB cB, .slice aR nR cR] 25))) := tabs_alloc hT.out h2 _
  go_enter Tryd.func4, Tryd.ntmps4
  go_wp2_with fail
  refine (awake9 _ HT1.out (by simp; omega)).mono ?_
  rintro e w1 ⟨rfl, hb⟩
  have HS1 : Hid (St w0 w0.heap.size (.slice aA nA cA) (.slice aB nB cB) [(.slice aA nA cA, LA), (.slice aB nB cB, LB)] w1) := HS0.out.next hb
  have c0 := HS1.out.b0
  have c1 := HS1.out.b1
  have g1 := HS1.out.bg
  clear hb HS0 HT1 hT hA hB
  go_wp2_with fail
  refine (norm_eq LA CA aA nA cA w1 hnA.out (by omega) (HS1.out.get 0 rfl) okA.out rA.out KA.out (fun r => (sA.out r).symm)).mono ?_
  intro e w2 hG
  obtain ⟨ad_a, cap_a, rfl, hr, hb⟩ := hG.n hna.out
  have HS2 : Hid (St w0 w0.heap.size (.slice aA nA cA) (.slice aB nB cB) [(.slice aA nA cA, LA), (.slice aB nB cB, LB)] w2) := HS1.out.next hb
  have d1 := HS2.out.b1
  clear hr hb HS1 c0 c1 g1
  go_wp2_with fail
  refine (norm_eq LB CB aB nB cB w2 hnB.out (by omega) (HS2.out.get 1 rfl) okB.out rB.out KB.out (fun r => (sB.out r).symm)).mono ?_
  intro e w3 hG
  obtain ⟨ad_b, cap_b, rfl, hr, hb⟩ := hG.n hnb.out
  have HB3 : Hid (Below w0.heap.size w0 w3) := (HS2.out.next hb).bel
  clear hr hb HS2 d1
  go_wp2
  go_ret
  exact ⟨rfl, HB3.out⟩
set_option maxHeartbeats 4000000 in
set_option maxRecDepth 1000000 in
theorem one_longB (LA LB : List (Int × Int)) (aA aB aR : Option Addr) (nA nB nR cA cB cR : Nat) (w0 : World) (hT : Hid (Tabs w0)) (h2 : 2 ≤ w0.heap.size)
    (hA : Hid (RowAt w0.heap.size w0 (.slice aA nA cA) LA)) (hB : Hid (RowAt w0.heap.size w0 (.slice aB nB cB) LB)) (hnA : Hid (nA = LA.length)) (hnB : Hid (nB = LB.length)) (hSA : nA ≤ 1048576) (hSB : nB ≤ 1048576) (CA CB : List (Int × Int)) (na nb : Nat) (okA : Hid (LA.all okR = true)) (okB : Hid (LB.all okR = true)) (rA : Hid (rightFrom 0 CA = true)) (rB : Hid (rightFrom 0 CB = true)) (KA : Hid (CA.length ≤ 5000)) (KB : Hid (CB.length ≤ 5000)) (hna : Hid (na = CA.length)) (hnb : Hid (nb = CB.length)) (sA : Hid (∀ r, hasB CA r = (dom r && hasB LA r))) (sB : Hid (∀ r, hasB CB r = (dom r && hasB LB r))) (hl0 : na ≤ 2000) (hl : 2000 < nb) :
    Calls Tryd.prog 4 #[.agg #[.slice aA nA cA, .slice aB nB cB, .slice aR nR cR]] w0 fun e w' => e = .returned (.bool true) ∧ Below w0.heap.size w0 w' := by
  have HS0 : Hid (St w0 w0.heap.size (.slice aA nA cA) (.slice aB nB cB) [(.slice aA nA cA, LA), (.slice aB nB cB, LB)] (w0.alloc (.cells #[.slice aA nA cA, .slice aB nB cB, .slice aR nR cR] 25))) := St.new w0 _ _ _ LA LB hA.out hB.out
  have HT1 : Hid (Tabs (w0.alloc (.cells #[.slice aA nA cA, .slice aB nB cB, .slice aR nR cR] 25))) := tabs_alloc hT.out h2 _
  go_enter Tryd.func4, Tryd.ntmps4
  go_wp2_with fail
  refine (awake9 _ HT1.out (by simp; omega)).mono ?_
  rintro e w1 ⟨rfl, hb⟩
  have HS1 : Hid (St w0 w0.heap.size (.slice aA nA cA) (.slice aB nB cB) [(.slice aA nA cA, LA), (.slice aB nB cB, LB)] w1) := HS0.out.next hb
  have c0 := HS1.out.b0
  have c1 := HS1.out.b1
  have g1 := HS1.out.bg
  clear hb HS0 HT1 hT hA hB
  go_wp2_with fail
  refine (norm_eq LA CA aA nA cA w1 hnA.out (by omega) (HS1.out.get 0 rfl) okA.out rA.out KA.out (fun r => (sA.out r).symm)).mono ?_
  intro e w2 hG
  obtain ⟨ad_a, cap_a, rfl, hr, hb⟩ := hG.n hna.out
  have HS2 : Hid (St w0 w0.heap.size (.slice aA nA cA) (.slice aB nB cB) [(.slice aA nA cA, LA), (.slice aB nB cB, LB)] w2) := HS1.out.next hb
  have d1 := HS2.out.b1
  clear hr hb HS1 c0 c1 g1
  go_wp2_with fail
  refine (norm_eq LB CB aB nB cB w2 hnB.out (by omega) (HS2.out.get 1 rfl) okB.out rB.out KB.out (fun r => (sB.out r).symm)).mono ?_
  intro e w3 hG
  obtain ⟨ad_b, cap_b, rfl, hr, hb⟩ := hG.n hnb.out
  have HB3 : Hid (Below w0.heap.size w0 w3) := (HS2.out.next hb).bel
  clear hr hb HS2 d1
  go_wp2
  go_ret
  exact ⟨rfl, HB3.out⟩
theorem one4 (LA LB : List (Int × Int)) (aA aB aR : Option Addr) (nA nB nR cA cB cR : Nat) (w0 : World) (hT : Hid (Tabs w0)) (h2 : 2 ≤ w0.heap.size)
    (hA : Hid (RowAt w0.heap.size w0 (.slice aA nA cA) LA)) (hB : Hid (RowAt w0.heap.size w0 (.slice aB nB cB) LB)) (hnA : Hid (nA = LA.length)) (hnB : Hid (nB = LB.length)) (hSA : nA ≤ 1048576) (hSB : nB ≤ 1048576) (zA : aA = none → cA = 0) (zB : aB = none → cB = 0) :
    Calls Tryd.prog 4 #[.agg #[.slice aA nA cA, .slice aB nB cB, .slice aR nR cR]] w0 fun e w' => e = .returned (.bool true) ∧ Below w0.heap.size w0 w' := by
  by_cases hAc : HasC LA
  · obtain ⟨CA, okA, rA, KA, sA⟩ := hAc
    by_cases hBc : HasC LB
    · obtain ⟨CB, okB, rB, KB, sB⟩ := hBc
      by_cases h1 : CA.length ≤ 2000
      · by_cases h2' : CB.length ≤ 2000
        · exact one_main LA LB CA CB aA aB aR nA nB nR cA cB cR CA.length CB.length w0 hT h2 hA hB hnA hnB hSA hSB zA zB okA okB rA rB rfl rfl sA sB h1 h2'
        · exact one_longB LA LB aA aB aR nA nB nR cA cB cR w0 hT h2 hA hB hnA hnB hSA hSB CA CB CA.length CB.length okA okB rA rB KA KB rfl rfl sA sB h1 (by omega)
      · exact one_longA LA LB aA aB aR nA nB nR cA cB cR w0 hT h2 hA hB hnA hnB hSA hSB CA CB CA.length CB.length okA okB rA rB KA KB rfl rfl sA sB (by omega)
    · exact one_badB LA LB aA aB aR nA nB nR cA cB cR w0 hT h2 hA hB hnA hnB hSA hSB CA CA.length okA rA KA rfl sA hBc
  · exact one_badA LA LB aA aB aR nA nB nR cA cB cR w0 hT h2 hA hB hnA hnB hSA hSB hAc
end Go.Proofs.YtjglehklfdhgaabDoor
