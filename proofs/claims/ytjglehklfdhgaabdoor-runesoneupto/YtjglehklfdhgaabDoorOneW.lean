/- HELPERS: the walk of RunesOne. -/
import Derived.Test.YtjglehklfdhgaabDoorOneL
namespace Go.Proofs.YtjglehklfdhgaabDoor
open Go.Shelf Go.RowKit Go.Lib Go.Sort Go.Mx
set_option linter.unusedVariables false
set_option linter.unusedSimpArgs false
theorem row_form2 {w : World} {B n m : Nat} {v : Value} {L M : List (Int × Int)} (hn : n + m = (L ++ M).length) (h : Hid (w.ownsRow B 44 2 v (0 + n + m) (fl (([] ++ L) ++ M)))) : ∃ ad cap, v = .slice ad (n + m) cap ∧ Hid (RowAt w.heap.size w (.slice ad (n + m) cap) (L ++ M)) := by
  have h' : w.ownsRow B 44 2 v (n + m) (fl (L ++ M)) := by
    have := h.out
    rwa [Nat.zero_add, List.nil_append] at this
  have hr := row_own hn h'
  obtain ⟨ad, cap, rfl, h2⟩ := hr
  rw [← hn]
  exact ⟨ad, cap, rfl, ⟨ad, cap, by rw [hn], h2⟩⟩
theorem neg_neg {A N : List (Int × Int)} (rA : rightFrom 0 A = true) (sN : ∀ r, hasB N r = (dom r && !hasB A r)) (r : Int) : (dom r && !hasB N r) = hasB A r := by
  rw [sN, ← right_has rA r]
  cases dom r <;> cases hasB A r <;> rfl
theorem or_neg {A N : List (Int × Int)} (rA : rightFrom 0 A = true) (sN : ∀ r, hasB N r = (dom r && !hasB A r)) (r : Int) : (hasB A r || hasB N r) = hasB wholeL r := by
  rw [sN, whole_has, ← right_has rA r]
  cases dom r <;> cases hasB A r <;> rfl
theorem right_true (C : List (Int × Int)) (ad : Option Addr) (n cap : Nat) (w : World) (hn : n = C.length) (h1 : rightFrom 0 C = true) (h2 : C.length ≤ 5000) (hl : RowAt w.heap.size w (.slice ad n cap) C) :
    Calls Tryd.prog 15 #[.slice ad n cap] w fun e w' => e = .returned (.bool true) ∧ Below w.heap.size w w' := by
  have h := right25 C ad n cap w hn (by omega) hl
  rw [rightB_of h1 h2] at h
  exact h
set_option maxHeartbeats 16000000 in
set_option maxRecDepth 1000000 in
theorem one_main (LA LB CA CB : List (Int × Int)) (aA aB aR : Option Addr) (nA nB nR cA cB cR na nb : Nat) (w0 : World) (hT : Hid (Tabs w0)) (h2 : 2 ≤ w0.heap.size)
    (hA : Hid (RowAt w0.heap.size w0 (.slice aA nA cA) LA)) (hB : Hid (RowAt w0.heap.size w0 (.slice aB nB cB) LB)) (hnA : Hid (nA = LA.length)) (hnB : Hid (nB = LB.length)) (hSA : nA ≤ 1048576) (hSB : nB ≤ 1048576) (zA : Hid (aA = none → cA = 0)) (zB : Hid (aB = none → cB = 0))
    (okA : Hid (LA.all okR = true)) (okB : Hid (LB.all okR = true)) (rA : Hid (rightFrom 0 CA = true)) (rB : Hid (rightFrom 0 CB = true)) (hna : Hid (na = CA.length)) (hnb : Hid (nb = CB.length))
    (sA : Hid (∀ r, hasB CA r = (dom r && hasB LA r))) (sB : Hid (∀ r, hasB CB r = (dom r && hasB LB r))) (lA : na ≤ 2000) (lB : nb ≤ 2000) :
    Calls Tryd.prog 4 #[.agg #[.slice aA nA cA, .slice aB nB cB, .slice aR nR cR]] w0 fun e w' => e = .returned (.bool true) ∧ Below w0.heap.size w0 w' := by
  have HS0 : Hid (St w0 w0.heap.size (.slice aA nA cA) (.slice aB nB cB) [(.slice aA nA cA, LA), (.slice aB nB cB, LB)] (w0.alloc (.cells #[.slice aA nA cA, .slice aB nB cB, .slice aR nR cR] 25))) := St.new w0 _ _ _ LA LB hA.out hB.out
  have HT1 : Hid (Tabs (w0.alloc (.cells #[.slice aA nA cA, .slice aB nB cB, .slice aR nR cR] 25))) := tabs_alloc hT.out h2 _
  have KA : Hid (CA.length ≤ 5000) := by show _ ≤ _; have := hna.out; omega
  have KB : Hid (CB.length ≤ 5000) := by show _ ≤ _; have := hnb.out; omega
  have KA2 : Hid (CA.length ≤ 2000) := by show _ ≤ _; have := hna.out; omega
  have KB2 : Hid (CB.length ≤ 2000) := by show _ ≤ _; have := hnb.out; omega
  go_enter Tryd.func4, Tryd.ntmps4
  go_wp2_with fail
  refine (awake9 _ HT1.out (by simp; omega)).mono ?_
  rintro e w1 ⟨rfl, hb⟩
  have HS1 : Hid (St w0 w0.heap.size (.slice aA nA cA) (.slice aB nB cB) [(.slice aA nA cA, LA), (.slice aB nB cB, LB)] w1) := HS0.out.next hb
  have c0 := HS1.out.b0
  have c1 := HS1.out.b1
  have g1 := HS1.out.bg
  clear hb HS0 HT1 hT hA hB
  go_wp2_with fail
  refine (norm_eq LA CA aA nA cA w1 hnA.out (by omega) (HS1.out.get 0 rfl) okA.out rA.out KA.out (fun r => (sA.out r).symm)).mono ?_
  intro e w2 hG
  obtain ⟨ad_a, cap_a, rfl, hr, hb⟩ := hG.n hna.out
  have HS2 : Hid (St w0 w0.heap.size (.slice aA nA cA) (.slice aB nB cB) [(.slice ad_a na cap_a, CA), (.slice aA nA cA, LA), (.slice aB nB cB, LB)] w2) := (HS1.out.next hb).add hr
  clear hr hb HS1 c0 c1 g1
  have c0 := HS2.out.b0
  have c1 := HS2.out.b1
  have g1 := HS2.out.bg
  go_wp2_with fail
  refine (norm_eq LB CB aB nB cB w2 hnB.out (by omega) (HS2.out.get 2 rfl) okB.out rB.out KB.out (fun r => (sB.out r).symm)).mono ?_
  intro e w3 hG
  obtain ⟨ad_b, cap_b, rfl, hr, hb⟩ := hG.n hnb.out
  have HS3 : Hid (St w0 w0.heap.size (.slice aA nA cA) (.slice aB nB cB) [(.slice ad_b nb cap_b, CB), (.slice ad_a na cap_a, CA), (.slice aA nA cA, LA), (.slice aB nB cB, LB)] w3) := (HS2.out.next hb).add hr
  clear hr hb HS2 c0 c1 g1
  have c0 := HS3.out.b0
  have c1 := HS3.out.b1
  have g1 := HS3.out.bg
  go_wp2_with fail
  refine (norm_eq CA CA ad_a na cap_a w3 hna.out (by omega) (HS3.out.get 1 rfl) (right_okR rA.out) rA.out KA.out (fun r => right_has rA.out r)).mono ?_
  intro e w4 hG
  obtain ⟨ad_again, cap_again, rfl, hr, hb⟩ := hG.n hna.out
  have HS4 : Hid (St w0 w0.heap.size (.slice aA nA cA) (.slice aB nB cB) [(.slice ad_again na cap_again, CA), (.slice ad_b nb cap_b, CB), (.slice ad_a na cap_a, CA), (.slice aA nA cA, LA), (.slice aB nB cB, LB)] w4) := (HS3.out.next hb).add hr
  clear hr hb HS3 c0 c1 g1
  have c0 := HS4.out.b0
  have c1 := HS4.out.b1
  have g1 := HS4.out.bg
  go_wp2_with fail
  refine (union_few CA CB ad_a ad_b na nb cap_a cap_b w4 hna.out hnb.out (HS4.out.get 2 rfl) (HS4.out.get 1 rfl) rA.out rB.out KA2.out KB2.out).mono ?_
  rintro e w5 ⟨U, hG, r_u0, l_u0, s_u0⟩
  have r_u : Hid (rightFrom 0 U = true) := r_u0
  have l_u : Hid (U.length ≤ 5000) := l_u0
  have s_u : Hid (∀ r, hasB U r = (hasB CA r || hasB CB r)) := s_u0
  obtain ⟨n_u, hn_u0⟩ : ∃ n, n = U.length := ⟨_, rfl⟩
  have hn_u : Hid (n_u = U.length) := hn_u0
  have q_u : n_u ≤ 5000 := by omega
  obtain ⟨ad_u, cap_u, rfl, hr, hb⟩ := hG.n hn_u0
  clear r_u0 l_u0 s_u0 hn_u0
  have HS5 : Hid (St w0 w0.heap.size (.slice aA nA cA) (.slice aB nB cB) [(.slice ad_u n_u cap_u, U), (.slice ad_again na cap_again, CA), (.slice ad_b nb cap_b, CB), (.slice ad_a na cap_a, CA), (.slice aA nA cA, LA), (.slice aB nB cB, LB)] w5) := (HS4.out.next hb).add hr
  clear hr hb HS4 c0 c1 g1
  have c0 := HS5.out.b0
  have c1 := HS5.out.b1
  have g1 := HS5.out.bg
  go_wp2_with fail
  refine (union_eq CB CA U ad_b ad_a nb na cap_b cap_a w5 hnb.out hna.out (HS5.out.get 2 rfl) (HS5.out.get 3 rfl) rB.out KB.out rA.out KA.out r_u.out l_u.out (fun r => by rw [s_u.out r, Bool.or_comm])).mono ?_
  intro e w6 hG
  obtain ⟨ad_v, cap_v, rfl, hr, hb⟩ := hG.n hn_u.out
  have HS6 : Hid (St w0 w0.heap.size (.slice aA nA cA) (.slice aB nB cB) [(.slice ad_v n_u cap_v, U), (.slice ad_u n_u cap_u, U), (.slice ad_again na cap_again, CA), (.slice ad_b nb cap_b, CB), (.slice ad_a na cap_a, CA), (.slice aA nA cA, LA), (.slice aB nB cB, LB)] w6) := (HS5.out.next hb).add hr
  clear hr hb HS5 c0 c1 g1
  have c0 := HS6.out.b0
  have c1 := HS6.out.b1
  have g1 := HS6.out.bg
  go_wp2_with fail
  refine (union_eq CA CA CA ad_a ad_a na na cap_a cap_a w6 hna.out hna.out (HS6.out.get 4 rfl) (HS6.out.get 4 rfl) rA.out KA.out rA.out KA.out rA.out KA.out (fun r => Bool.or_self _)).mono ?_
  intro e w7 hG
  obtain ⟨ad_own, cap_own, rfl, hr, hb⟩ := hG.n hna.out
  have HS7 : Hid (St w0 w0.heap.size (.slice aA nA cA) (.slice aB nB cB) [(.slice ad_own na cap_own, CA), (.slice ad_v n_u cap_v, U), (.slice ad_u n_u cap_u, U), (.slice ad_again na cap_again, CA), (.slice ad_b nb cap_b, CB), (.slice ad_a na cap_a, CA), (.slice aA nA cA, LA), (.slice aB nB cB, LB)] w7) := (HS6.out.next hb).add hr
  clear hr hb HS6 c0 c1 g1
  have c0 := HS7.out.b0
  have c1 := HS7.out.b1
  have g1 := HS7.out.bg
  go_wp2_with fail
  refine (neg_few CA ad_a na cap_a w7 hna.out (HS7.out.get 5 rfl) rA.out KA2.out).mono ?_
  rintro e w8 ⟨N, hG, r_n0, l_n0, s_n0⟩
  have r_n : Hid (rightFrom 0 N = true) := r_n0
  have l_n : Hid (N.length ≤ 5000) := l_n0
  have s_n : Hid (∀ r, hasB N r = (dom r && !hasB CA r)) := s_n0
  obtain ⟨n_n, hn_n0⟩ : ∃ n, n = N.length := ⟨_, rfl⟩
  have hn_n : Hid (n_n = N.length) := hn_n0
  have q_n : n_n ≤ 5000 := by omega
  obtain ⟨ad_n, cap_n, rfl, hr, hb⟩ := hG.n hn_n0
  clear r_n0 l_n0 s_n0 hn_n0
  have HS8 : Hid (St w0 w0.heap.size (.slice aA nA cA) (.slice aB nB cB) [(.slice ad_n n_n cap_n, N), (.slice ad_own na cap_own, CA), (.slice ad_v n_u cap_v, U), (.slice ad_u n_u cap_u, U), (.slice ad_again na cap_again, CA), (.slice ad_b nb cap_b, CB), (.slice ad_a na cap_a, CA), (.slice aA nA cA, LA), (.slice aB nB cB, LB)] w8) := (HS7.out.next hb).add hr
  clear hr hb HS7 c0 c1 g1
  have c0 := HS8.out.b0
  have c1 := HS8.out.b1
  have g1 := HS8.out.bg
  go_wp2_with fail
  refine (neg_eq N CA ad_n n_n cap_n w8 hn_n.out (HS8.out.get 0 rfl) r_n.out l_n.out rA.out KA.out (fun r => neg_neg rA.out s_n.out r)).mono ?_
  intro e w9 hG
  obtain ⟨ad_m, cap_m, rfl, hr, hb⟩ := hG.n hna.out
  have HS9 : Hid (St w0 w0.heap.size (.slice aA nA cA) (.slice aB nB cB) [(.slice ad_m na cap_m, CA), (.slice ad_n n_n cap_n, N), (.slice ad_own na cap_own, CA), (.slice ad_v n_u cap_v, U), (.slice ad_u n_u cap_u, U), (.slice ad_again na cap_again, CA), (.slice ad_b nb cap_b, CB), (.slice ad_a na cap_a, CA), (.slice aA nA cA, LA), (.slice aB nB cB, LB)] w9) := (HS8.out.next hb).add hr
  clear hr hb HS8 c0 c1 g1
  have c0 := HS9.out.b0
  have c1 := HS9.out.b1
  have g1 := HS9.out.bg
  go_wp2_with fail
  refine (fold_few CA ad_a na cap_a w9 hna.out (HS9.out.get 7 rfl) rA.out KA2.out).mono ?_
  rintro e w10 ⟨P, hG, r_p0, l_p0, s_p0⟩
  have r_p : Hid (rightFrom 0 P = true) := r_p0
  have l_p : Hid (P.length ≤ 5000) := l_p0
  have s_p : Hid (∀ r, hasB P r = foldB CA r) := s_p0
  obtain ⟨n_p, hn_p0⟩ : ∃ n, n = P.length := ⟨_, rfl⟩
  have hn_p : Hid (n_p = P.length) := hn_p0
  have q_p : n_p ≤ 5000 := by omega
  obtain ⟨ad_p, cap_p, rfl, hr, hb⟩ := hG.n hn_p0
  clear r_p0 l_p0 s_p0 hn_p0
  have HS10 : Hid (St w0 w0.heap.size (.slice aA nA cA) (.slice aB nB cB) [(.slice ad_p n_p cap_p, P), (.slice ad_m na cap_m, CA), (.slice ad_n n_n cap_n, N), (.slice ad_own na cap_own, CA), (.slice ad_v n_u cap_v, U), (.slice ad_u n_u cap_u, U), (.slice ad_again na cap_again, CA), (.slice ad_b nb cap_b, CB), (.slice ad_a na cap_a, CA), (.slice aA nA cA, LA), (.slice aB nB cB, LB)] w10) := (HS9.out.next hb).add hr
  clear hr hb HS9 c0 c1 g1
  have c0 := HS10.out.b0
  have c1 := HS10.out.b1
  have g1 := HS10.out.bg
  go_wp2_with fail
  refine (fold_eq P P ad_p n_p cap_p w10 hn_p.out (HS10.out.get 0 rfl) r_p.out l_p.out r_p.out l_p.out (fun r => fold_fold s_p.out rA.out r)).mono ?_
  intro e w11 hG
  obtain ⟨ad_r, cap_r, rfl, hr, hb⟩ := hG.n hn_p.out
  have HS11 : Hid (St w0 w0.heap.size (.slice aA nA cA) (.slice aB nB cB) [(.slice ad_r n_p cap_r, P), (.slice ad_p n_p cap_p, P), (.slice ad_m na cap_m, CA), (.slice ad_n n_n cap_n, N), (.slice ad_own na cap_own, CA), (.slice ad_v n_u cap_v, U), (.slice ad_u n_u cap_u, U), (.slice ad_again na cap_again, CA), (.slice ad_b nb cap_b, CB), (.slice ad_a na cap_a, CA), (.slice aA nA cA, LA), (.slice aB nB cB, LB)] w11) := (HS10.out.next hb).add hr
  clear hr hb HS10 c0 c1 g1
  have c0 := HS11.out.b0
  have c1 := HS11.out.b1
  have g1 := HS11.out.bg
  go_wp2_with fail
  refine (union_eq CA N wholeL ad_a ad_n na n_n cap_a cap_n w11 hna.out hn_n.out (HS11.out.get 9 rfl) (HS11.out.get 3 rfl) rA.out KA.out r_n.out l_n.out whole_right (by decide) (fun r => or_neg rA.out s_n.out r)).mono ?_
  intro e w12 hG
  obtain ⟨ad_all, cap_all, rfl, hr, hb⟩ := hG.n (n := 2) rfl
  have HS12 : Hid (St w0 w0.heap.size (.slice aA nA cA) (.slice aB nB cB) [(.slice ad_all 2 cap_all, wholeL), (.slice ad_r n_p cap_r, P), (.slice ad_p n_p cap_p, P), (.slice ad_m na cap_m, CA), (.slice ad_n n_n cap_n, N), (.slice ad_own na cap_own, CA), (.slice ad_v n_u cap_v, U), (.slice ad_u n_u cap_u, U), (.slice ad_again na cap_again, CA), (.slice ad_b nb cap_b, CB), (.slice ad_a na cap_a, CA), (.slice aA nA cA, LA), (.slice aB nB cB, LB)] w12) := (HS11.out.next hb).add hr
  clear hr hb HS11 c0 c1 g1
  have c0 := HS12.out.b0
  have c1 := HS12.out.b1
  have g1 := HS12.out.bg
  go_wp2_with fail
  refine (neg_eq [] wholeL none 0 0 w12 rfl ⟨none, 0, rfl, .inl rfl⟩ rfl (by simp) whole_right (by decide) (fun r => by rw [whole_has, hasB_nil]; simp)).mono ?_
  intro e w13 hG
  obtain ⟨ad_whole, cap_whole, rfl, hr, hb⟩ := hG.n (n := 2) rfl
  have HS13 : Hid (St w0 w0.heap.size (.slice aA nA cA) (.slice aB nB cB) [(.slice ad_whole 2 cap_whole, wholeL), (.slice ad_all 2 cap_all, wholeL), (.slice ad_r n_p cap_r, P), (.slice ad_p n_p cap_p, P), (.slice ad_m na cap_m, CA), (.slice ad_n n_n cap_n, N), (.slice ad_own na cap_own, CA), (.slice ad_v n_u cap_v, U), (.slice ad_u n_u cap_u, U), (.slice ad_again na cap_again, CA), (.slice ad_b nb cap_b, CB), (.slice ad_a na cap_a, CA), (.slice aA nA cA, LA), (.slice aB nB cB, LB)] w13) := (HS12.out.next hb).add hr
  clear hr hb HS12 c0 c1 g1
  have c0 := HS13.out.b0
  have c1 := HS13.out.b1
  have g1 := HS13.out.bg
  go_wp2_with fail
  refine (right_true CA ad_a na cap_a w13 hna.out rA.out KA.out (HS13.out.get 11 rfl)).mono ?_
  rintro e w14 ⟨rfl, hb⟩
  have HS14 : Hid (St w0 w0.heap.size (.slice aA nA cA) (.slice aB nB cB) [(.slice ad_whole 2 cap_whole, wholeL), (.slice ad_all 2 cap_all, wholeL), (.slice ad_r n_p cap_r, P), (.slice ad_p n_p cap_p, P), (.slice ad_m na cap_m, CA), (.slice ad_n n_n cap_n, N), (.slice ad_own na cap_own, CA), (.slice ad_v n_u cap_v, U), (.slice ad_u n_u cap_u, U), (.slice ad_again na cap_again, CA), (.slice ad_b nb cap_b, CB), (.slice ad_a na cap_a, CA), (.slice aA nA cA, LA), (.slice aB nB cB, LB)] w14) := HS13.out.next hb
  clear hb HS13 c0 c1 g1
  have c0 := HS14.out.b0
  have c1 := HS14.out.b1
  have g1 := HS14.out.bg
  go_wp2_with fail
  refine (right_true U ad_u n_u cap_u w14 hn_u.out r_u.out l_u.out (HS14.out.get 8 rfl)).mono ?_
  rintro e w15 ⟨rfl, hb⟩
  have HS15 : Hid (St w0 w0.heap.size (.slice aA nA cA) (.slice aB nB cB) [(.slice ad_whole 2 cap_whole, wholeL), (.slice ad_all 2 cap_all, wholeL), (.slice ad_r n_p cap_r, P), (.slice ad_p n_p cap_p, P), (.slice ad_m na cap_m, CA), (.slice ad_n n_n cap_n, N), (.slice ad_own na cap_own, CA), (.slice ad_v n_u cap_v, U), (.slice ad_u n_u cap_u, U), (.slice ad_again na cap_again, CA), (.slice ad_b nb cap_b, CB), (.slice ad_a na cap_a, CA), (.slice aA nA cA, LA), (.slice aB nB cB, LB)] w15) := HS14.out.next hb
  clear hb HS14 c0 c1 g1
  have c0 := HS15.out.b0
  have c1 := HS15.out.b1
  have g1 := HS15.out.bg
  go_wp2_with fail
  refine (right_true N ad_n n_n cap_n w15 hn_n.out r_n.out l_n.out (HS15.out.get 5 rfl)).mono ?_
  rintro e w16 ⟨rfl, hb⟩
  have HS16 : Hid (St w0 w0.heap.size (.slice aA nA cA) (.slice aB nB cB) [(.slice ad_whole 2 cap_whole, wholeL), (.slice ad_all 2 cap_all, wholeL), (.slice ad_r n_p cap_r, P), (.slice ad_p n_p cap_p, P), (.slice ad_m na cap_m, CA), (.slice ad_n n_n cap_n, N), (.slice ad_own na cap_own, CA), (.slice ad_v n_u cap_v, U), (.slice ad_u n_u cap_u, U), (.slice ad_again na cap_again, CA), (.slice ad_b nb cap_b, CB), (.slice ad_a na cap_a, CA), (.slice aA nA cA, LA), (.slice aB nB cB, LB)] w16) := HS15.out.next hb
  clear hb HS15 c0 c1 g1
  have c0 := HS16.out.b0
  have c1 := HS16.out.b1
  have g1 := HS16.out.bg
  go_wp2_with fail
  refine (right_true P ad_p n_p cap_p w16 hn_p.out r_p.out l_p.out (HS16.out.get 3 rfl)).mono ?_
  rintro e w17 ⟨rfl, hb⟩
  have HS17 : Hid (St w0 w0.heap.size (.slice aA nA cA) (.slice aB nB cB) [(.slice ad_whole 2 cap_whole, wholeL), (.slice ad_all 2 cap_all, wholeL), (.slice ad_r n_p cap_r, P), (.slice ad_p n_p cap_p, P), (.slice ad_m na cap_m, CA), (.slice ad_n n_n cap_n, N), (.slice ad_own na cap_own, CA), (.slice ad_v n_u cap_v, U), (.slice ad_u n_u cap_u, U), (.slice ad_again na cap_again, CA), (.slice ad_b nb cap_b, CB), (.slice ad_a na cap_a, CA), (.slice aA nA cA, LA), (.slice aB nB cB, LB)] w17) := HS16.out.next hb
  clear hb HS16 c0 c1 g1
  have c0 := HS17.out.b0
  have c1 := HS17.out.b1
  have g1 := HS17.out.bg
  go_wp2_with fail
  refine (same16 CA ad_again ad_a na cap_again cap_a w17 hna.out (by omega) (HS17.out.get 9 rfl) (HS17.out.get 11 rfl)).mono ?_
  rintro e w18' ⟨rfl, q18, rfl⟩
  have HS18' := HS17.out.drewN q18
  generalize w17.drewN q18 = w18 at HS18' ⊢
  have HS18 : Hid (St w0 w0.heap.size (.slice aA nA cA) (.slice aB nB cB) [(.slice ad_whole 2 cap_whole, wholeL), (.slice ad_all 2 cap_all, wholeL), (.slice ad_r n_p cap_r, P), (.slice ad_p n_p cap_p, P), (.slice ad_m na cap_m, CA), (.slice ad_n n_n cap_n, N), (.slice ad_own na cap_own, CA), (.slice ad_v n_u cap_v, U), (.slice ad_u n_u cap_u, U), (.slice ad_again na cap_again, CA), (.slice ad_b nb cap_b, CB), (.slice ad_a na cap_a, CA), (.slice aA nA cA, LA), (.slice aB nB cB, LB)] w18) := HS18'
  clear HS18' HS17 c0 c1 g1
  have c0 := HS18.out.b0
  have c1 := HS18.out.b1
  have g1 := HS18.out.bg
  go_wp2_with fail
  refine (same16 U ad_u ad_v n_u cap_u cap_v w18 hn_u.out (by omega) (HS18.out.get 8 rfl) (HS18.out.get 7 rfl)).mono ?_
  rintro e w19' ⟨rfl, q19, rfl⟩
  have HS19' := HS18.out.drewN q19
  generalize w18.drewN q19 = w19 at HS19' ⊢
  have HS19 : Hid (St w0 w0.heap.size (.slice aA nA cA) (.slice aB nB cB) [(.slice ad_whole 2 cap_whole, wholeL), (.slice ad_all 2 cap_all, wholeL), (.slice ad_r n_p cap_r, P), (.slice ad_p n_p cap_p, P), (.slice ad_m na cap_m, CA), (.slice ad_n n_n cap_n, N), (.slice ad_own na cap_own, CA), (.slice ad_v n_u cap_v, U), (.slice ad_u n_u cap_u, U), (.slice ad_again na cap_again, CA), (.slice ad_b nb cap_b, CB), (.slice ad_a na cap_a, CA), (.slice aA nA cA, LA), (.slice aB nB cB, LB)] w19) := HS19'
  clear HS19' HS18 c0 c1 g1
  have c0 := HS19.out.b0
  have c1 := HS19.out.b1
  have g1 := HS19.out.bg
  go_wp2_with fail
  refine (same16 CA ad_own ad_a na cap_own cap_a w19 hna.out (by omega) (HS19.out.get 6 rfl) (HS19.out.get 11 rfl)).mono ?_
  rintro e w20' ⟨rfl, q20, rfl⟩
  have HS20' := HS19.out.drewN q20
  generalize w19.drewN q20 = w20 at HS20' ⊢
  have HS20 : Hid (St w0 w0.heap.size (.slice aA nA cA) (.slice aB nB cB) [(.slice ad_whole 2 cap_whole, wholeL), (.slice ad_all 2 cap_all, wholeL), (.slice ad_r n_p cap_r, P), (.slice ad_p n_p cap_p, P), (.slice ad_m na cap_m, CA), (.slice ad_n n_n cap_n, N), (.slice ad_own na cap_own, CA), (.slice ad_v n_u cap_v, U), (.slice ad_u n_u cap_u, U), (.slice ad_again na cap_again, CA), (.slice ad_b nb cap_b, CB), (.slice ad_a na cap_a, CA), (.slice aA nA cA, LA), (.slice aB nB cB, LB)] w20) := HS20'
  clear HS20' HS19 c0 c1 g1
  have c0 := HS20.out.b0
  have c1 := HS20.out.b1
  have g1 := HS20.out.bg
  go_wp2_with fail
  refine (same16 CA ad_m ad_a na cap_m cap_a w20 hna.out (by omega) (HS20.out.get 4 rfl) (HS20.out.get 11 rfl)).mono ?_
  rintro e w21' ⟨rfl, q21, rfl⟩
  have HS21' := HS20.out.drewN q21
  generalize w20.drewN q21 = w21 at HS21' ⊢
  have HS21 : Hid (St w0 w0.heap.size (.slice aA nA cA) (.slice aB nB cB) [(.slice ad_whole 2 cap_whole, wholeL), (.slice ad_all 2 cap_all, wholeL), (.slice ad_r n_p cap_r, P), (.slice ad_p n_p cap_p, P), (.slice ad_m na cap_m, CA), (.slice ad_n n_n cap_n, N), (.slice ad_own na cap_own, CA), (.slice ad_v n_u cap_v, U), (.slice ad_u n_u cap_u, U), (.slice ad_again na cap_again, CA), (.slice ad_b nb cap_b, CB), (.slice ad_a na cap_a, CA), (.slice aA nA cA, LA), (.slice aB nB cB, LB)] w21) := HS21'
  clear HS21' HS20 c0 c1 g1
  have c0 := HS21.out.b0
  have c1 := HS21.out.b1
  have g1 := HS21.out.bg
  go_wp2_with fail
  refine (same16 P ad_r ad_p n_p cap_r cap_p w21 hn_p.out (by omega) (HS21.out.get 2 rfl) (HS21.out.get 3 rfl)).mono ?_
  rintro e w22' ⟨rfl, q22, rfl⟩
  have HS22' := HS21.out.drewN q22
  generalize w21.drewN q22 = w22 at HS22' ⊢
  have HS22 : Hid (St w0 w0.heap.size (.slice aA nA cA) (.slice aB nB cB) [(.slice ad_whole 2 cap_whole, wholeL), (.slice ad_all 2 cap_all, wholeL), (.slice ad_r n_p cap_r, P), (.slice ad_p n_p cap_p, P), (.slice ad_m na cap_m, CA), (.slice ad_n n_n cap_n, N), (.slice ad_own na cap_own, CA), (.slice ad_v n_u cap_v, U), (.slice ad_u n_u cap_u, U), (.slice ad_again na cap_again, CA), (.slice ad_b nb cap_b, CB), (.slice ad_a na cap_a, CA), (.slice aA nA cA, LA), (.slice aB nB cB, LB)] w22) := HS22'
  clear HS22' HS21 c0 c1 g1
  have c0 := HS22.out.b0
  have c1 := HS22.out.b1
  have g1 := HS22.out.bg
  go_wp2_with fail
  refine (same16 wholeL ad_all ad_whole 2 cap_all cap_whole w22 rfl (by omega) (HS22.out.get 1 rfl) (HS22.out.get 0 rfl)).mono ?_
  rintro e w23' ⟨rfl, q23, rfl⟩
  have HS23' := HS22.out.drewN q23
  generalize w22.drewN q23 = w23 at HS23' ⊢
  have HS23 : Hid (St w0 w0.heap.size (.slice aA nA cA) (.slice aB nB cB) [(.slice ad_whole 2 cap_whole, wholeL), (.slice ad_all 2 cap_all, wholeL), (.slice ad_r n_p cap_r, P), (.slice ad_p n_p cap_p, P), (.slice ad_m na cap_m, CA), (.slice ad_n n_n cap_n, N), (.slice ad_own na cap_own, CA), (.slice ad_v n_u cap_v, U), (.slice ad_u n_u cap_u, U), (.slice ad_again na cap_again, CA), (.slice ad_b nb cap_b, CB), (.slice ad_a na cap_a, CA), (.slice aA nA cA, LA), (.slice aB nB cB, LB)] w23) := HS23'
  clear HS23' HS22 c0 c1 g1
  have c0 := HS23.out.b0
  have c1 := HS23.out.b1
  have g1 := HS23.out.bg
  have HLB : Hid (RowAt w23.heap.size w23 (.slice aB nB cB) LB) := HS23.out.get 13 rfl
  have HLA : Hid (RowAt w23.heap.size w23 (.slice aA nA cA) LA) := HS23.out.get 12 rfl
  have HLU : Hid (RowAt w23.heap.size w23 (.slice ad_u n_u cap_u) U) := HS23.out.get 8 rfl
  have HBE : Hid (Below w0.heap.size w0 w23) := HS23.out.bel
  have HB0 : Hid (Below w23.heap.size w23 (w23.alloc (.cells #[] 44)).drew) := ((Below.refl _ _).alloc (Nat.le_refl _) _).drew
  have HO0 : Hid ((w23.alloc (.cells #[] 44)).drew.ownsRow w23.heap.size 44 2 (.slice (some ⟨w23.heap.size, 0, none⟩) 0 0) 0 (fl [])) := (World.ownsRow_lit (base := w23.heap.size) w23 #[] 0 (Nat.le_refl _) (by unfold maxLen; omega) rfl).drew
  have HLL : Hid (nB + nA = (LB ++ LA).length) := by show _ = _; rw [List.length_append, ← hnA.out, ← hnB.out]
  have HOK : Hid ((LB ++ LA).all okR = true) := by show _ = _; rw [List.all_append, okA.out, okB.out]; rfl
  have HJR : Hid (∀ r, (dom r && hasB (LB ++ LA) r) = hasB U r) := by
    intro r
    rw [s_u.out r, sA.out r, sB.out r, hasB_append]
    cases dom r <;> cases hasB LB r <;> cases hasB LA r <;> rfl
  clear HS23
  go_wp2_with fail
  go_region_law (first
    | (refine step_append_row rfl (.tmp 201) (.tmp 203) rfl w23.heap.size (.slice (some ⟨w23.heap.size, 0, none⟩) 0 0) 0 [] (by simp [Act.eval, Act.put]) HO0.out aB nB cB _ LB (by simp [Act.eval, Act.put]) (HLB.out.below HB0.out (Nat.le_refl _) HB0.out.size) zB.out hnB.out (by omega) HB0.out.size w23 HB0.out ?_; intro v1 x1 ho1 hx1; have k0 : x1.cell? ⟨w0.heap.size, 0, none⟩ = some (.slice aA nA cA) := (hx1.cell (p := ⟨w0.heap.size, 0, none⟩) g1).trans c0)
    | (refine step_append_row rfl (.tmp 204) (.tmp 206) rfl w23.heap.size v1 (0 + nB) ([] ++ LB) (by simp [Act.eval, Act.put]) ho1.out aA nA cA _ LA (by simp [Act.eval, Act.put]) (HLA.out.below hx1 (Nat.le_refl _) hx1.size) zA.out hnA.out (by omega) hx1.size w23 hx1 ?_; intro v2 x2 ho2 hx2; obtain ⟨adj, capj, hvj, hrj⟩ := row_form2 HLL.out ho2; subst hvj)
    | (refine step_call rfl 6 (.tmp 207) 22 rfl enters6 (Calls.mono (norm_eq (LB ++ LA) U adj (nB + nA) capj x2 HLL.out (by omega) hrj.out HOK.out r_u.out l_u.out HJR.out) (fun e x3 hG => ?_)); obtain ⟨adk, capk, hek, hrk, hbk⟩ := hG.n hn_u.out; subst hek; refine ⟨_, rfl, ?_⟩))
  all_goals
    have HU3 : Hid (RowAt x3.heap.size x3 (.slice ad_u n_u cap_u) U) := (HLU.out.next hx2).next hbk
    have HK3 : Hid (RowAt x3.heap.size x3 (.slice adk n_u capk) U) := hrk
    have HB3 : Hid (Below w0.heap.size w0 x3) := (HBE.out.trans (hx2.mono HBE.out.size)).trans (hbk.mono (Nat.le_trans HBE.out.size hx2.size))
    clear hrk hbk hx1 hx2 ho1 ho2 k0 hrj HLU HLA HLB HBE HB0 HO0 c0 c1 g1
    go_wp2_with fail
    refine (same16 U adk ad_u n_u capk cap_u x3 hn_u.out (by omega) HK3.out HU3.out).mono ?_
    rintro e x4 ⟨rfl, q4, rfl⟩
    have HB4 : Hid (Below w0.heap.size w0 (x3.drewN q4)) := below_drewN HB3.out q4
    clear HB3 HU3 HK3
    go_wp2
    go_ret
    exact ⟨rfl, HB4.out⟩
end Go.Proofs.YtjglehklfdhgaabDoor
