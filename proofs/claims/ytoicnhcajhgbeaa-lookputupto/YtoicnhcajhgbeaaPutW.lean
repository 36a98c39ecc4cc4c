/- HELPERS: the walk of LookPut. -/
import Derived.Test.YtoicnhcajhgbeaaPutL
namespace Go.Proofs.Ytoicnhcajhgbeaa
open Go.RowKit Go.Lk
set_option linter.unusedVariables false
set_option linter.unusedSimpArgs false
set_option maxHeartbeats 2000000 in
theorem put_out (ad ao : Option Addr) (n cap no co : Nat) (p : Int) (w0 : World) (h : p < 0 ∨ (n : Int) < p ∨ no = 0) :
    Calls Try.prog 7 #[.slice ad n cap, .slice ao no co, .int .i64 p] w0 fun e w' => e = .returned (.bool true) ∧ Below w0.heap.size w0 w' := by
  have haw := awake8 w0
  by_cases h1 : p < 0
  · go_enter Try.func7, Try.ntmps7
    go_wp2_with (go_at_call 8; refine haw.mono ?_; rintro e w ⟨rfl, hb0⟩)
    go_ret
    exact ⟨rfl, hb0⟩
  · by_cases h2 : (n : Int) < p
    · go_enter Try.func7, Try.ntmps7
      go_wp2_with (go_at_call 8; refine haw.mono ?_; rintro e w ⟨rfl, hb0⟩)
      go_ret
      exact ⟨rfl, hb0⟩
    · obtain rfl : no = 0 := by omega
      clear h
      go_enter Try.func7, Try.ntmps7
      go_wp2_with (go_at_call 8; refine haw.mono ?_; rintro e w ⟨rfl, hb0⟩)
      go_ret
      exact ⟨rfl, hb0⟩
set_option maxHeartbeats 2000000 in
set_option maxRecDepth 1000000 in
theorem put_in (l m : List Int) (ad ao : Option Addr) (n cap no co p : Nat) (w0 : World) (hT : Hid (TextAt w0.heap.size w0 ad n l)) (hO : Hid (TextAt w0.heap.size w0 ao no m)) (hn1 : Hid (ad = none → cap = 0)) (hn2 : Hid (ao = none → co = 0))
    (hm1 : n ≤ 1048576) (hm2 : no ≤ 1048576) (hp : p ≤ n) (h0 : 0 < no) :
    Calls Try.prog 7 #[.slice ad n cap, .slice ao no co, .int .i64 p] w0 fun e w' => e = .returned (.bool true) ∧ Below w0.heap.size w0 w' := by
  have HN : Hid (n = l.length) := hT.out.1
  have HO : Hid (no = m.length) := hO.out.1
  have haw := awake8 w0
  have g1 : ¬ (p : Int) < 0 := by omega
  have g2 : ¬ (n : Int) < (p : Int) := by omega
  have g3 : ((no : Int) == 0) = false := by simp; omega
  go_enter Try.func7, Try.ntmps7
  go_wp2_with fail
  refine haw.mono ?_
  rintro e w ⟨rfl, hb0⟩
  have hs0 := hb0.size
  have HT : Hid (TextAt w.heap.size w ad n l) := (hT.out.below hb0).mono hs0
  have HM : Hid (TextAt w.heap.size w ao no m) := (hO.out.below hb0).mono hs0
  clear hT hO haw
  go_wp2_with (refine wpList_append_text rfl (.tmp 28) (.tmp 29) rfl w.heap.size _ 0 [] rfl (World.ownsRow_nil _ _ _ _) ad n cap w.heap.size l rfl HT.out hn1.out (by omega) (Nat.le_refl _) w (Below.refl _ _) ?_)
  intro v1 w1 ho1 hB1
  have hs1 := hB1.size
  have HO1 : Hid (w1.ownsRow w.heap.size 3 1 v1 n (I64 l)) := ho1.out
  clear ho1
  go_wp2_with (refine wpList_append_text rfl (.tmp 31) (.tmp 32) rfl w.heap.size v1 n l rfl HO1.out ao no co w.heap.size m rfl (HM.out.below hB1) hn2.out (by omega) hs1 w hB1 ?_)
  intro v2 w2 ho2 hB2
  have hs2 := hB2.size
  have HT2 : Hid (TextAt w2.heap.size w2 ad n l) := (HT.out.below hB2).mono hs2
  have HM2 : Hid (TextAt w2.heap.size w2 ao no m) := (HM.out.below hB2).mono hs2
  have hlen2 : Hid (n + no = (l ++ m).length) := by show _ = _; rw [List.length_append, ← HN.out, ← HO.out]
  have ho2' : w2.ownsRow w.heap.size 3 1 v2 (n + no) (I64 (l ++ m)) := by rw [show I64 (l ++ m) = I64 l ++ I64 m from List.map_append]; exact ho2.out
  obtain ⟨ad2, cap2, rfl, hX2⟩ := text_own hlen2.out (by omega) ho2'
  have HX2 : Hid (TextAt w2.heap.size w2 ad2 (n + no) (l ++ m)) := hX2
  have hB : Below w0.heap.size w0 w2 := hb0.trans (hB2.mono hs0)
  clear HO1 hB1 ho2 ho2' hX2 hB2 hb0 HT HM
  go_wp2_with (refine wpList_append_text rfl (.tmp 34) (.tmp 35) rfl w2.heap.size _ 0 [] rfl (World.ownsRow_nil _ _ _ _) ao no co w2.heap.size m rfl HM2.out hn2.out (by omega) (Nat.le_refl _) w2 (Below.refl _ _) ?_)
  intro v3 w3 ho3 hB3
  have hs3 := hB3.size
  have HO3 : Hid (w3.ownsRow w2.heap.size 3 1 v3 no (I64 m)) := ho3.out
  clear ho3
  go_wp2_with (refine wpList_append_text rfl (.tmp 37) (.tmp 38) rfl w2.heap.size v3 no m rfl HO3.out ad n cap w2.heap.size l rfl (HT2.out.below hB3) hn1.out (by omega) hs3 w2 hB3 ?_)
  intro v4 w4 ho4 hB4
  have hs4 := hB4.size
  have HT4 : Hid (TextAt w4.heap.size w4 ad n l) := (HT2.out.below hB4).mono hs4
  have HX4 : Hid (TextAt w4.heap.size w4 ad2 (n + no) (l ++ m)) := (HX2.out.below hB4).mono hs4
  have hlen4 : Hid (no + n = (m ++ l).length) := by show _ = _; rw [List.length_append, ← HN.out, ← HO.out]
  have ho4' : w4.ownsRow w2.heap.size 3 1 v4 (no + n) (I64 (m ++ l)) := by rw [show I64 (m ++ l) = I64 m ++ I64 l from List.map_append]; exact ho4.out
  obtain ⟨ad4, cap4, rfl, hX4⟩ := text_own hlen4.out (by omega) ho4'
  have HY4 : Hid (TextAt w4.heap.size w4 ad4 (no + n) (m ++ l)) := hX4
  have hBx : Below w0.heap.size w0 w4 := hB.trans (hB4.mono hB.size)
  clear HO3 hB3 ho4 ho4' hX4 hB4 hB HT2 HM2 HX2 hn1 hn2
  have HA1 : Hid (p = n ∨ atP l p = atP (l ++ m) p) := by
    show _ ∨ _
    by_cases h : p = n
    · exact .inl h
    · exact .inr (at_behind l m p (by rw [← HN.out]; omega))
  have HA2 : Hid (p = 0 ∨ atP l p = atP (m ++ l) (p + no)) := by
    show _ ∨ _
    by_cases h : p = 0
    · exact .inl h
    · right
      have := at_ahead l m p (by omega) (by rw [← HN.out]; omega)
      rw [← HO.out] at this
      exact this
  have c1 := fun w' (hT : TextAt w'.heap.size w' ad n l) => at10 l ad n cap p w' hT
  have c2 := fun w' (hT : TextAt w'.heap.size w' ad2 (n + no) (l ++ m)) => at10 (l ++ m) ad2 (n + no) cap2 p w' hT
  have c3 := fun w' (hT : TextAt w'.heap.size w' ad4 (no + n) (m ++ l)) => at10 (m ++ l) ad4 (no + n) cap4 ((p + no : Nat) : Int) w' hT
  rw [atN_of l p (by rw [← HN.out]; omega)] at c1
  rw [atN_of (l ++ m) p (by rw [← hlen2.out]; omega)] at c2
  rw [atN_of (m ++ l) (p + no) (by rw [← hlen4.out]; omega)] at c3
  generalize atP l p = A at c1 HA1 HA2
  generalize atP (l ++ m) p = B at c2 HA1
  generalize atP (m ++ l) (p + no) = C at c3 HA2
  rw [show ((p + no : Nat) : Int) = (p : Int) + (no : Int) by omega] at c3
  go_wp2_with fail
  refine (c1 _ HT4.out).mono ?_
  rintro e w5 ⟨rfl, hb5⟩
  have hB5 := hBx.trans (hb5.mono hBx.size)
  have HX5 : Hid (TextAt w5.heap.size w5 ad2 (n + no) (l ++ m)) := (HX4.out.below hb5).mono hb5.size
  have HY5 : Hid (TextAt w5.heap.size w5 ad4 (no + n) (m ++ l)) := (HY4.out.below hb5).mono hb5.size
  clear hb5 hBx HX4 HY4 HT4
  go_wp2_with fail
  refine (c2 _ HX5.out).mono ?_
  rintro e w6 ⟨rfl, hb6⟩
  have hB6 := hB5.trans (hb6.mono hB5.size)
  have HY6 : Hid (TextAt w6.heap.size w6 ad4 (no + n) (m ++ l)) := (HY5.out.below hb6).mono hb6.size
  clear hb6 hB5 HX5 HY5
  go_wp2_with fail
  refine (c3 _ HY6.out).mono ?_
  rintro e w7 ⟨rfl, hb7⟩
  have hB7 := hB6.trans (hb7.mono hB6.size)
  clear hb7 hB6 HY6 c1 c2 c3
  have hR : Hid ((((p : Int) == (n : Int)) || (A == B)) = true) := by
    show _ = true
    rcases HA1.out with h | h
    · simp [h]
    · simp [h]
  have hR2 : Hid ((((p : Int) == 0) || (A == C)) = true) := by
    show _ = true
    rcases HA2.out with h | h
    · simp [h]
    · simp [h]
  cases e1 : ((p : Int) == (n : Int))
  · have e2 : (A == B) = true := by have := hR.out; rw [e1] at this; simpa using this
    cases e3 : ((p : Int) == 0)
    · have e4 : (A == C) = true := by have := hR2.out; rw [e3] at this; simpa using this
      clear hR hR2 HA1 HA2
      go_wp2
      go_ret
      exact ⟨rfl, hB7⟩
    · clear hR hR2 HA1 HA2
      go_wp2
      go_ret
      exact ⟨rfl, hB7⟩
  · cases e3 : ((p : Int) == 0)
    · have e4 : (A == C) = true := by have := hR2.out; rw [e3] at this; simpa using this
      clear hR hR2 HA1 HA2
      go_wp2
      go_ret
      exact ⟨rfl, hB7⟩
    · clear hR hR2 HA1 HA2
      go_wp2
      go_ret
      exact ⟨rfl, hB7⟩
end Go.Proofs.Ytoicnhcajhgbeaa
