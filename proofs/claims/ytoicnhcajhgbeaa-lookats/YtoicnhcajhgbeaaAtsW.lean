/- HELPERS: the walk of LookAts. -/
import Derived.Test.YtoicnhcajhgbeaaLent
import Derived.Test.YtoicnhcajhgbeaaRef
namespace Go.Proofs.Ytoicnhcajhgbeaa
open Go.RowKit Go.Lk
set_option linter.unusedVariables false
set_option linter.unusedSimpArgs false
theorem split_two (l' : List Int) (n : Nat) (h : l'.length = n + 2) : ∃ a r, l' = a ++ r ∧ a.length = n := ⟨l'.take n, l'.drop n, (List.take_append_drop n l').symm, by simp; omega⟩
set_option maxHeartbeats 2000000 in
set_option maxRecDepth 1000000 in
theorem ats3 (l m : List Int) (ad ao : Option Addr) (n cap no co : Nat) (p : Int) (w0 : World) (hT : Hid (TextAt w0.heap.size w0 ad n l)) (hO : Hid (TextAt w0.heap.size w0 ao no m)) (hm : n ≤ 17592186044416) :
    Calls Try.prog 3 #[.slice ad n cap, .int .i64 p, .slice ao no co] w0 fun e w' => e = .returned (.bool true) ∧ Below w0.heap.size w0 w' := by
  have HN : Hid (n = l.length) := hT.out.1
  go_enter Try.func3, Try.ntmps3
  go_wp2_with fail
  refine (awake8 w0).mono ?_
  rintro e w ⟨rfl, hb0⟩
  have hs0 := hb0.size
  have HT : Hid (TextAt w.heap.size w ad n l) := (hT.out.below hb0).mono hs0
  have HO : Hid (TextAt w.heap.size w ao no m) := (hO.out.below hb0).mono hs0
  clear hT hO
  go_wp2_with fail
  refine (lent9 l ad n cap w HT.out hm).mono ?_
  rintro e w1 ⟨rfl, hR1, hb1⟩
  have hs1 := hb1.size
  have hg1 := hR1.lt
  have HR1 : Hid (RowG w1 w.heap.size (l ++ [-71, -72])) := hR1
  clear hR1
  go_wp2_with fail
  refine (at10 l (some ⟨w.heap.size, 0, none⟩) n (n + 2) p w1 (HR1.out.text HN.out (by omega))).mono ?_
  rintro e w2 ⟨rfl, hb2⟩
  have hB2 := hb1.trans (hb2.mono hs1)
  have HR2 : Hid (RowG w2 w.heap.size (l ++ [-71, -72])) := HR1.out.below hb2 hg1
  have hs2 := hb2.size
  clear hb2 hb1 HR1
  go_wp2_with fail
  refine (at10 m ao no co p w2 ((HO.out.below hB2).mono hB2.size)).mono ?_
  rintro e w3 ⟨rfl, hb3⟩
  have hB3 := hB2.trans (hb3.mono hB2.size)
  have HR3 : Hid (RowG w3 w.heap.size (l ++ [-71, -72])) := HR2.out.below hb3 (by omega)
  have hs3 := hb3.size
  clear hb3 hB2 HR2
  go_wp2_with fail
  refine (at10 l (some ⟨w.heap.size, 0, none⟩) n (n + 2) p w3 (HR3.out.text HN.out (by omega))).mono ?_
  rintro e w4 ⟨rfl, hb4⟩
  have hB4 := hB3.trans (hb4.mono hB3.size)
  have HR4 : Hid (RowG w4 w.heap.size (l ++ [-71, -72])) := HR3.out.below hb4 (by omega)
  have hs4 := hb4.size
  clear hb4 hB3 HR3
  go_wp2_with fail
  refine (kept11 l ad n cap w.heap.size w4 w.heap.size (HT.out.below hB4) HR4.out hm).mono ?_
  rintro e w5 ⟨rfl, q5, rfl⟩
  have hB5 : Below w.heap.size w (w4.drewN q5) := below_drewN hB4 q5
  have HR5 : Hid (RowG (w4.drewN q5) w.heap.size (l ++ [-71, -72])) := HR4.out
  have hs5 : (w4.drewN q5).heap.size = w4.heap.size := rfl
  generalize w4.drewN q5 = w5 at hB5 HR5 hs5 ⊢
  clear hB4 HR4
  go_wp2_with fail
  refine (ref12 l ad n cap p w5 _ (HT.out.below hB5)).mono ?_
  rintro e w' ⟨rfl, rfl⟩
  go_wp2_with fail
  refine (ref12 m ao no co p _ _ (HO.out.below hB5)).mono ?_
  rintro e w5 ⟨rfl, rfl⟩
  generalize atN l p = A
  generalize atN m p = M
  clear HO HT
  have hB : Below w0.heap.size w0 w5 := hb0.trans (hB5.mono hs0)
  clear hB5 hb0
  go_wp2
  go_loopw [15] (fun i wr => ∃ (k : Nat) (l' : List Int), k ≤ n ∧ i = .int .i64 k ∧ l'.length = n + 2 ∧ Hid (RowG wr w.heap.size l') ∧ Below w0.heap.size w0 wr) (fun i _ => n - (intOf i).toNat)
  case atStart => exact ⟨0, l ++ [-71, -72], by omega, rfl, by rw [List.length_append, ← HN.out]; rfl, HR5, hB⟩
  case round =>
    obtain ⟨k, l', hk, rfl, hl', HR, hBr⟩ := hrel
    have HL : Hid (l'.length = n + 2) := hl'
    clear hl' HR5 hB
    by_cases hlt : k < n
    · have d0 := HR.out.cell k (by rw [HL.out]; omega)
      have f0 := HR.out.frozen k
      have s1 := HR.out.set k 95
      have s2 := HR.out.set k 10
      have b1 : Below w0.heap.size w0 (wr.setCell ⟨w.heap.size, k, none⟩ (.int .i64 95)) := hBr.setCell (by show w0.heap.size ≤ w.heap.size; omega) _
      have b2 : Below w0.heap.size w0 (wr.setCell ⟨w.heap.size, k, none⟩ (.int .i64 10)) := hBr.setCell (by show w0.heap.size ≤ w.heap.size; omega) _
      have L1 : Hid ((l'.set k 95).length = n + 2) := by show _ = _; rw [List.length_set]; exact HL.out
      have L2 : Hid ((l'.set k 10).length = n + 2) := by show _ = _; rw [List.length_set]; exact HL.out
      have S1 : Hid (RowG (wr.setCell ⟨w.heap.size, k, none⟩ (.int .i64 95)) w.heap.size (l'.set k 95)) := s1
      have S2 : Hid (RowG (wr.setCell ⟨w.heap.size, k, none⟩ (.int .i64 10)) w.heap.size (l'.set k 10)) := s2
      have B1 : Hid (Below w0.heap.size w0 (wr.setCell ⟨w.heap.size, k, none⟩ (.int .i64 95))) := b1
      have B2 : Hid (Below w0.heap.size w0 (wr.setCell ⟨w.heap.size, k, none⟩ (.int .i64 10))) := b2
      generalize l'.getD k 0 = x at d0
      clear s1 s2 b1 b2 HR HL hBr
      by_cases hx : x = 10
      · subst hx
        go_wp2
        go_roundw
        case rel => exact ⟨k + 1, _, by omega, by go_num, L1.out, S1, B1.out⟩
        case measure => simp [intOf]; omega
      · have hx1 : (x == 10) = false := by simp [hx]
        clear hx
        go_wp2
        go_roundw
        case rel => exact ⟨k + 1, _, by omega, by go_num, L2.out, S2, B2.out⟩
        case measure => simp [intOf]; omega
    · obtain rfl : k = n := by omega
      obtain ⟨a, r, rfl, ha⟩ := split_two l' k HL.out
      have HTr : Hid (TextAt wr.heap.size wr (some ⟨w.heap.size, 0, none⟩) k a) := HR.out.text ha.symm (by omega)
      clear HR HL ha
      go_wp2_with fail
      refine (at10 a (some ⟨w.heap.size, 0, none⟩) k (k + 2) p wr HTr.out).mono ?_
      rintro e w6 ⟨rfl, hb6⟩
      have hB6 := hBr.trans (hb6.mono hBr.size)
      have HT6 : Hid (TextAt wr.heap.size w6 (some ⟨w.heap.size, 0, none⟩) k a) := HTr.out.below hb6
      clear hb6 HTr hBr
      go_wp2_with fail
      refine (ref12 a (some ⟨w.heap.size, 0, none⟩) k (k + 2) p w6 _ HT6.out).mono ?_
      rintro e w7 ⟨rfl, rfl⟩
      generalize atN a p = D
      clear HT6
      go_wp2
      go_ret
      exact ⟨by first | rfl | simp, hB6⟩
end Go.Proofs.Ytoicnhcajhgbeaa
