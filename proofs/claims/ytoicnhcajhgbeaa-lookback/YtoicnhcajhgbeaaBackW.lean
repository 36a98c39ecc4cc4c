/- HELPERS: the walk of LookBack. -/
import Derived.Test.YtoicnhcajhgbeaaOwn
namespace Go.Proofs.Ytoicnhcajhgbeaa
open Go.RowKit Go.Lk
set_option linter.unusedVariables false
set_option linter.unusedSimpArgs false
theorem rev_step (l : List Int) (j : Nat) (h : j < l.length) : I64 ((l.drop (j + 1)).reverse) ++ [Value.int .i64 (l.getD j 0)] = I64 ((l.drop j).reverse) := by
  rw [List.drop_eq_getElem_cons h, List.reverse_cons]
  unfold I64
  rw [List.map_append]
  congr 1
  simp [h]
theorem at_some (l : List Int) (ad : Option Addr) (n cap : Nat) (p : Int) (w : World) (hT : TextAt w.heap.size w ad n l) :
    Calls Try.prog 10 #[.slice ad n cap, .int .i64 p] w fun e w' => ∃ B, e = .returned (.int .i64 B) ∧ inR B ∧ Below w.heap.size w w' :=
  (at10 l ad n cap p w hT).mono fun e w' h => ⟨_, h.1, by have := atN_in l p; unfold inR; omega, h.2⟩
set_option maxHeartbeats 2000000 in
set_option maxRecDepth 1000000 in
theorem back6 (l : List Int) (ad : Option Addr) (n cap : Nat) (p x : Int) (w0 : World) (hT : Hid (TextAt w0.heap.size w0 ad n l)) (hx : inR x) (hp : inR p) (hm : n ≤ 17592186044416) :
    Calls Try.prog 6 #[.slice ad n cap, .int .i64 p, .int .i64 x] w0 fun e w' => e = .returned (.bool true) ∧ Below w0.heap.size w0 w' := by
  obtain ⟨i0, hi, hz0, hz1, hz2⟩ := info_parts info3
  have HX : Hid (inR x) := hx
  have HN : Hid (n = l.length) := hT.out.1
  obtain ⟨hp0, hp1⟩ := hp
  clear hx
  go_enter Try.func6, Try.ntmps6
  go_wp2_with fail
  refine (awake8 w0).mono ?_
  rintro e w ⟨rfl, hb0⟩
  have hs0 := hb0.size
  have HT : Hid (TextAt w0.heap.size w ad n l) := hT.out.below hb0
  clear hT
  go_wp2
  go_loopw [8, 9] (fun v i wr => ∃ (k : Nat), k ≤ n ∧ ((k = 0 ∧ i = .int .i64 (-1)) ∨ ∃ j, k = j + 1 ∧ i = .int .i64 (j : Nat)) ∧ wr.ownsRow w.heap.size 3 1 v (n - k) (I64 ((l.drop k).reverse)) ∧ Below w.heap.size w wr)
    (fun _ i _ => ((intOf i) + 1).toNat)
  case atStart =>
    refine ⟨n, Nat.le_refl _, ?_, ?_, Below.refl _ _⟩
    · by_cases h0 : n = 0
      · left; exact ⟨h0, by rw [h0]; rfl⟩
      · right; exact ⟨n - 1, by omega, by go_num⟩
    · rw [show n - n = 0 by omega, List.drop_of_length_le (by rw [← HN.out]; exact Nat.le_refl _)]
      exact World.ownsRow_nil _ _ _ _
  case round =>
    obtain ⟨k, hk, hik, hown, hB⟩ := hrel
    have hsz := hB.size
    rcases hik with ⟨rfl, rfl⟩ | ⟨j, rfl, rfl⟩
    · rw [List.drop_zero, Nat.sub_zero] at hown
      obtain ⟨ad2, cap2, rfl, hT2⟩ := text_own (by rw [List.length_reverse]; exact HN.out) (by omega) hown
      have HR : Hid (TextAt wr.heap.size wr ad2 n l.reverse) := hT2
      have HTr : Hid (TextAt wr.heap.size wr ad n l) := (HT.out.below (hB.mono hs0)).mono (by omega)
      have hB0 : Below w0.heap.size w0 wr := hb0.trans (hB.mono hs0)
      clear hown hT2 hB HT hb0 hi hz0 hz1 hz2
      go_wp2_with fail
      refine (at10 l ad n cap p wr HTr.out).mono ?_
      rintro e w2 ⟨rfl, hb2⟩
      have hs2 := hb2.size
      have HR2 : Hid (TextAt w2.heap.size w2 ad2 n l.reverse) := (HR.out.below hb2).mono hs2
      have hB2 : Below w0.heap.size w0 w2 := hB0.trans (hb2.mono (by omega))
      clear HR HTr hb2 hB0
      by_cases hout : p < 0 ∨ (n : Int) < p
      · have ea : atN l p = 0 := by unfold atN; rw [if_pos (by rw [← HN.out]; exact hout)]
        rw [ea]
        rcases hout with hout | hout
        · go_wp2_with fail
          refine (at_some l.reverse ad2 n cap2 _ w2 HR2.out).mono ?_
          rintro e w3 ⟨B, rfl, hinB, hb3⟩
          have hB3 := hB2.trans (hb3.mono hB2.size)
          clear hb3 hB2
          go_wp2_with fail
          refine (flip14 _ w3 hinB).mono ?_
          rintro e w4 ⟨rfl, hb4⟩
          have hB4 := hB3.trans (hb4.mono hB3.size)
          clear hb4 hB3
          go_wp2_with fail
          refine (flip14 _ w4 HX.out).mono ?_
          rintro e w5 ⟨rfl, hb5⟩
          have hB5 := hB4.trans (hb5.mono hB4.size)
          clear hb5 hB4
          go_wp2
          go_ret
          exact ⟨rfl, hB5⟩
        · have hp2 : ¬ p < 0 := by omega
          go_wp2_with fail
          refine (at_some l.reverse ad2 n cap2 _ w2 HR2.out).mono ?_
          rintro e w3 ⟨B, rfl, hinB, hb3⟩
          have hB3 := hB2.trans (hb3.mono hB2.size)
          clear hb3 hB2
          go_wp2_with fail
          refine (flip14 _ w3 hinB).mono ?_
          rintro e w4 ⟨rfl, hb4⟩
          have hB4 := hB3.trans (hb4.mono hB3.size)
          clear hb4 hB3
          go_wp2_with fail
          refine (flip14 _ w4 HX.out).mono ?_
          rintro e w5 ⟨rfl, hb5⟩
          have hB5 := hB4.trans (hb5.mono hB4.size)
          clear hb5 hB4
          go_wp2
          go_ret
          exact ⟨rfl, hB5⟩
      · obtain ⟨q, rfl⟩ := Int.eq_ofNat_of_zero_le (show 0 ≤ p by omega)
        have hq : q ≤ n := by omega
        have hab := at_back l q (by rw [← HN.out]; exact hq)
        have ea : atN l (q : Int) = atP l q := by unfold atN; rw [if_neg (by rw [← HN.out]; exact hout)]; rfl
        have eb : atN l.reverse ((n : Int) - q) = atP l.reverse (l.length - q) := by
          have h1 : ¬ (((n : Int) - q) < 0 ∨ (l.reverse.length : Int) < (n : Int) - q) := by rw [List.length_reverse, ← HN.out]; omega
          unfold atN
          rw [if_neg h1]
          congr 1
          have := HN.out
          omega
        rw [ea]
        have hat := at10 l.reverse ad2 n cap2 ((n : Int) - q) w2 HR2.out
        rw [eb] at hat
        have hin : inR (atP l.reverse (l.length - q)) := by
          have := sumB_in (begB (l.length - q)) (endB l.reverse (l.length - q)) (blB l.reverse (l.length - q)) (elB l.reverse (l.length - q)) (edgeB l.reverse (l.length - q))
          unfold inR atP
          omega
        generalize atP l.reverse (l.length - q) = B at hab hat hin
        generalize atP l q = A at hab ⊢
        clear ea eb
        have hout1 : ¬ (q : Int) < 0 := by omega
        have hout2 : ¬ (n : Int) < (q : Int) := by omega
        have hf1 := fun w => flip14 x w HX.out
        have hf2 := fun w => flip14 (flipI x) w (flip_in x HX.out)
        have hh1 := fun w => holdB13 (flipI x) x w
        have hh2 := fun w => holdB13 x (flipI x) w
        have hfB := fun w => flip14 B w hin
        rw [Lk.flip_flip] at hf2
        rw [holds_flip] at hh1
        rw [← hab] at hfB
        generalize holdsB x (flipI x) = H at hh1 hh2
        generalize flipI x = F at hf1 hf2 hh1 hh2
        clear hab hin hout
        go_wp2_with fail
        refine hat.mono ?_
        rintro e w3 ⟨rfl, hb3⟩
        have hB3 := hB2.trans (hb3.mono hB2.size)
        clear hb3 hB2 hat
        go_wp2_with fail
        refine (hfB w3).mono ?_
        rintro e w4 ⟨rfl, hb4⟩
        have hB4 := hB3.trans (hb4.mono hB3.size)
        clear hb4 hB3
        go_wp2_with fail
        refine (hf1 w4).mono ?_
        rintro e w5 ⟨rfl, hb5⟩
        have hB5 := hB4.trans (hb5.mono hB4.size)
        clear hb5 hB4
        go_wp2_with fail
        refine (hf2 w5).mono ?_
        rintro e w6 ⟨rfl, hb6⟩
        have hB6 := hB5.trans (hb6.mono hB5.size)
        clear hb6 hB5
        go_wp2_with fail
        refine (hh1 w6).mono ?_
        rintro e w' ⟨rfl, rfl⟩
        go_wp2_with fail
        refine (hh2 w').mono ?_
        rintro e w7 ⟨rfl, rfl⟩
        go_wp2
        go_ret
        exact ⟨by first | rfl | simp, hB6⟩
    · obtain ⟨hn', hm', h | ⟨b, off, rfl, hbN, hc⟩⟩ := HT.out
      · omega
      · have d0 := (hB.cell (p := ⟨b, off + j, none⟩) (by show b < w.heap.size; omega)).trans (hc j (by omega))
        have hst := rev_step l j (by rw [← HN.out]; omega)
        generalize l.getD j 0 = y at d0 hst
        have HST : Hid (I64 ((l.drop (j + 1)).reverse) ++ [Value.int .i64 y] = I64 ((l.drop j).reverse)) := hst
        clear hst hc hn' hm'
        have hjn : j < n := by omega
        go_wp2_with (at_builtin; refine wpList_append_own _ rfl (.tmp 22) (.tmp 27) 22 rfl w.heap.size 3 i0 (.int .i64 0) 1 8 Try.underlying22 hi hz0 hz1 hz2 rfl (by decide) _ (n - (j + 1)) _ rfl (hown.alloc _) ⟨wr.heap.size, 0, none⟩ 1 1 [.int .i64 y] rfl rfl (by exact news_one _ _ _ _ rfl) (one_cell_int _ _) (by unfold maxLen; omega) (by omega) (by simp; omega) ?_; intro v1 w1 ho1 hg1 _; have hb1 := hB.trans (below_app1 hown (by omega) hg1); rw [HST.out] at ho1; clear hg1)
        go_roundw
        case rel =>
          refine ⟨j, by omega, ?_, ?_, hb1⟩
          · by_cases h0 : j = 0
            · left; exact ⟨h0, by rw [h0]; rfl⟩
            · right; exact ⟨j - 1, by omega, by go_num⟩
          · rw [show n - j = n - (j + 1) + 1 by omega]; exact ho1
        case measure => simp [intOf]
end Go.Proofs.Ytoicnhcajhgbeaa
