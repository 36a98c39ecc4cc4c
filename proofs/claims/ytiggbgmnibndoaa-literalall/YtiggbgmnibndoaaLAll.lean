/- PROVED: the law LiteralAll of layer 15 answers true for every row, text and number, and they read afterwards as they read before: a Finder of a row of at most MaxText runes, asked again and again from behind the place that it told last, tells all places at which the row stands, rising, and -1 behind the last one; where the row is put into the text it is found there or ahead; of a longer row there is none but ErrLong.
   CONDITIONS: none but the form's own (each slice and string at most 2^47 - 4096 bytes). -/
import Derived.Test.YtiggbgmnibndoaaK06
import Derived.Test.YtiggbgmnibndoaaRows
/- HELPERS: the law LiteralAll. -/
namespace Go.Proofs.Ytiggbgmnibndoaa
open Go.RowKit Go.Lk Kmp
set_option linter.unusedVariables false
set_option linter.unusedSimpArgs false
set_option maxRecDepth 100000 in
set_option maxHeartbeats 8000000 in
theorem all7_long {w : World} {la ta : Option Addr} {ln lc tn tc : Nat} {lit tx : List Int} {a : Int} (hL : TA w la ln lc lit) (hlong : 4194304 < ln) : Calls Try.prog 7 #[.slice la ln lc, .slice ta tn tc, .int .i64 a] w fun e w' => e = .returned (.bool true) ∧ Below w.heap.size w w' := by
  have HA := hid (awake8 w)
  have HN := fun W => new19_long (w := W) (ad := la) (c := lc) hlong
  have q1 : decide ((4194304 : Int) < (ln : Int)) = true := by simp; omega
  have q2 : (4194304 : Int) < (ln : Int) := by omega
  go_enter Try.func7, Try.ntmps7
  go_wp2_with (first | (go_at_call 8; (with_reducible refine HA.out.mono ?_); rintro e w2 ⟨rfl, hb⟩; have HB := hid hb; clear hb HA) | (go_at_call 19; (with_reducible refine (HN _).mono ?_); rintro e w3 ⟨rfl, hw⟩; have hw' := hw.symm; clear hw; subst hw'))
  go_ret
  exact ⟨rfl, HB.out⟩
theorem text_take {W : World} {N : Nat} {ta : Option Addr} {tn K : Nat} {tx : List Int} (h : TextAt N W ta tn tx) (hK : K ≤ tn) : TextAt N W ta K (tx.take K) := by
  obtain ⟨h1, h2, h3⟩ := h
  refine ⟨by simp; omega, by omega, ?_⟩
  rcases h3 with h3 | ⟨b, off, e, hb, hc⟩
  · exact .inl (by omega)
  · refine .inr ⟨b, off, e, hb, fun k hk => ?_⟩
    rw [hc k (by omega)]
    simp [List.getD_eq_getElem?_getD, List.getElem?_take_of_lt hk]
set_option maxRecDepth 100000 in
set_option maxHeartbeats 8000000 in
theorem all7_ok {w : World} {la ta : Option Addr} {ln lc tn tc : Nat} {lit tx : List Int} {a : Int} (hL : TA w la ln lc lit) (hT : TA w ta tn tc tx) (hs : ln ≤ 4194304) (ha1 : -9223372036854775808 ≤ a) (ha2 : a < 9223372036854775808) : Calls Try.prog 7 #[.slice la ln lc, .slice ta tn tc, .int .i64 a] w fun e w' => e = .returned (.bool true) ∧ Below w.heap.size w w' := by
  have HA := hid (awake8 w)
  have HN : Hid (∀ W, Below w.heap.size w W → Calls Try.prog 19 #[.slice la ln lc] W fun e w' => ∃ f, e = .returned (.tuple #[.pointer (some ⟨f, 0, none⟩), .int .i64 0]) ∧ FN w' W.heap.size f lit ∧ Below W.heap.size W w') := fun W hW => new19_ok ((hL.tx.below hW).mono hW.size) hs
  have HLL := hid hL.tx.1
  have HTL := hid hT.tx.1
  have hts := hT.sm
  have HL := hid hL
  have HT := hid hT
  clear hL hT
  go_enter Try.func7, Try.ntmps7
  go_upto_region 3 with (first | (go_at_call 8; (with_reducible refine HA.out.mono ?_); rintro e w2 ⟨rfl, hb⟩; have HB := hid hb; clear hb HA) | (go_at_call 19; (with_reducible refine (HN.out w2 HB.out).mono ?_); rintro e w3 ⟨f, rfl, hf, hb3⟩; have HF := hid hf; have HB3 := hid hb3; clear hf hb3))
  have HW3 : Hid (Below w.heap.size w w3) := HB.out.trans (Joins.below_le HB3.out HB.out.size)
  have HL3 : Hid (TextAt w3.heap.size w3 la ln lit) := (HL.out.tx.below HW3.out).mono HW3.out.size
  have HT3 : Hid (TextAt w3.heap.size w3 ta tn tx) := (HT.out.tx.below HW3.out).mono HW3.out.size
  have HNX : Hid (∀ W (b : Int), Eqw w3 W → Calls Try.prog 22 #[.pointer (some ⟨f, 0, none⟩), .slice ta tn tc, .int .i64 b] W fun e w' => ∃ r : Int, e = .returned (.int .i64 r) ∧ NextIs lit tx b r ∧ w' = W) := fun W b hW => next22 (HF.out.kept (hW.below _)) (by rw [hW.heap]; exact HT3.out.below (hW.below _))
  clear HN
  go_wp2_with fail
  go_loopw [10, 11] (fun v10 v11 wr => ∃ (f0 i : Nat), v10 = .int .i64 (f0 : Int) ∧ v11 = .int .i64 (i : Int) ∧ f0 ≤ i ∧ i ≤ tn + 1 ∧ Hid (NoSt lit tx f0 i) ∧ Hid (Eqw w3 wr)) (fun _ v11 _ => tn + 1 - (intOf v11).toNat)
  case atStart => exact ⟨0, 0, rfl, rfl, by omega, by omega, fun j h1 h2 => by omega, ⟨rfl, rfl, rfl, rfl⟩⟩
  case round =>
    obtain ⟨f0, i, rfl, rfl, hfi, hit, HNS, HE⟩ := hrel
    by_cases hin : i ≤ tn
    · have b1 : decide ((i : Int) ≤ (tn : Int)) = true := by simp; omega
      have b2 : (i : Int) ≤ (tn : Int) := by omega
      have s1 : IntKind.i64.wrap ((tn : Int) - (i : Int)) = (tn : Int) - (i : Int) := by simp [IntKind.wrap, IntKind.bits, IntKind.signed]; omega
      obtain ⟨bb, hbb⟩ : ∃ bb, bb = decide ((ln : Int) ≤ (tn : Int) - (i : Int)) := ⟨_, rfl⟩
      have HBB := hid hbb
      have ad1 : IntKind.i64.wrap ((i : Int) + 1) = (i : Int) + 1 := by simp [IntKind.wrap, IntKind.bits, IntKind.signed]; omega
      go_wp2_with fail
      rw [← hbb]
      clear hbb
      go_loopw [12, 13] (fun v12 v13 wq => ∃ (b : Bool) (k : Nat), v12 = .bool b ∧ v13 = .int .i64 (k : Int) ∧ k ≤ ln ∧ Hid (b = true → i + ln ≤ tn ∧ ∀ j, j < k → tx.getD (i + j) 0 = lit.getD j 0) ∧ Hid (b = false → ¬ Stands lit tx i) ∧ Hid (Eqw w3 wq)) (fun _ v13 _ => ln - (intOf v13).toNat)
      case atStart =>
        refine ⟨bb, 0, rfl, rfl, by omega, fun h => ?_, fun h hst => ?_, HE.out⟩
        · rw [HBB.out] at h
          simp at h
          exact ⟨by omega, fun j hj => by omega⟩
        · rw [HBB.out] at h
          simp at h
          have := hst.1
          rw [← HLL.out, ← HTL.out] at this
          omega
      case round =>
        obtain ⟨b, k, rfl, rfl, hk, HT1, HF1, HE2⟩ := hrel
        cases b
        · have HNO := hid (HF1.out rfl)
          have HNS2 : Hid (NoSt lit tx f0 (i + 1)) := fun j h1 h2 => by
            by_cases e : j = i
            · subst e; exact HNO.out
            · exact HNS.out j h1 (by omega)
          clear HT1 HF1
          by_cases hkl : k < ln
          · have c1 : decide ((k : Int) < (ln : Int)) = true := by simp; omega
            go_wp2
            exact ⟨⟨f0, i + 1, rfl, by push_cast; rfl, by omega, by omega, HNS2.out, HE2.out⟩, by simp [intOf]; omega⟩
          · have c1 : decide ((k : Int) < (ln : Int)) = false := by simp; omega
            go_wp2
            exact ⟨⟨f0, i + 1, rfl, by push_cast; rfl, by omega, by omega, HNS2.out, HE2.out⟩, by simp [intOf]; omega⟩
        · obtain ⟨hle, heq⟩ := HT1.out rfl
          by_cases hkl : k < ln
          · have c1 : decide ((k : Int) < (ln : Int)) = true := by simp; omega
            have c2 : (k : Int) < (ln : Int) := by omega
            obtain ⟨-, -, h0 | ⟨tb, tof, rfl, htb, hc⟩⟩ := HT3.out
            · omega
            · obtain ⟨-, -, h0 | ⟨lb, lof, rfl, hlb, hd⟩⟩ := HL3.out
              · omega
              · have d1 : wr.cell? ⟨tb, tof + (i + k), none⟩ = some (.int .i64 (tx.getD (i + k) 0)) := (cell_eq (HE2.out.blk tb) _).trans (hc (i + k) (by omega))
                have d2 : wr.cell? ⟨lb, lof + k, none⟩ = some (.int .i64 (lit.getD k 0)) := (cell_eq (HE2.out.blk lb) _).trans (hd k hkl)
                obtain ⟨x, hx⟩ : ∃ x, x = tx.getD (i + k) 0 := ⟨_, rfl⟩
                obtain ⟨y, hy⟩ : ∃ y, y = lit.getD k 0 := ⟨_, rfl⟩
                rw [← hx] at d1
                rw [← hy] at d2
                have HX := hid hx
                have HY := hid hy
                have HEQ := hid heq
                have ad2 : IntKind.i64.wrap ((k : Int) + 1) = (k : Int) + 1 := by simp [IntKind.wrap, IntKind.bits, IntKind.signed]; omega
                have ad3 : IntKind.i64.wrap ((i : Int) + (k : Int)) = (i : Int) + (k : Int) := by simp [IntKind.wrap, IntKind.bits, IntKind.signed]; omega
                have ad4 : ((i : Int) + (k : Int)).toNat = i + k := by omega
                have ad5 : (i : Int) + (k : Int) < (tn : Int) := by omega
                have ad6 : (0 : Int) ≤ (i : Int) + (k : Int) := by omega
                clear hx hy hc hd HT1 HF1 heq
                obtain ⟨q, hq⟩ : ∃ q, q = (x == y) := ⟨_, rfl⟩
                have HQ := hid hq
                have hq' := hq.symm
                clear hq
                go_wp2
                go_quiet (fail)
                go_wp2
                refine ⟨⟨q, k + 1, rfl, by push_cast; rfl, by omega, fun h => ⟨hle, fun j hj => ?_⟩, fun h hst => ?_, HE2.out.trans (Eqw.drewN _ _)⟩, by simp [intOf]; omega⟩
                · by_cases e : j = k
                  · subst e
                    rw [HQ.out] at h
                    rw [← HX.out, ← HY.out]
                    simpa using h
                  · exact HEQ.out j (by omega)
                · rw [HQ.out] at h
                  have h2 := stands_at hst (j := k) (by rw [← HLL.out]; exact hkl)
                  rw [← HX.out, ← HY.out] at h2
                  simp [h2] at h
          · have hkn : k = ln := by omega
            have HST : Hid (Stands lit tx i) := stands_of (by rw [← HLL.out, ← HTL.out]; exact hle) (fun j hj => heq j (by rw [hkn, HLL.out]; exact hj))
            have HR : Hid (∀ r, NextIs lit tx f0 r → r = i) := fun r hr => HNS.out.first HST.out hfi hr
            have c1 : decide ((k : Int) < (ln : Int)) = false := by simp; omega
            have c2 : ((i : Int) != (i : Int)) = false := by simp
            clear HT1 HF1 heq hkn
            go_wp2_with (go_at_call 22; (with_reducible refine (HNX.out _ _ HE2.out).mono ?_); rintro e w4 ⟨r, rfl, hr, hw⟩; obtain rfl := HR.out r hr; have hw' := hw.symm; clear hw hr; subst hw')
            exact ⟨⟨i + 1, i + 1, by push_cast; rfl, by push_cast; rfl, by omega, by omega, fun j h1 h2 => by omega, HE2.out⟩, by simp [intOf]; omega⟩
    · have b1 : decide ((i : Int) ≤ (tn : Int)) = false := by simp; omega
      have b2 : ¬ (i : Int) ≤ (tn : Int) := by omega
      obtain ⟨A, hA1, hA2⟩ : ∃ A : Nat, (A : Int) = (if a < 0 then -(a + 1) else a) ∧ A < 9223372036854775808 := by
        split
        · exact ⟨(-(a + 1)).toNat, by omega, by omega⟩
        · exact ⟨a.toNat, by omega, by omega⟩
      have HR : Hid (∀ r, f0 ≤ tn → NextIs lit tx f0 r → r = -1) := fun r h hr => HNS.out.none (by rw [← HTL.out]; omega) (by rw [← HTL.out]; exact h) hr
      go_upto_region 18 with fail
      go_cut [96] from 86 to 95 (fun v96 wx => v96 = .bool false ∧ wx = wr)
      case first =>
        by_cases hft : f0 ≤ tn
        · have c1 : decide ((f0 : Int) ≤ (tn : Int)) = true := by simp; omega
          have c2 : (f0 : Int) ≤ (tn : Int) := by omega
          go_wp2_with (go_at_call 22; (with_reducible refine (HNX.out _ _ HE.out).mono ?_); rintro e w4 ⟨r, rfl, hr, hw⟩; obtain rfl := HR.out r hft hr; have hw' := hw.symm; clear hw hr; subst hw')
          go_meet
          exact ⟨rfl, rfl⟩
        · have c1 : decide ((f0 : Int) ≤ (tn : Int)) = false := by simp; omega
          have c2 : ¬ (f0 : Int) ≤ (tn : Int) := by omega
          go_wp2_with fail
          go_meet
          exact ⟨rfl, rfl⟩
      case rest =>
        obtain ⟨rfl, hwc⟩ := hcut
        have hwc' := hwc.symm
        clear hwc
        subst hwc'
        obtain ⟨bn, hbn⟩ : ∃ bn, bn = decide (a < 0) := ⟨_, rfl⟩
        have HBN := hid hbn
        go_upto_if 98 with fail
        rw [← hbn]
        clear hbn
        go_cut [2] from 99 to 101 (fun v2 wx => v2 = .int .i64 (A : Int) ∧ wx = wr)
        case first =>
          by_cases ha : a < 0
          · rw [if_pos ha] at hA1
            have s1 : IntKind.i64.wrap (a + 1) = a + 1 := by simp [IntKind.wrap, IntKind.bits, IntKind.signed]; omega
            have s2 : IntKind.i64.wrap (-(a + 1)) = (A : Int) := by rw [hA1]; simp [IntKind.wrap, IntKind.bits, IntKind.signed]; omega
            have hb : bn = true := by rw [HBN.out]; simpa using ha
            subst hb
            clear hA1
            go_wp2_with fail
            go_meet
            exact ⟨rfl, rfl⟩
          · rw [if_neg ha] at hA1
            have hb : bn = false := by rw [HBN.out]; simpa using ha
            subst hb
            subst hA1
            go_wp2_with fail
            go_meet
            exact ⟨rfl, rfl⟩
        case rest =>
          obtain ⟨rfl, hwc⟩ := hcut
          have hwc' := hwc.symm
          clear hwc
          subst hwc'
          clear hA1 HBN
          go_upto_region 24 with fail
          obtain ⟨K, hK, hKt⟩ : ∃ K : Nat, (A : Int) % ((tn : Int) + 1) = (K : Int) ∧ K ≤ tn := ⟨A % (tn + 1), by push_cast; rfl, by have := Nat.mod_lt A (show 0 < tn + 1 by omega); omega⟩
          rw [hK]
          clear hK
          have HBW : Hid (Below w.heap.size w wr) := HW3.out.trans ((HE.out.below _))
          have HF3 : Hid (FN wr w2.heap.size f lit) := HF.out.kept (HE.out.below _)
          have HTW0 : Hid (TextAt wr.heap.size wr ta tn tx) := (HT.out.tx.below HBW.out).mono HBW.out.size
          have HLW0 : Hid (TextAt wr.heap.size wr la ln lit) := (HL.out.tx.below HBW.out).mono HBW.out.size
          have HTK : Hid (TextAt wr.heap.size wr ta K (tx.take K)) := text_take HTW0.out hKt
          have hlc := HT.out.le
          have k1 : (K : Int) ≤ (tc : Int) := by omega
          have k2 : (0 : Int) ≤ (K : Int) := by omega
          have k3 : (K : Int) ≤ (tn : Int) := by omega
          have HNIL := hid HT.out.nil
          go_upto_region 25 with (at_builtin; refine wpList_append_txt rfl (.tmp 107) (.tmp 110) rfl wr.heap.size (.slice none 0 0) 0 [] rfl (World.ownsRow_nil _ _ _ _) ta K tc _ (tx.take K) rfl HTK.out HNIL.out (by omega) (Nat.le_refl _) wr (Below.refl _ _) ?_; intro v5 w5 ho5 hb5)
          have HO5 : Hid (w5.ownsRow wr.heap.size 3 1 v5 K (I64 (tx.take K))) := by have h := ho5.out; rw [Nat.zero_add, List.nil_append] at h; exact h
          have HL5 : Hid (TextAt w5.heap.size w5 la ln lit) := (HLW0.out.below hb5.out).mono hb5.out.size
          have hwz5 : wr.heap.size ≤ w5.heap.size := hb5.out.size
          have HLNIL := hid HL.out.nil
          have HB5 := hid hb5.out
          clear ho5 HTK hb5
          go_upto_region 26 with (at_builtin; refine wpList_append_txt rfl (.tmp 112) (.tmp 113) rfl wr.heap.size v5 K (tx.take K) rfl HO5.out la ln lc _ lit rfl HL5.out HLNIL.out (by omega) hwz5 wr HB5.out ?_; intro v6 w6 ho6 hb6)
          have HO6 := hid ho6.out
          have HB6 := hid hb6.out
          have hwz6 : wr.heap.size ≤ w6.heap.size := hb6.out.size
          clear HL5 hwz5 HLNIL HO5 HB5 ho6 hb6
          have HTW : Hid (TextAt w6.heap.size w6 ta tn tx) := (HTW0.out.below HB6.out).mono HB6.out.size
          have HFIN : Hid (∀ v7 w7, w7.ownsRow wr.heap.size 3 1 v7 (K + ln + (tn - K)) (I64 (tx.take K ++ lit ++ tx.drop K)) → Below wr.heap.size wr w7 → ∃ a7 c7, v7 = .slice a7 (K + ln + (tn - K)) c7 ∧ (Calls Try.prog 22 #[.pointer (some ⟨f, 0, none⟩), .slice a7 (K + ln + (tn - K)) c7, .int .i64 0] w7 fun e w' => ∃ r : Int, e = .returned (.int .i64 r) ∧ (0 ≤ r ∧ r ≤ K) ∧ w' = w7)) := fun v7 w7 h1 h2 => by
            obtain ⟨a7, c7, e7, ht7⟩ := (OC.of h1).text (by omega)
            refine ⟨a7, c7, e7, (next22 (tc := c7) (a := 0) (HF3.out.kept h2) ht7).mono ?_⟩
            rintro e w' ⟨r, h3, h4, h5⟩
            exact ⟨r, h3, next_put (by rw [← HTL.out]; exact hKt) h4, h5⟩
          obtain ⟨mn, hmn⟩ : ∃ mn, mn = K + ln + (tn - K) := ⟨_, rfl⟩
          rw [← hmn] at HFIN
          have HMN := hid hmn
          clear hmn
          have HALL : Hid (∀ W, Below wr.heap.size wr W → Below w.heap.size w W) := fun W hW => HBW.out.trans (Joins.below_le hW HBW.out.size)
          clear HNX HR HNS HE HF HB HB3 HL HLW0 HTW0 HW3 HL3 HT3 HBW
          cases ta with
          | none =>
            have hc0 : tc = 0 := HNIL.out rfl
            have hK0 : K = 0 := by omega
            have ht0 : tn = 0 := by omega
            have HT6 : Hid (TextAt w6.heap.size w6 none 0 (tx.drop K)) := ⟨by rw [List.length_drop, ← HTL.out]; omega, by omega, .inl rfl⟩
            have HMN2 : Hid (K + ln + 0 = mn) := by show _ = _; rw [HMN.out]; omega
            clear HNIL HTW HMN
            subst hc0 ht0 hK0
            go_upto_region 27 with (at_builtin; refine wpList_append_txt rfl (.tmp 115) (.tmp 118) rfl wr.heap.size v6 (0 + ln) (tx.take 0 ++ lit) rfl HO6.out _ _ _ _ (tx.drop 0) rfl HT6.out (by intro h; first | rfl | cases h) (by omega) hwz6 wr HB6.out ?_; intro v7 w7 ho7 hb7)
            have ho7' := ho7.out
            rw [HMN2.out] at ho7'
            obtain ⟨a7, c7, e7, hn7⟩ := HFIN.out v7 w7 ho7' hb7.out
            subst e7
            have HN7 := hid hn7
            have HB7 := hid (HALL.out w7 hb7.out)
            clear HT6 HO6 HB6 hwz6 hn7 ho7 hb7 ho7' HFIN HALL
            go_wp2_with (go_at_call 22; (with_reducible refine HN7.out.mono ?_); rintro e w8 ⟨r, rfl, hrk, hw⟩; have hw' := hw.symm; clear hw; subst hw'; have r1 : (0 : Int) ≤ r := hrk.1; have r2 : r ≤ (0 : Int) := hrk.2; clear hrk)
            go_ret
            exact ⟨rfl, HB7.out⟩
          | some a0 =>
            by_cases hKc : tc = K
            · have htK : tn = K := by omega
              have HT6 : Hid (TextAt w6.heap.size w6 (some a0) 0 (tx.drop K)) := ⟨by rw [List.length_drop, ← HTL.out]; omega, by omega, .inl rfl⟩
              have HMN2 : Hid (K + ln + 0 = mn) := by show _ = _; rw [HMN.out]; omega
              clear HNIL HTW HMN
              subst hKc htK
              go_upto_region 27 with (at_builtin; refine wpList_append_txt rfl (.tmp 115) (.tmp 118) rfl wr.heap.size v6 (tn + ln) (tx.take tn ++ lit) rfl HO6.out _ _ _ _ (tx.drop tn) rfl HT6.out (by intro h; first | rfl | cases h) (by omega) hwz6 wr HB6.out ?_; intro v7 w7 ho7 hb7)
              have ho7' := ho7.out
              rw [HMN2.out] at ho7'
              obtain ⟨a7, c7, e7, hn7⟩ := HFIN.out v7 w7 ho7' hb7.out
              subst e7
              have HN7 := hid hn7
              have HB7 := hid (HALL.out w7 hb7.out)
              clear HT6 HO6 HB6 hwz6 hn7 ho7 hb7 ho7' HFIN HALL
              go_wp2_with (go_at_call 22; (with_reducible refine HN7.out.mono ?_); rintro e w8 ⟨r, rfl, hrk, hw⟩; have hw' := hw.symm; clear hw; subst hw'; have r1 : (0 : Int) ≤ r := hrk.1; have r2 : r ≤ ((tn : Int) : Int) := hrk.2; clear hrk)
              go_ret
              exact ⟨rfl, HB7.out⟩
            · have HT6 : Hid (TextAt w6.heap.size w6 (some (a0.add K)) (tn - K) (tx.drop K)) := by
                refine ⟨by rw [List.length_drop, ← HTL.out], by omega, ?_⟩
                rcases HTW.out.2.2 with h0 | ⟨b, off, e, hb, hc⟩
                · exact .inl (by omega)
                · right
                  simp only [Option.some.injEq] at e
                  subst e
                  refine ⟨b, off + K, by simp [Addr.add], hb, fun k hk => ?_⟩
                  rw [show off + K + k = off + (K + k) by omega, hc (K + k) (by omega)]
                  simp [List.getD_eq_getElem?_getD, List.getElem?_drop]
              have HMN2 : Hid (K + ln + (tn - K) = mn) := HMN.out.symm
              clear HNIL HTW HMN
              go_upto_region 27 with (at_builtin; refine wpList_append_txt rfl (.tmp 115) (.tmp 118) rfl wr.heap.size v6 (K + ln) (tx.take K ++ lit) rfl HO6.out _ _ _ _ (tx.drop K) rfl HT6.out (by intro h; first | rfl | cases h) (by omega) hwz6 wr HB6.out ?_; intro v7 w7 ho7 hb7)
              have ho7' := ho7.out
              rw [HMN2.out] at ho7'
              obtain ⟨a7, c7, e7, hn7⟩ := HFIN.out v7 w7 ho7' hb7.out
              subst e7
              have HN7 := hid hn7
              have HB7 := hid (HALL.out w7 hb7.out)
              clear HT6 HO6 HB6 hwz6 hn7 ho7 hb7 ho7' HFIN HALL
              go_wp2_with (go_at_call 22; (with_reducible refine HN7.out.mono ?_); rintro e w8 ⟨r, rfl, hrk, hw⟩; have hw' := hw.symm; clear hw; subst hw'; have r1 : (0 : Int) ≤ r := hrk.1; have r2 : r ≤ ((K : Int) : Int) := hrk.2; clear hrk)
              go_ret
              exact ⟨rfl, HB7.out⟩
/-- the law, of any row, text and number -/
theorem all7 {w : World} {la ta : Option Addr} {ln lc tn tc : Nat} {lit tx : List Int} {a : Int} (hL : TA w la ln lc lit) (hT : TA w ta tn tc tx) (ha1 : -9223372036854775808 ≤ a) (ha2 : a < 9223372036854775808) : Calls Try.prog 7 #[.slice la ln lc, .slice ta tn tc, .int .i64 a] w fun e w' => e = .returned (.bool true) ∧ Below w.heap.size w w' := by
  by_cases h : ln ≤ 4194304
  · exact all7_ok hL hT h ha1 ha2
  · exact all7_long (tx := tx) hL (by omega)
end Go.Proofs.Ytiggbgmnibndoaa
namespace Go.Proofs.Ytiggbgmnibndoaa
open Go.ChangeShapes Go.WideShapes Go.ChangeAt Go.RowKit
set_option linter.unusedVariables false
set_option linter.unusedSimpArgs false
set_option maxRecDepth 100000 in
theorem allLifted (os : Os) (started : os.Started) (H : Type) (enc : TypeId × Value → H) :
    ReturnsInHanded {} Try.checked os 7 .any (Rows.literalAllSpec.pre6 enc Try.prog Try.f7 Rows.literalAllRow.domain false) (Rows.literalAllSpec.post enc Try.prog Try.f7 false true false false) := by
  refine returnsInHanded_of_change_sized (C := Try.checked) ownB started (by kernel_rfl) Try.func7
    (ChangeSpec.witness6 (enc := enc) (C := Try.checked) false ⟨#[], #[.slice none 0 0, .slice none 0 0, .int .i64 0], []⟩ 8 (by kernel_rfl) (by kernel_rfl) (by kernel_rfl) (by kernel_rfl)) ?_
  intro W base args ds gs before hval0 hW hcnd0 hsz0 hholds
  have hval : ∀ (j : Nat) t v, Try.f7.params[j]? = some t → args[j]? = some v → Value.okWide Try.prog W .any base t v := hval0
  have hW' := hW
  obtain ⟨p, q, hA0, hV, rfl, hfz, hnd⟩ := hW
  have hA : DataW.TrodAll enc Try.prog W 0 (fun _ => true) true Try.f7.params.toList args.toList ds p := hA0
  have hsz : ∀ n ∈ DataW.weightsEach Try.prog (Try.f7.params.toList ++ Rows.literalAllSpec.plain.varTypes Try.prog) (ds ++ gs), n ≤ reachBytes := fun n hn => by simpa using List.all_eq_true.1 hsz0 n hn
  rw [Try.params7] at hA hval hsz
  obtain ⟨v0, vs0, d0, ds0, p0, q0, hargs, rfl, rfl, h0, r0⟩ := trodAll_cons hA
  obtain ⟨v1, vs1, d1, ds1, p1, q1, rfl, rfl, rfl, h1, r1⟩ := trodAll_cons r0
  obtain ⟨v2, vs2, d2, ds2, p2, q2, rfl, rfl, rfl, h2, r2⟩ := trodAll_cons r1
  obtain ⟨rfl, rfl, rfl⟩ := trodAll_nil r2
  obtain rfl : args = #[v0, v1, v2] := by cases args; simp_all
  obtain ⟨rfl, rfl⟩ := trodVars_none hV
  have hlt0 : ∀ x ∈ p0, x.block < W.heap.size := fun x hx => by have := hW'.lt x (by simp [hx]); simpa using this
  have hlt1 : ∀ x ∈ p1, x.block < W.heap.size := fun x hx => by have := hW'.lt x (by simp [hx]); simpa using this
  obtain ⟨lit, la, ln, lc, rfl, hL⟩ := text_arg (hval 0 29 v0 rfl rfl) h0 (fun n hn => hsz n (DataW.weights_mem_each (j := 0) (by simp) (by simp) n hn))
  obtain ⟨tx, ta, tn, tc, rfl, hT⟩ := text_arg (hval 1 29 v1 rfl rfl) h1 (fun n hn => hsz n (DataW.weights_mem_each (j := 1) (by simp) (by simp) n hn))
  obtain ⟨a2, rfl, rfl, rfl, w2⟩ := open_int Try.underlying3 (hval 2 3 v2 rfl rfl) h2
  clear hA0 hval0
  refine (all7 hL hT (int_range w2).1 (int_range w2).2).mono fun e W' ⟨he, hb⟩ => ?_
  subst he
  exact ⟨_, rfl, _, _, _, [], p0 ++ (p1 ++ ([] ++ [])), [], hW', trodAll_cons_mk (shut_bool Try.underlying4 _) trodAll_mk0, trodAll_cons_mk (Below.trod laidOut (by kernel_rfl) (of_decide_eq_true (by kernel_rfl)) h0 hb hlt0) (trodAll_cons_mk (Below.trod laidOut (by kernel_rfl) (of_decide_eq_true (by kernel_rfl)) h1 hb hlt1) (trodAll_cons_mk (shut_int Try.underlying3 w2) trodAll_mk0)), rfl, hb.frame _, fun h => by cases h⟩
theorem literalAll_holds : Rows.LiteralAllSaid :=
  OpenClaim.holds_of_wide 7 Try.f7 rfl rfl rfl rfl rfl rfl rfl ⟨rfl, rfl, rfl, rfl, rfl⟩ rfl rfl rfl rfl rfl (by kernel_rfl) Try.func7 (by kernel_rfl)
    (of_decide_eq_true (by kernel_rfl)) (by unfold Func.isWrapper; first | (rw [if_pos (by decide +kernel)]; kernel_rfl) | (rw [if_neg (by decide +kernel)]; exact ⟨rfl, rfl⟩))
    (fun os started H enc _ => allLifted os started H enc)
end Go.Proofs.Ytiggbgmnibndoaa
