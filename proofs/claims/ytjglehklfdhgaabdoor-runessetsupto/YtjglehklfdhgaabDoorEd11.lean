/- HELPERS: the law's list of edges, one of its ways. -/
import Derived.Test.YtjglehklfdhgaabDoorEdL
namespace Go.Proofs.YtjglehklfdhgaabDoor
open Go.Shelf Go.RowKit Go.Lib Go.Sort Go.Mx
set_option linter.unusedVariables false
set_option linter.unusedSimpArgs false
set_option maxHeartbeats 16000000 in
set_option maxRecDepth 1000000 in
theorem edges_11 (A B : List (Int × Int)) (R : List Int) (aa ab ar : Option Addr) (na nb nr ca cb cr : Nat) (w : World) (hna : Hid (na = A.length)) (hnb : Hid (nb = B.length)) (hnr : Hid (nr = R.length))
    (sA : na ≤ 1048576) (sB : nb ≤ 1048576) (sR : nr ≤ 1048576) (hA : Hid (RowAt w.heap.size w (.slice aa na ca) A)) (hB : Hid (RowAt w.heap.size w (.slice ab nb cb) B)) (hR : Hid (IntsAt w.heap.size w (.slice ar nr cr) R)) (zr : Hid (ar = none → cr = 0)) (oA : Hid (A.all okR = true)) (oB : Hid (B.all okR = true)) (qa : 40 < na) (qb : 40 < nb) :
    Calls Tryd.prog 10 #[.slice aa na ca, .slice ab nb cb, .slice ar nr cr] w fun e w' => ∃ v m X, e = .returned v ∧ w'.ownsRow w.heap.size 3 1 v m (I64 X) ∧ Below w.heap.size w w' ∧ 1 ≤ m ∧ m ≤ 3000000 := by
  obtain ⟨i0, hi0, hz0, hz1, hz2⟩ := info_parts info3
  go_enter Tryd.func10, Tryd.ntmps10
  go_wp2
  go_loopw [7, 8] (fun v i wr => ∃ (k m : Nat) (X : List Int), k ≤ 40 ∧ 17 ≤ m ∧ m ≤ 17 + 4 * k ∧ i = .int .i64 k ∧ wr.ownsRow w.heap.size 3 1 v m (I64 X) ∧ Below w.heap.size w wr)
    (fun _ i _ => 40 - (intOf i).toNat)
  case atStart => exact ⟨0, 17, [-1, 0, 1, 55295, 55296, 57343, 57344, 1114111, 1114112, 65, 90, 97, 122, 64, 91, 96, 123], by omega, by omega, by omega, rfl, World.ownsRow_lit (base := w.heap.size) w _ 17 (Nat.le_refl _) (by decide) rfl, (Below.refl _ _).alloc (Nat.le_refl _) _⟩
  case round =>
    obtain ⟨k, m, X, hk, hm1, hm2, rfl, hown, hbw⟩ := hrel
    have hsz := hbw.size
    obtain ⟨g, cp, rfl⟩ := Joins.ownsRow_form hown (by omega)
    by_cases hlt : k < 40
    · have y1 : (k : Int) < (na : Int) := by omega
      have y2 : (k : Int) < 40 := by omega
      obtain ⟨ad', cap', he, h | ⟨b, off, rfl, hbN, hc0, hc1⟩⟩ := hA.out
      · exact absurd h (by rw [← hna.out]; omega)
      · have hn' := hna.out
        simp only [Value.slice.injEq] at he
        obtain ⟨rfl, -, rfl⟩ := he
        have d0 := (hbw.cell (p := ⟨b, off + k * 2, none⟩) hbN).trans (hc0 k (by omega))
        have d1 := (hbw.cell (p := ⟨b, off + k * 2 + 1, none⟩) hbN).trans (hc1 k (by omega))
        have hok := List.all_eq_true.1 oA.out _ (getD_mem' A k (by omega))
        generalize A.getD k (0, 0) = gg at d0 d1 hok
        obtain ⟨lo, hi⟩ := gg
        simp only [okR, decide_eq_true_eq] at d0 d1 hok
        clear hc0 hc1 hn'
        go_wp2
        go_region_law (refine step_append_own rfl (.tmp 23) (.tmp 46) 23 rfl w.heap.size 3 i0 (.int .i64 0) 1 8 Tryd.underlying23 hi0 hz0 hz1 hz2 rfl (by decide) (.slice (some ⟨g, 0, none⟩) m cp) m _ (by simp [Act.eval, Act.put]) (by exact (hown.alloc _).drew) ⟨wr.heap.size, 0, none⟩ 4 4 [.int .i64 (IntKind.i64.wrap (lo - 1)), .int .i64 lo, .int .i64 hi, .int .i64 (IntKind.i64.wrap (hi + 1))] (by simp [Act.eval, Act.put]) rfl (by intro j u hj; exact news_four wr _ _ _ _ 3 _ rfl j u hj) (by intro u hu; simp at hu; rcases hu with rfl | rfl | rfl | rfl <;> rfl) (by unfold maxLen; omega) (by omega) (by simp; omega) ?_; intro v1 w1 ho1 hg1)
        all_goals
          have hb1 := hbw.trans (below_app hown hsz hg1)
          clear hg1
          go_wp2
          go_roundw
          case rel => exact ⟨k + 1, m + 4, X ++ [IntKind.i64.wrap (lo - 1), lo, hi, IntKind.i64.wrap (hi + 1)], by omega, by omega, by omega, by go_num, by simpa [I64] using ho1, hb1⟩
          case measure => simp [intOf]; omega
    · have hkm : k = 40 := by omega
      have xa : (k : Int) < (na : Int) := by omega
      have xa2 : ¬ (k : Int) < 40 := by omega
      have hm3 : m ≤ 177 := by omega
      clear hA hna oA
      go_wp2
      go_loopw [7, 9] (fun v i wr => ∃ (j m : Nat) (X : List Int), j ≤ 40 ∧ 17 ≤ m ∧ m ≤ 177 + 4 * j ∧ i = .int .i64 j ∧ wr.ownsRow w.heap.size 3 1 v m (I64 X) ∧ Below w.heap.size w wr)
        (fun _ i _ => 40 - (intOf i).toNat)
      case atStart => exact ⟨0, m, X, by omega, by omega, by omega, rfl, hown, hbw⟩
      case round =>
        clear hown hbw hsz hm1 hm2 hm3
        obtain ⟨j, m, X, hj, hm1, hm2, rfl, hown, hbw⟩ := hrel
        have hsz := hbw.size
        obtain ⟨g, cp, rfl⟩ := Joins.ownsRow_form hown (by omega)
        by_cases hlt2 : j < 40
        · have y1 : (j : Int) < (nb : Int) := by omega
          have y2 : (j : Int) < 40 := by omega
          obtain ⟨ad', cap', he, h | ⟨b, off, rfl, hbN, hc0, hc1⟩⟩ := hB.out
          · exact absurd h (by rw [← hnb.out]; omega)
          · have hn' := hnb.out
            simp only [Value.slice.injEq] at he
            obtain ⟨rfl, -, rfl⟩ := he
            have d0 := (hbw.cell (p := ⟨b, off + j * 2, none⟩) hbN).trans (hc0 j (by omega))
            have d1 := (hbw.cell (p := ⟨b, off + j * 2 + 1, none⟩) hbN).trans (hc1 j (by omega))
            have hok := List.all_eq_true.1 oB.out _ (getD_mem' B j (by omega))
            generalize B.getD j (0, 0) = gg at d0 d1 hok
            obtain ⟨lo, hi⟩ := gg
            simp only [okR, decide_eq_true_eq] at d0 d1 hok
            clear hc0 hc1 hn'
            go_wp2
            go_region_law (refine step_append_own rfl (.tmp 58) (.tmp 81) 23 rfl w.heap.size 3 i0 (.int .i64 0) 1 8 Tryd.underlying23 hi0 hz0 hz1 hz2 rfl (by decide) (.slice (some ⟨g, 0, none⟩) m cp) m _ (by simp [Act.eval, Act.put]) (by exact (hown.alloc _).drew) ⟨wr.heap.size, 0, none⟩ 4 4 [.int .i64 (IntKind.i64.wrap (lo - 1)), .int .i64 lo, .int .i64 hi, .int .i64 (IntKind.i64.wrap (hi + 1))] (by simp [Act.eval, Act.put]) rfl (by intro j u hj; exact news_four wr _ _ _ _ 3 _ rfl j u hj) (by intro u hu; simp at hu; rcases hu with rfl | rfl | rfl | rfl <;> rfl) (by unfold maxLen; omega) (by omega) (by simp; omega) ?_; intro v1 w1 ho1 hg1)
            all_goals
              have hb1 := hbw.trans (below_app hown hsz hg1)
              clear hg1
              go_wp2
              go_roundw
              case rel => exact ⟨j + 1, m + 4, X ++ [IntKind.i64.wrap (lo - 1), lo, hi, IntKind.i64.wrap (hi + 1)], by omega, by omega, by omega, by go_num, by simpa [I64] using ho1, hb1⟩
              case measure => simp [intOf]; omega
        · have hjm : j = 40 := by omega
          have xb : (j : Int) < (nb : Int) := by omega
          have xb2 : ¬ (j : Int) < 40 := by omega
          have hm3 : m ≤ 337 := by omega
          have HX : Hid (w.heap.size ≤ wr.heap.size) := hsz
          have HRw : Hid (IntsAt w.heap.size wr (.slice ar nr cr) R) := by
            obtain ⟨ad', cap', he, h | ⟨b, off, ha, hbN, hc⟩⟩ := hR.out
            · exact ⟨ad', cap', he, .inl h⟩
            · exact ⟨ad', cap', he, .inr ⟨b, off, ha, hbN, fun k hk => (hbw.cell (p := ⟨b, off + k, none⟩) hbN).trans (hc k hk)⟩⟩
          clear hB hnb oB hR
          go_wp2_with (refine wpList_append_text rfl (.tmp 83) (.tmp 84) rfl w.heap.size (.slice (some ⟨g, 0, none⟩) m cp) m X rfl hown ar nr cr w.heap.size R rfl HRw.out hnr.out zr.out (by omega) HX.out w hbw ?_)
          intro v2 w2 ho2 hb2
          have hs2 := hb2.size
          obtain ⟨M, hM⟩ : ∃ M, M = m + nr := ⟨_, rfl⟩
          have hM1 : 17 ≤ M := by omega
          have hM2 : M ≤ 1048913 := by omega
          have HO2 : Hid (∃ Y, w2.ownsRow w.heap.size 3 1 v2 M (I64 Y)) := by rw [hM]; exact ⟨X ++ R, by simpa [I64] using ho2.out⟩
          clear ho2 hM hown hbw HRw HX
          obtain ⟨Y, hY⟩ := HO2.out
          obtain ⟨g2, cp2, rfl⟩ := Joins.ownsRow_form hY (by omega)
          clear HO2
          go_wp2
          go_loopw [7, 11] (fun v i wr => ∃ (i' m' : Nat) (Z : List Int), i' ≤ M ∧ m' = M + i' ∧ i = .int .i64 i' ∧ wr.ownsRow w.heap.size 3 1 v m' (I64 Z) ∧ Below w.heap.size w wr)
            (fun _ i _ => M - (intOf i).toNat)
          case atStart => exact ⟨0, M, Y, by omega, by omega, rfl, hY, hb2⟩
          case round =>
            clear hY hb2 hs2 hsz
            obtain ⟨i', m', Z, hi', hm', rfl, hown, hbw⟩ := hrel
            have hsz := hbw.size
            obtain ⟨g3, cp3, rfl⟩ := Joins.ownsRow_form hown (by omega)
            by_cases hlt3 : i' < M
            · have hZl : Z.length = m' := by have := hown.1; simpa using this
              have d0 := hown.cellAt i' (by omega)
              have d1 : (I64 Z)[i']? = some (.int .i64 (Z.getD i' 0)) := by simp [show i' < Z.length by omega]
              rw [d1] at d0
              generalize Z.getD i' 0 = z at d0
              have hbd : m' ≤ 2097826 := by omega
              have him : i' < m' := by omega
              clear d1 hZl
              have HM' : Hid (m' = M + i') := hm'
              clear hm'
              go_wp2_with (at_builtin; refine wpList_append_own _ rfl (.tmp 93) (.tmp 99) 23 rfl w.heap.size 3 i0 (.int .i64 0) 1 8 Tryd.underlying23 hi0 hz0 hz1 hz2 rfl (by decide) _ m' _ rfl (hown.alloc _) ⟨wr.heap.size, 0, none⟩ 1 1 [.int .i64 (bits .xor .i64 z 32)] rfl rfl (by exact news_one _ _ _ _ rfl) (one_cell_int _ _) (by unfold maxLen; omega) (by omega) (by simp; omega) ?_; intro v1 w1 ho1 hg1 _; have hb1 := hbw.trans (below_app1 hown hsz hg1); clear hg1)
              go_roundw
              case rel => exact ⟨i' + 1, m' + 1, Z ++ [bits .xor .i64 z 32], by omega, by have := HM'.out; omega, by go_num, by simpa [I64] using ho1, hb1⟩
              case measure => simp [intOf]; omega
            · have hiM : i' = M := by omega
              have HE : Hid (wr.ownsRow w.heap.size 3 1 (.slice (some ⟨g3, 0, none⟩) m' cp3) m' (I64 Z)) := hown
              have HBE : Hid (Below w.heap.size w wr) := hbw
              have hbd1 : 1 ≤ m' := by omega
              have hbd2 : m' ≤ 3000000 := by omega
              clear hown hbw hm'
              go_wp2
              go_ret
              exact ⟨_, m', Z, rfl, HE.out, HBE.out, hbd1, hbd2⟩
end Go.Proofs.YtjglehklfdhgaabDoor
