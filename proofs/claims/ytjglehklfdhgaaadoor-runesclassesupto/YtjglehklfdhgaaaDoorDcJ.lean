/- HELPERS: the document's side of classes: Negate. -/
import Derived.Test.YtjglehklfdhgaaaDoorDcG
import Derived.Test.YtjglehklfdhgaaaDoorDcH
namespace Go.Proofs.YtjglehklfdhgaaaDoor
open Go.RowKit Go.Mx
set_option linter.unusedVariables false
set_option linter.unusedSimpArgs false
set_option maxHeartbeats 4000000 in
set_option maxRecDepth 1000000 in
theorem rneg_ok (L : List (Int × Int)) (ad : Option Addr) (n cap : Nat) (w : World) (hn : Hid (L.length = n)) (hl : Hid (RowAt w.heap.size w (.slice ad n cap) L)) (hr : Hid (rightB L = true)) :
    Calls Tryd.prog 36 #[.slice ad n cap] w fun e w' => RNorm w w' e true (negFrom 0 L) := by
  have hlen := rightB_len hr.out
  rw [hn.out] at hlen
  have hr1 := rright33 L ad n cap w hn (by omega) hl
  rw [hr.out] at hr1
  obtain ⟨i0, hi0, hz0, hz1, hz2⟩ := info_parts info57
  go_enter Tryd.func36, Tryd.ntmps36
  go_wp2_with fail
  refine hr1.mono ?_
  rintro e w1 ⟨rfl, hb1⟩
  clear hr1
  go_wp2
  go_loopw [5, 6, 7] (fun v nx i wr => ∃ (k m : Nat) (x : Int) (P : List (Int × Int)) (v' : Value), k ≤ n ∧ m ≤ k ∧ 0 ≤ x ∧ x ≤ 1114112 ∧ nx = .int .i64 x ∧ i = .int .i64 k ∧ v' = v ∧ wr.ownsRow w.heap.size 57 2 v' m (fl P) ∧ Below w.heap.size w wr ∧ Hid (P ++ negFrom x (L.drop k) = negFrom 0 L ∧ m = P.length))
    (fun _ _ i _ => n - (intOf i).toNat)
  case atStart => exact ⟨0, 0, 0, [], _, by omega, by omega, by omega, by omega, rfl, rfl, rfl, World.ownsRow_nil _ _ _ _, hb1, by exact ⟨rfl, rfl⟩⟩
  case round =>
    clear hb1
    obtain ⟨k, m, x, P, v, hk, hm, hx0, hx1, rfl, rfl, rfl, hown, hbw, HR⟩ := hrel
    have hsz := hbw.size
    by_cases hlt : k < n
    · obtain ⟨ad', cap', he, h | ⟨b, off, rfl, hbN, hc0, hc1⟩⟩ := hl.out
      · exact absurd h (by rw [hn.out]; omega)
      · have hn' := hn.out
        simp only [Value.slice.injEq] at he
        obtain ⟨rfl, -, rfl⟩ := he
        have d0 := (hbw.cell (p := ⟨b, off + k * 2, none⟩) hbN).trans (hc0 k (by omega))
        have e1 := hc1 k (by omega)
        have hdr := drop_consR L k (by omega)
        have hdm := right_at L 0 k (by have := hr.out; unfold rightB at this; rw [Bool.and_eq_true] at this; exact this.2) (by omega)
        have hR := HR.out
        rw [hdr] at hR
        generalize L.getD k (0, 0) = g at d0 e1 hR hdm
        obtain ⟨lo, hi⟩ := g
        simp only at d0 e1 hdm
        have HE1 : Hid (w.cell? ⟨b, off + k * 2 + 1, none⟩ = some (.int .i64 hi)) := e1
        have d1 := (hbw.cell (p := ⟨b, off + k * 2 + 1, none⟩) hbN).trans e1
        obtain ⟨hl0, hl1⟩ : 0 ≤ lo ∧ lo ≤ 1114111 := by have := hdm.1; simp [dom] at this; omega
        obtain ⟨hh0, hh1⟩ : 0 ≤ hi ∧ hi ≤ 1114111 := by have := hdm.2; simp [dom] at this; omega
        have HR2 : Hid (P ++ ((if x < lo then [(x, lo - 1)] else []) ++ negFrom (hi + 1) (L.drop (k + 1))) = negFrom 0 L ∧ m = P.length) := hR
        clear hdr hR HR hc0 hc1 hn' hdm e1
        by_cases hxl : x < lo
        · have hR3 := HR2.out
          rw [if_pos hxl] at hR3
          have HR3 : Hid (P ++ [(x, lo - 1)] ++ negFrom (hi + 1) (L.drop (k + 1)) = negFrom 0 L ∧ m = P.length) := ⟨by rw [List.append_assoc]; exact hR3.1, hR3.2⟩
          clear hR3 HR2
          go_wp2_with (at_builtin; refine wpList_append_own _ rfl (.tmp 25) (.tmp 34) 42 rfl w.heap.size 57 i0 (.agg #[.int .i64 0, .int .i64 0]) 2 16 Tryd.underlying42 hi0 hz0 hz1 hz2 rfl (by decide) v m _ rfl (hown.alloc _) ⟨wr.heap.size, 0, none⟩ 1 1 [.int .i64 x, .int .i64 (lo - 1)] rfl rfl (by exact news_two _ _ _ _ _ (by simp)) (two_cells_int _ _ _) (by unfold maxLen; omega) (by omega) (by simp; omega) ?_)
          intro v1 w3 ho3 hg3 _
          have hb3 : Below w.heap.size w w3 := hbw.trans (below_append1 hown hsz hg3)
          have d3 := (hb3.cell (p := ⟨b, off + k * 2 + 1, none⟩) hbN).trans HE1.out
          have HO3 : Hid (w3.ownsRow w.heap.size 57 2 v1 (m + 1) (fl (P ++ [(x, lo - 1)]))) := by
            show w3.ownsRow _ _ _ _ _ _
            rw [fl_one]; exact ho3
          clear ho3 hg3 d0 d1
          go_wp2
          go_roundw
          case rel => exact ⟨k + 1, m + 1, hi + 1, P ++ [(x, lo - 1)], v1, by omega, by omega, by omega, by omega, rfl, by go_num, rfl, HO3.out, hb3, by exact ⟨HR3.out.1, by rw [List.length_append, ← HR3.out.2]; rfl⟩⟩
          case measure => simp [intOf]; omega
        · have hR3 := HR2.out
          rw [if_neg hxl] at hR3
          have HR3 : Hid (P ++ negFrom (hi + 1) (L.drop (k + 1)) = negFrom 0 L ∧ m = P.length) := hR3
          clear hR3 HR2
          go_wp2
          go_roundw
          case rel => exact ⟨k + 1, m, hi + 1, P, v, by omega, by omega, by omega, by omega, rfl, by go_num, rfl, hown, hbw, HR3⟩
          case measure => simp [intOf]; omega
    · obtain rfl : k = n := by omega
      have hR := HR.out
      rw [List.drop_of_length_le (by rw [hn.out]; exact Nat.le_refl _)] at hR
      have HR2 : Hid (P ++ (if x ≤ 1114111 then [(x, 1114111)] else []) = negFrom 0 L ∧ m = P.length) := hR
      clear hR HR
      by_cases hxm : x ≤ 1114111
      · have hR3 := HR2.out
        rw [if_pos hxm] at hR3
        have HR3 : Hid (P ++ [(x, 1114111)] = negFrom 0 L ∧ m = P.length) := hR3
        clear hR3 HR2
        go_wp2_with (at_builtin; refine wpList_append_own _ rfl (.tmp 44) (.tmp 47) 42 rfl w.heap.size 57 i0 (.agg #[.int .i64 0, .int .i64 0]) 2 16 Tryd.underlying42 hi0 hz0 hz1 hz2 rfl (by decide) v m _ rfl (hown.alloc _) ⟨wr.heap.size, 0, none⟩ 1 1 [.int .i64 x, .int .i64 1114111] rfl rfl (by exact news_two _ _ _ _ _ rfl) (two_cells_int _ _ _) (by unfold maxLen; omega) (by omega) (by simp; omega) ?_)
        intro v1 w3 ho3 hg3 _
        have hb3 : Below w.heap.size w w3 := hbw.trans (below_append1 hown hsz hg3)
        have hml : (negFrom 0 L).length = m + 1 := by rw [← HR3.out.1, List.length_append, ← HR3.out.2]; rfl
        have hcl := class_own (negFrom 0 L) v1 (m + 1) w3 w.heap.size hml (by omega) (by rw [← HR3.out.1, fl_one]; exact ho3)
        clear ho3 hg3 hml
        go_wp2_with fail
        refine hcl.mono ?_
        intro e w4 hC
        obtain ⟨v4, c4, rfl⟩ := hC.form
        go_wp2
        go_ret2
        exact RNorm.yes rfl (hC.low hb3)
      · have hR3 := HR2.out
        rw [if_neg hxm, List.append_nil] at hR3
        have hml : (negFrom 0 L).length = m := by rw [← hR3.1]; exact hR3.2.symm
        have hcl := class_own (negFrom 0 L) v m wr w.heap.size hml (by omega) (by rw [← hR3.1]; exact hown)
        clear hml hR3
        go_wp2_with fail
        refine hcl.mono ?_
        intro e w4 hC
        obtain ⟨v4, c4, rfl⟩ := hC.form
        go_wp2
        go_ret2
        exact RNorm.yes rfl (hC.low hbw)
set_option maxHeartbeats 1000000 in
theorem rneg36 (L : List (Int × Int)) (ad : Option Addr) (n cap : Nat) (w : World) (hn : Hid (L.length = n)) (hS : n ≤ 17592186044416) (hl : Hid (RowAt w.heap.size w (.slice ad n cap) L)) :
    Calls Tryd.prog 36 #[.slice ad n cap] w fun e w' => RNorm w w' e (rightB L) (negFrom 0 L) := by
  cases hr : rightB L
  · have hr1 := rright33 L ad n cap w hn hS hl
    rw [hr] at hr1
    clear hr
    go_enter Tryd.func36, Tryd.ntmps36
    go_wp2_with fail
    refine hr1.mono ?_
    rintro e w1 ⟨rfl, hb1⟩
    go_wp2
    go_ret2
    exact RNorm.no rfl hb1
  · exact rneg_ok L ad n cap w hn hl hr
end Go.Proofs.YtjglehklfdhgaaaDoor
