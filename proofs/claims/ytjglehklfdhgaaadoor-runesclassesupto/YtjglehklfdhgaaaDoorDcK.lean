/- HELPERS: the document's side of classes: Fold. -/
import Derived.Test.YtjglehklfdhgaaaDoorDcG
import Derived.Test.YtjglehklfdhgaaaDoorDcH
namespace Go.Proofs.YtjglehklfdhgaaaDoor
open Go.RowKit Go.Mx
set_option linter.unusedVariables false
set_option linter.unusedSimpArgs false
set_option maxHeartbeats 8000000 in
set_option maxRecDepth 1000000 in
theorem rfold_ok (L : List (Int × Int)) (ad : Option Addr) (n cap : Nat) (w : World) (hn : Hid (L.length = n)) (hl : Hid (RowAt w.heap.size w (.slice ad n cap) L)) (hcn : Hid (ad = none → cap = 0)) (hr : Hid (rightB L = true)) :
    Calls Tryd.prog 37 #[.slice ad n cap] w fun e w' => RNorm w w' e true (L ++ foldL L 26) := by
  have hlen := rightB_len hr.out
  rw [hn.out] at hlen
  have hr1 := rright33 L ad n cap w hn (by omega) hl
  rw [hr.out] at hr1
  obtain ⟨i0, hi0, hz0, hz1, hz2⟩ := info_parts info57
  have hin : ∀ w1 r, Below w.heap.size w w1 → Calls Tryd.prog 52 #[.slice ad n cap, .int .i64 r] w1 fun e w' => e = .returned (.bool (hasB L r)) ∧ w' = w1 := fun w1 r hb1 =>
    in52 L ad n cap r w1 w1.heap.size (by show n = L.length; exact hn.out.symm) (by omega) (hl.out.below hb1 (Nat.le_refl _) hb1.size)
  have HIN : Hid (∀ w1 r, Below w.heap.size w w1 → Calls Tryd.prog 52 #[.slice ad n cap, .int .i64 r] w1 fun e w' => e = .returned (.bool (hasB L r)) ∧ w' = w1) := hin
  clear hin
  go_enter Tryd.func37, Tryd.ntmps37
  go_wp2_with fail
  refine hr1.mono ?_
  rintro e w1 ⟨rfl, hb1⟩
  have hs1 := hb1.size
  clear hr1
  go_wp2_with fail
  refine (both54 L [] ad none n 0 cap 0 w1 hn rfl (by omega) (by omega) (hl.out.below hb1 (Nat.le_refl _) hs1) ⟨none, 0, rfl, .inl rfl⟩ hcn (fun _ => rfl)).mono ?_
  rintro e w2 ⟨v0, rfl, ho2, hb2⟩
  have hb3 : Below w.heap.size w w2 := hb1.trans (hb2.mono hs1)
  have HO2 : Hid (w2.ownsRow w.heap.size 57 2 v0 (n + 0) (fl (L ++ foldL L 0))) := by
    show w2.ownsRow _ _ _ _ _ _
    have h := own_low ho2 hs1
    rw [List.length_append, hn.out] at h
    exact h
  clear hb1 hb2 hs1 ho2
  go_wp2
  go_loopw [5, 6] (fun v cx wr => ∃ (k m : Nat) (c : Int) (v' : Value), k ≤ 26 ∧ m ≤ 2 * k ∧ 97 ≤ c ∧ c ≤ 123 ∧ cx = .int .i32 c ∧ v' = v ∧ wr.ownsRow w.heap.size 57 2 v' (n + m) (fl (L ++ foldL L k)) ∧ Below w.heap.size w wr ∧ Hid (c = 97 + (k : Int) ∧ m = (foldL L k).length))
    (fun _ cx _ => (123 - intOf cx).toNat)
  case atStart => exact ⟨0, 0, 97, v0, by omega, by omega, by omega, by omega, rfl, rfl, HO2.out, hb3, by exact ⟨rfl, rfl⟩⟩
  case round =>
    clear HO2 hb3
    obtain ⟨k, m, c, v, hk, hm, hc0, hc1, rfl, rfl, hown, hbw, HR⟩ := hrel
    have hsz := hbw.size
    by_cases hlt : c ≤ 122
    · have h1 := HIN.out wr c hbw
      have h2 := HIN.out wr (c - 32) hbw
      have hk2 : k + 1 ≤ 26 := by have := HR.out.1; omega
      have HF : Hid (foldL L (k + 1) = foldL L k ++ (if hasB L c = true then [(c - 32, c - 32)] else []) ++ (if hasB L (c - 32) = true then [(c, c)] else [])) := by
        show _ = _
        rw [HR.out.1]
        exact foldL_succ L k
      have HC : Hid (c + 1 = 97 + ((k + 1 : Nat) : Int)) := by
        show _ = _
        rw [HR.out.1]
        omega
      have HM : Hid (m = (foldL L k).length) := HR.out.2
      clear HR
      generalize hasB L c = t1 at h1 HF
      generalize hasB L (c - 32) = t2 at h2 HF
      cases t1
      · cases t2
        · have HE : Hid (foldL L (k + 1) = foldL L k) := by
            show _ = _
            rw [HF.out]; simp
          clear HF
          go_wp2_with (first | (go_at_call_of 52 (Value.int .i64 c); refine h1.mono ?_; rintro e w' ⟨rfl, hww⟩; have hww := hww.symm; subst hww) | (go_at_call 52; refine h2.mono ?_; rintro e w' ⟨rfl, rfl⟩))
          go_roundw
          case rel => exact ⟨k + 1, m, c + 1, v, by omega, by omega, by omega, by omega, rfl, rfl, by rw [HE.out]; exact hown, hbw, by exact ⟨HC.out, by rw [HE.out]; exact HM.out⟩⟩
          case measure => simp [intOf]; omega
        · have HE : Hid (foldL L (k + 1) = foldL L k ++ [(c, c)]) := by
            show _ = _
            rw [HF.out]; simp
          clear HF
          go_wp2_with (first | (go_at_call_of 52 (Value.int .i64 c); refine h1.mono ?_; rintro e w' ⟨rfl, hww⟩; have hww := hww.symm; subst hww) | (go_at_call 52; refine h2.mono ?_; rintro e w' ⟨rfl, hww⟩; have hww := hww.symm; subst hww) | (at_builtin; refine wpList_append_own _ rfl (.tmp 40) (.tmp 46) 42 rfl w.heap.size 57 i0 (.agg #[.int .i64 0, .int .i64 0]) 2 16 Tryd.underlying42 hi0 hz0 hz1 hz2 rfl (by decide) v (n + m) _ rfl (hown.alloc _) ⟨wr.heap.size, 0, none⟩ 1 1 [.int .i64 c, .int .i64 c] rfl rfl (by exact news_two _ _ _ _ _ (by simp)) (two_cells_int _ _ _) (by unfold maxLen; omega) (by omega) (by simp; omega) ?_))
          intro v5 w5 ho5 hg5 _
          have hb5 : Below w.heap.size w w5 := hbw.trans (below_append1 hown hsz hg5)
          have HO5 : Hid (w5.ownsRow w.heap.size 57 2 v5 (n + (m + 1)) (fl (L ++ (foldL L k ++ [(c, c)])))) := by
            show w5.ownsRow _ _ _ _ _ _
            rw [← List.append_assoc, fl_one]; exact ho5
          clear ho5 hg5
          go_wp2
          go_roundw
          case rel => exact ⟨k + 1, (m + 1), c + 1, v5, by omega, by omega, by omega, by omega, rfl, rfl, by rw [HE.out]; exact HO5.out, hb5, by exact ⟨HC.out, by rw [HE.out, HM.out]; simp⟩⟩
          case measure => simp [intOf]; omega
      · cases t2
        · have HE : Hid (foldL L (k + 1) = foldL L k ++ [(c - 32, c - 32)]) := by
            show _ = _
            rw [HF.out]; simp
          clear HF
          go_wp2_with (first | (go_at_call_of 52 (Value.int .i64 c); refine h1.mono ?_; rintro e w' ⟨rfl, hww⟩; have hww := hww.symm; subst hww) | (go_at_call 52; refine h2.mono ?_; rintro e w' ⟨rfl, hww⟩; have hww := hww.symm; subst hww) | (at_builtin; refine wpList_append_own _ rfl (.tmp 29) (.tmp 37) 42 rfl w.heap.size 57 i0 (.agg #[.int .i64 0, .int .i64 0]) 2 16 Tryd.underlying42 hi0 hz0 hz1 hz2 rfl (by decide) v (n + m) _ rfl (hown.alloc _) ⟨wr.heap.size, 0, none⟩ 1 1 [.int .i64 (c - 32), .int .i64 (c - 32)] rfl rfl (by exact news_two _ _ _ _ _ (by simp)) (two_cells_int _ _ _) (by unfold maxLen; omega) (by omega) (by simp; omega) ?_))
          intro v1 w3 ho3 hg3 _
          have hb3 : Below w.heap.size w w3 := hbw.trans (below_append1 hown hsz hg3)
          have hs3 := hb3.size
          have HO3 : Hid (w3.ownsRow w.heap.size 57 2 v1 (n + (m + 1)) (fl (L ++ (foldL L k ++ [(c - 32, c - 32)])))) := by
            show w3.ownsRow _ _ _ _ _ _
            rw [← List.append_assoc, fl_one]; exact ho3
          have ho4 := HO3.out
          clear ho3 hg3
          go_wp2
          go_roundw
          case rel => exact ⟨k + 1, (m + 1), c + 1, v1, by omega, by omega, by omega, by omega, rfl, rfl, by rw [HE.out]; exact HO3.out, hb3, by exact ⟨HC.out, by rw [HE.out, HM.out]; simp⟩⟩
          case measure => simp [intOf]; omega
        · have HE : Hid (foldL L (k + 1) = foldL L k ++ [(c - 32, c - 32)] ++ [(c, c)]) := by
            show _ = _
            rw [HF.out]; simp
          clear HF
          go_wp2_with (first | (go_at_call_of 52 (Value.int .i64 c); refine h1.mono ?_; rintro e w' ⟨rfl, hww⟩; have hww := hww.symm; subst hww) | (go_at_call 52; refine h2.mono ?_; rintro e w' ⟨rfl, hww⟩; have hww := hww.symm; subst hww) | (at_builtin; refine wpList_append_own _ rfl (.tmp 29) (.tmp 37) 42 rfl w.heap.size 57 i0 (.agg #[.int .i64 0, .int .i64 0]) 2 16 Tryd.underlying42 hi0 hz0 hz1 hz2 rfl (by decide) v (n + m) _ rfl (hown.alloc _) ⟨wr.heap.size, 0, none⟩ 1 1 [.int .i64 (c - 32), .int .i64 (c - 32)] rfl rfl (by exact news_two _ _ _ _ _ (by simp)) (two_cells_int _ _ _) (by unfold maxLen; omega) (by omega) (by simp; omega) ?_))
          intro v1 w3 ho3 hg3 _
          have hb3 : Below w.heap.size w w3 := hbw.trans (below_append1 hown hsz hg3)
          have hs3 := hb3.size
          have HO3 : Hid (w3.ownsRow w.heap.size 57 2 v1 (n + (m + 1)) (fl (L ++ (foldL L k ++ [(c - 32, c - 32)])))) := by
            show w3.ownsRow _ _ _ _ _ _
            rw [← List.append_assoc, fl_one]; exact ho3
          have ho4 := HO3.out
          clear ho3 hg3
          go_wp2_with (first | (go_at_call_of 52 (Value.int .i64 c); refine h1.mono ?_; rintro e w' ⟨rfl, hww⟩; have hww := hww.symm; subst hww) | (go_at_call 52; refine h2.mono ?_; rintro e w' ⟨rfl, hww⟩; have hww := hww.symm; subst hww) | (at_builtin; refine wpList_append_own _ rfl (.tmp 40) (.tmp 46) 42 rfl w.heap.size 57 i0 (.agg #[.int .i64 0, .int .i64 0]) 2 16 Tryd.underlying42 hi0 hz0 hz1 hz2 rfl (by decide) v1 (n + (m + 1)) _ rfl (ho4.alloc _) ⟨w3.heap.size, 0, none⟩ 1 1 [.int .i64 c, .int .i64 c] rfl rfl (by exact news_two _ _ _ _ _ (by simp)) (two_cells_int _ _ _) (by unfold maxLen; omega) (by omega) (by simp; omega) ?_))
          intro v5 w5 ho5 hg5 _
          have hb5 : Below w.heap.size w w5 := hb3.trans (below_append1 ho4 hs3 hg5)
          have HO5 : Hid (w5.ownsRow w.heap.size 57 2 v5 (n + ((m + 1) + 1)) (fl (L ++ ((foldL L k ++ [(c - 32, c - 32)]) ++ [(c, c)])))) := by
            show w5.ownsRow _ _ _ _ _ _
            rw [← List.append_assoc, fl_one]; exact ho5
          clear ho5 hg5
          go_wp2
          go_roundw
          case rel => exact ⟨k + 1, ((m + 1) + 1), c + 1, v5, by omega, by omega, by omega, by omega, rfl, rfl, by rw [HE.out]; exact HO5.out, hb5, by exact ⟨HC.out, by rw [HE.out, HM.out]; simp⟩⟩
          case measure => simp [intOf]; omega
    · have hk26 : k = 26 := by have := HR.out.1; omega
      subst hk26
      have HLN : Hid ((L ++ foldL L 26).length = n + m) := by
        show _ = _
        rw [List.length_append, hn.out, ← HR.out.2]
      have hcl := class_own (L ++ foldL L 26) v (n + m) wr w.heap.size HLN.out (by omega) hown
      clear HR HLN
      go_wp2_with fail
      refine hcl.mono ?_
      intro e w4 hC
      obtain ⟨v4, c4, rfl⟩ := hC.form
      go_wp2
      go_ret2
      exact RNorm.yes rfl (hC.low hbw)
set_option maxHeartbeats 1000000 in
theorem rfold37 (L : List (Int × Int)) (ad : Option Addr) (n cap : Nat) (w : World) (hn : Hid (L.length = n)) (hS : n ≤ 17592186044416) (hl : Hid (RowAt w.heap.size w (.slice ad n cap) L)) (hcn : Hid (ad = none → cap = 0)) :
    Calls Tryd.prog 37 #[.slice ad n cap] w fun e w' => RNorm w w' e (rightB L) (L ++ foldL L 26) := by
  cases hr : rightB L
  · have hr1 := rright33 L ad n cap w hn hS hl
    rw [hr] at hr1
    clear hr
    go_enter Tryd.func37, Tryd.ntmps37
    go_wp2_with fail
    refine hr1.mono ?_
    rintro e w1 ⟨rfl, hb1⟩
    go_wp2
    go_ret2
    exact RNorm.no rfl hb1
  · exact rfold_ok L ad n cap w hn hl hcn hr
end Go.Proofs.YtjglehklfdhgaaaDoor
