/- HELPERS: the contract of runes.Negate. -/
import Derived.Test.YtjglehklfdhgaaaDoorUnion
namespace Go.Proofs.YtjglehklfdhgaaaDoor
open Go.Shelf Go.RowKit Go.Lib Go.Sort Go.Mx
set_option linter.unusedVariables false
set_option linter.unusedSimpArgs false
/-- what lies between ranges, from a number on -/
def negFrom : Int → List (Int × Int) → List (Int × Int)
  | next, [] => if next ≤ 1114111 then [(next, 1114111)] else []
  | next, g :: t => (if next < g.1 then [(next, g.1 - 1)] else []) ++ negFrom (g.2 + 1) t
theorem negFrom_len (L : List (Int × Int)) : ∀ x, (negFrom x L).length ≤ L.length + 1 := by
  induction L with
  | nil => intro x; simp only [negFrom]; split <;> simp
  | cons a t ih => intro x; have := ih (a.2 + 1); simp only [negFrom, List.length_append, List.length_cons]; split <;> simp <;> omega
theorem negFrom_bd (L : List (Int × Int)) : ∀ ls x, rightFrom ls L = true → 0 ≤ x → bdB (negFrom x L) := by
  induction L with
  | nil =>
    intro ls x _ hx g hg
    simp only [negFrom] at hg
    split at hg
    · simp at hg; subst hg; simp
    · simp at hg
  | cons a t ih =>
    intro ls x h hx
    have hd : dom a.1 = true ∧ dom a.2 = true := by simp only [rightFrom, okG, Bool.and_eq_true] at h; exact ⟨h.1.1.1.2, h.1.1.2⟩
    have ht : rightFrom (a.2 + 2) t = true := by simp only [rightFrom, Bool.and_eq_true] at h; exact h.2
    have h0 := hd.1
    have h1 := hd.2
    simp [dom] at h0 h1
    intro g hg
    simp only [negFrom, List.mem_append] at hg
    rcases hg with hg | hg
    · split at hg
      · simp at hg; subst hg; simp only; omega
      · simp at hg
    · exact ih _ _ ht (by omega) g hg
def NegEnd (N : Nat) (w w' : World) (e : Ending) (L : List (Int × Int)) : Prop := if rightB L = true then GatherEnd N w w' e (allParts (negFrom 0 L)) else e = .returned (.tuple #[.slice none 0 0, .int .i64 10]) ∧ Below N w w'
theorem right_at (L : List (Int × Int)) : ∀ (ls : Int) (k : Nat), rightFrom ls L = true → k < L.length → dom (L.getD k (0, 0)).1 = true ∧ dom (L.getD k (0, 0)).2 = true := by
  induction L with
  | nil => intro ls k _ h; simp at h
  | cons a t ih =>
    intro ls k h hk
    cases k with
    | zero => simp only [rightFrom, okG, Bool.and_eq_true] at h; exact ⟨h.1.1.1.2, h.1.1.2⟩
    | succ k => simp only [rightFrom, Bool.and_eq_true] at h; simpa using ih _ k h.2 (by simpa using hk)
theorem row_own {w : World} {B n : Nat} {v : Value} {L : List (Int × Int)} (hn : n = L.length) (h : w.ownsRow B 57 2 v n (fl L)) : RowAt w.heap.size w v L := by
  subst hn
  rcases Joins.ownsRow_forms h with ⟨rfl, h0⟩ | ⟨g, cap, rfl⟩
  · exact ⟨none, 0, by rw [h0], .inl h0⟩
  · refine ⟨_, cap, rfl, .inr ⟨g, 0, rfl, (h.lt _ rfl).2, fun k hk => ?_, fun k hk => ?_⟩⟩
    · rw [Nat.zero_add, h.cellAt (k * 2) (by omega), (fl_getD L k hk).1]
    · rw [Nat.zero_add, h.cellAt (k * 2 + 1) (by omega), (fl_getD L k hk).2]
/-- gather of one list that the call owns -/
theorem gather_own (L : List (Int × Int)) (v : Value) (n : Nat) (w : World) (B : Nat) (hn : n = L.length) (hS : n ≤ 2199023255552) (ho : w.ownsRow B 57 2 v n (fl L)) (hbd : bdB L) :
    Calls Tryd.prog 47 #[.slice (some ⟨w.heap.size, 0, none⟩) 1 1] (w.alloc (.cells #[v] 42)) fun e w' => GatherEnd (w.alloc (.cells #[v] 42)).heap.size (w.alloc (.cells #[v] 42)) w' e (allParts L) := by
  have hfl : [L].flatten = L := by simp
  have hcell : (w.alloc (.cells #[v] 42)).cell? ⟨w.heap.size, 0 + 0, none⟩ = some v := (World.cell?_alloc_at _ _ _ 0 rfl).trans rfl
  have hrow : RowAt (w.alloc (.cells #[v] 42)).heap.size (w.alloc (.cells #[v] 42)) v L := (row_own hn ho).below ((Below.refl _ _).alloc (Nat.le_refl _) _) (Nat.le_refl _) (by simp)
  have hg := gather47 [L] w.heap.size 0 1 1 n (w.alloc (.cells #[v] 42)) rfl (by show ([L].flatten).length ≤ n; rw [hfl, ← hn]; exact Nat.le_refl _) hS (by omega) (by show bdB [L].flatten; rw [hfl]; exact hbd) (by simp)
    (by intro j hj
        obtain rfl : j = 0 := by omega
        exact ⟨_, hcell, hrow⟩)
  rw [hfl] at hg
  exact hg
set_option maxHeartbeats 3000000 in
set_option maxRecDepth 1000000 in
theorem negate_ok (L : List (Int × Int)) (ad : Option Addr) (n cap : Nat) (w : World) (hn : Hid (n = L.length)) (hl : Hid (RowAt w.heap.size w (.slice ad n cap) L)) (hr : Hid (rightB L = true)) :
    Calls Tryd.prog 28 #[.slice ad n cap] w fun e w' => GatherEnd w.heap.size w w' e (allParts (negFrom 0 L)) := by
  have hlen := rightB_len hr.out
  rw [← hn.out] at hlen
  have hr1 := right25 L ad n cap w hn.out (by omega) hl.out
  rw [hr.out] at hr1
  obtain ⟨i0, hi0, hz0, hz1, hz2⟩ := info_parts info57
  go_enter Tryd.func28, Tryd.ntmps28
  go_wp2_with (first | (go_at_call 25; refine hr1.mono ?_; rintro e w1 ⟨rfl, hb1⟩; have hs1 := hb1.size) | (at_make; refine wpList_make_own _ rfl _ (.tmp 13) 42 rfl w.heap.size 57 i0 (.agg #[.int .i64 0, .int .i64 0]) 2 Tryd.underlying42 hi0 hz0 hz1 _ _ _ (n + 1) rfl rfl (by omega) (by rw [hz2]; omega) (by unfold maxLen; omega) hs1 ?_; intro w2 hown2 hgrow2))
  have hb2 : Below w.heap.size w w2 := hb1.grown hgrow2 hs1 (fun k h => by cases h)
  have hs2 := hb2.size
  clear hgrow2 hr1
  go_loopw [4, 5, 17] (fun v nx i wr => ∃ (k m : Nat) (x : Int) (P : List (Int × Int)), k ≤ n ∧ m ≤ k ∧ 0 ≤ x ∧ x ≤ 1114112 ∧ nx = .int .i64 x ∧ i = .int .i64 k ∧ wr.ownsRow w.heap.size 57 2 v m (fl P) ∧ Below w.heap.size w wr ∧ Hid (P ++ negFrom x (L.drop k) = negFrom 0 L ∧ m = P.length))
    (fun _ _ i _ => n - (intOf i).toNat)
  case atStart => exact ⟨0, 0, 0, [], by omega, by omega, by omega, by omega, rfl, rfl, hown2, hb2, by exact ⟨rfl, rfl⟩⟩
  case round =>
    obtain ⟨k, m, x, P, hk, hm, hx0, hx1, rfl, rfl, hown, hbw, HR⟩ := hrel
    have hsz := hbw.size
    by_cases hlt : k < n
    · obtain ⟨ad', cap', he, h | ⟨b, off, rfl, hbN, hc0, hc1⟩⟩ := hl.out
      · exact absurd h (by rw [← hn.out]; omega)
      · have hn' := hn.out
        simp only [Value.slice.injEq] at he
        obtain ⟨rfl, -, rfl⟩ := he
        have d0 := (hbw.cell (p := ⟨b, off + k * 2, none⟩) hbN).trans (hc0 k (by omega))
        have d1 := (hbw.cell (p := ⟨b, off + k * 2 + 1, none⟩) hbN).trans (hc1 k (by omega))
        have hdr := drop_consR L k (by omega)
        have hdm := right_at L 0 k (by have := hr.out; unfold rightB at this; rw [Bool.and_eq_true] at this; exact this.2) (by omega)
        have hR := HR.out
        rw [hdr] at hR
        generalize L.getD k (0, 0) = g at d0 d1 hR hdm
        obtain ⟨lo, hi⟩ := g
        simp only at d0 d1 hdm
        obtain ⟨hl0, hl1⟩ : 0 ≤ lo ∧ lo ≤ 1114111 := by have := hdm.1; simp [dom] at this; omega
        obtain ⟨hh0, hh1⟩ : 0 ≤ hi ∧ hi ≤ 1114111 := by have := hdm.2; simp [dom] at this; omega
        have HR2 : Hid (P ++ ((if x < lo then [(x, lo - 1)] else []) ++ negFrom (hi + 1) (L.drop (k + 1))) = negFrom 0 L ∧ m = P.length) := hR
        clear hdr hR HR hc0 hc1 hn' hdm
        by_cases hxl : x < lo
        · have hR3 := HR2.out
          rw [if_pos hxl] at hR3
          have HR3 : Hid (P ++ [(x, lo - 1)] ++ negFrom (hi + 1) (L.drop (k + 1)) = negFrom 0 L ∧ m = P.length) := ⟨by rw [List.append_assoc]; exact hR3.1, hR3.2⟩
          clear hR3
          go_wp2_with (at_builtin; refine wpList_append_own _ rfl (.tmp 25) (.tmp 31) 42 rfl w.heap.size 57 i0 (.agg #[.int .i64 0, .int .i64 0]) 2 16 Tryd.underlying42 hi0 hz0 hz1 hz2 rfl (by decide) _ m _ rfl ((hown.alloc _).alloc _) ⟨wr.heap.size + 1, 0, none⟩ 1 1 [.int .i64 x, .int .i64 (lo - 1)] rfl rfl (by exact news_two _ _ _ _ _ (by simp)) (two_cells_int _ _ _) (by unfold maxLen; omega) (by omega) (by simp; omega) ?_; intro v1 w3 ho3 hg3 _; obtain ⟨c0, c1⟩ := box_kept hown hg3; have hb3 := hbw.trans (below_append hown hsz hg3); clear hg3)
          go_roundw
          case rel => exact ⟨k + 1, m + 1, hi + 1, P ++ [(x, lo - 1)], by omega, by omega, by omega, by omega, rfl, by go_num, by rw [fl_one]; exact ho3, hb3, by exact ⟨HR3.out.1, by rw [List.length_append, ← HR3.out.2]; rfl⟩⟩
          case measure => simp [intOf]; omega
        · have hR3 := HR2.out
          rw [if_neg hxl] at hR3
          have HR3 : Hid (P ++ negFrom (hi + 1) (L.drop (k + 1)) = negFrom 0 L ∧ m = P.length) := hR3
          clear hR3
          go_wp2
          go_roundw
          case rel => exact ⟨k + 1, m, hi + 1, P, by omega, by omega, by omega, by omega, rfl, by go_num, hown.alloc _, hbw.alloc hsz _, HR3⟩
          case measure => simp [intOf]; omega
    · obtain rfl : k = n := by omega
      have hR := HR.out
      rw [List.drop_of_length_le (by rw [← hn.out]; exact Nat.le_refl _)] at hR
      have hbd : bdB (negFrom 0 L) := negFrom_bd L 0 0 (by have := hr.out; unfold rightB at this; rw [Bool.and_eq_true] at this; exact this.2) (by omega)
      have hnl := negFrom_len L 0
      rw [← hn.out] at hnl
      have HR2 : Hid (P ++ (if x ≤ 1114111 then [(x, 1114111)] else []) = negFrom 0 L ∧ m = P.length) := hR
      have HBD : Hid (bdB (negFrom 0 L)) := hbd
      clear hR HR hbd
      by_cases hxm : x ≤ 1114111
      · have hR3 := HR2.out
        rw [if_pos hxm] at hR3
        have HR3 : Hid (P ++ [(x, 1114111)] = negFrom 0 L ∧ m = P.length) := hR3
        clear hR3
        go_wp2_with (at_builtin; refine wpList_append_own _ rfl (.tmp 39) (.tmp 42) 42 rfl w.heap.size 57 i0 (.agg #[.int .i64 0, .int .i64 0]) 2 16 Tryd.underlying42 hi0 hz0 hz1 hz2 rfl (by decide) _ m _ rfl (hown.alloc _) ⟨wr.heap.size, 0, none⟩ 1 1 [.int .i64 x, .int .i64 1114111] rfl rfl (by exact news_two _ _ _ _ _ rfl) (two_cells_int _ _ _) (by unfold maxLen; omega) (by omega) (by simp; omega) ?_; intro v1 w3 ho3 hg3 _; obtain ⟨g1, cp1, rfl⟩ := Joins.ownsRow_form ho3 (by omega); have hb3 := hbw.trans (below_append1 hown hsz hg3); clear hg3)
        have hs3 := hb3.size
        have ho4 : w3.ownsRow w.heap.size 57 2 (.slice (some ⟨g1, 0, none⟩) (m + 1) cp1) (m + 1) (fl (negFrom 0 L)) := by rw [← HR3.out.1, fl_one]; exact ho3
        have hml : m + 1 = (negFrom 0 L).length := by rw [← HR3.out.1, List.length_append, ← HR3.out.2]; rfl
        have hg := gather_own (negFrom 0 L) _ (m + 1) w3 w.heap.size hml (by omega) ho4 HBD.out
        clear ho3 ho4 hml
        refine hg.mono ?_
        intro e w4 hG
        obtain ⟨v4, c4, rfl⟩ := hG.form
        go_wp2
        go_ret2
        exact hG.low (hb3.alloc hs3 _) (by simp; omega)
      · have hR3 := HR2.out
        rw [if_neg hxm, List.append_nil] at hR3
        have hml : m = (negFrom 0 L).length := by rw [← hR3.1]; exact hR3.2
        rcases Joins.ownsRow_forms hown with ⟨rfl, h0⟩ | ⟨g1, cp1, rfl⟩
        · have hg := gather_own (negFrom 0 L) _ m wr w.heap.size hml (by omega) (by rw [← hR3.1]; exact hown) HBD.out
          clear hml hR3
          go_wp2_with (go_at_call 47; refine hg.mono ?_; intro e w4 hG; obtain ⟨v4, c4, rfl⟩ := hG.form)
          go_ret2
          exact hG.low (hbw.alloc hsz _) (by simp; omega)
        · have hg := gather_own (negFrom 0 L) _ m wr w.heap.size hml (by omega) (by rw [← hR3.1]; exact hown) HBD.out
          clear hml hR3
          go_wp2_with (go_at_call 47; refine hg.mono ?_; intro e w4 hG; obtain ⟨v4, c4, rfl⟩ := hG.form)
          go_ret2
          exact hG.low (hbw.alloc hsz _) (by simp; omega)
set_option maxHeartbeats 1000000 in
theorem negate_bad (L : List (Int × Int)) (ad : Option Addr) (n cap : Nat) (w : World) (hn : Hid (n = L.length)) (hS2 : n ≤ 17592186044416) (hl : Hid (RowAt w.heap.size w (.slice ad n cap) L)) (hr : Hid (rightB L = false)) :
    Calls Tryd.prog 28 #[.slice ad n cap] w fun e w' => e = .returned (.tuple #[.slice none 0 0, .int .i64 10]) ∧ Below w.heap.size w w' := by
  have hr1 := right25 L ad n cap w hn.out hS2 hl.out
  rw [hr.out] at hr1
  go_enter Tryd.func28, Tryd.ntmps28
  go_wp2_with (go_at_call 25; refine hr1.mono ?_; rintro e w1 ⟨rfl, hb1⟩)
  go_ret2
  exact ⟨rfl, hb1⟩
theorem negate28 (L : List (Int × Int)) (ad : Option Addr) (n cap : Nat) (w : World) (hn : n = L.length) (hS2 : n ≤ 17592186044416) (hl : RowAt w.heap.size w (.slice ad n cap) L) :
    Calls Tryd.prog 28 #[.slice ad n cap] w fun e w' => NegEnd w.heap.size w w' e L := by
  unfold NegEnd
  cases hr : rightB L
  · simp only [Bool.false_eq_true, if_false]
    exact negate_bad L ad n cap w hn hS2 hl hr
  · simp only [if_true]
    exact negate_ok L ad n cap w hn hl hr
end Go.Proofs.YtjglehklfdhgaaaDoor
