/- HELPERS: the contract of runes.merge. -/
import Derived.Test.YtjglehklfdhgaaaDoorParts
import Derived.Lib.SmallJoins
namespace Go.Proofs.YtjglehklfdhgaaaDoor
open Go.Shelf Go.RowKit Go.Lib Go.Sort Go.Mx
set_option linter.unusedVariables false
set_option linter.unusedSimpArgs false
/-- one range is laid behind others that rise -/
def lastOf (O : List (Int × Int)) : Int × Int := O.getD (O.length - 1) (0, 0)
def mstep (O : List (Int × Int)) (g : Int × Int) : List (Int × Int) :=
  if O.length = 0 then O ++ [g] else if g.1 ≤ (lastOf O).2 + 1 then O.set (O.length - 1) ((lastOf O).1, max (lastOf O).2 g.2) else O ++ [g]
def mergeL (L : List (Int × Int)) : List (Int × Int) := L.foldl mstep []
theorem mergeL_succ (L : List (Int × Int)) (k : Nat) (h : k < L.length) : mergeL (L.take (k + 1)) = mstep (mergeL (L.take k)) (L.getD k (0, 0)) := by
  unfold mergeL
  rw [List.take_succ_eq_append_getElem h, List.foldl_append]
  simp [h]
theorem mstep_len (O : List (Int × Int)) (g : Int × Int) : (mstep O g).length ≤ O.length + 1 := by
  unfold mstep; repeat' split
  all_goals simp
theorem fl_getD (O : List (Int × Int)) : ∀ k, k < O.length → (fl O)[k * 2]? = some (.int .i64 (O.getD k (0, 0)).1) ∧ (fl O)[k * 2 + 1]? = some (.int .i64 (O.getD k (0, 0)).2) := by
  induction O with
  | nil => intro k h; simp at h
  | cons a t ih =>
    intro k h
    have hc : fl (a :: t) = .int .i64 a.1 :: .int .i64 a.2 :: fl t := by simp [fl, encR]
    rw [hc]
    cases k with
    | zero => simp
    | succ k =>
      have := ih k (by simpa using h)
      rw [show (k + 1) * 2 = k * 2 + 2 by omega, show k * 2 + 2 + 1 = k * 2 + 1 + 2 by omega]
      simpa using this
theorem fl_set (O : List (Int × Int)) : ∀ (i : Nat) (m : Int), i < O.length → fl (O.set i ((O.getD i (0, 0)).1, m)) = (fl O).set (i * 2 + 1) (.int .i64 m) := by
  induction O with
  | nil => intro i m h; simp at h
  | cons a t ih =>
    intro i m h
    have hc : ∀ x y, fl (x :: y) = .int .i64 x.1 :: .int .i64 x.2 :: fl y := by intro x y; simp [fl, encR]
    cases i with
    | zero => simp [hc]
    | succ i =>
      have := ih i m (by simpa using h)
      rw [show (i + 1) * 2 + 1 = i * 2 + 1 + 2 by omega]
      simp only [List.set_cons_succ, hc, List.getD_cons_succ]
      rw [this]
theorem getD_mem' (l : List (Int × Int)) (k : Nat) (h : k < l.length) : l.getD k (0, 0) ∈ l := by
  have e : l.getD k (0, 0) = l[k] := by simp [h]
  rw [e]; exact List.getElem_mem h
def bdB (O : List (Int × Int)) : Prop := ∀ g ∈ O, 0 ≤ g.2 ∧ g.2 ≤ 1114111
theorem bdB_last {O : List (Int × Int)} (h : bdB O) (h0 : ¬ O.length = 0) : 0 ≤ (lastOf O).2 ∧ (lastOf O).2 ≤ 1114111 := by
  unfold lastOf
  have hl : O.length - 1 < O.length := by omega
  have hm : O.getD (O.length - 1) (0, 0) ∈ O := getD_mem' O _ hl
  exact h _ hm
theorem bdB_step {O : List (Int × Int)} (h : bdB O) (g : Int × Int) (h0 : 0 ≤ g.2) (h1 : g.2 ≤ 1114111) : bdB (mstep O g) := by
  unfold mstep
  split
  · intro x hx
    rcases List.mem_append.1 hx with hx | hx
    · exact h x hx
    · simp at hx; subst hx; exact ⟨h0, h1⟩
  · split
    · rename_i h2 h3
      intro x hx
      have := bdB_last h h2
      rcases List.mem_or_eq_of_mem_set hx with hx | hx
      · exact h x hx
      · subst hx; simp only; omega
    · intro x hx
      rcases List.mem_append.1 hx with hx | hx
      · exact h x hx
      · simp at hx; subst hx; exact ⟨h0, h1⟩
theorem step_new {O : List (Int × Int)} {g : Int × Int} (h : O.length = 0 ∨ ¬ g.1 ≤ (lastOf O).2 + 1) : mstep O g = O ++ [g] := by
  unfold mstep
  split
  · rfl
  · rename_i h1; exact if_neg (fun h2 => h.elim h1 (fun h3 => h3 h2))
theorem step_join {O : List (Int × Int)} {g : Int × Int} (h0 : ¬ O.length = 0) (h : g.1 ≤ (lastOf O).2 + 1) : mstep O g = O.set (O.length - 1) ((lastOf O).1, max (lastOf O).2 g.2) := by
  unfold mstep
  rw [if_neg h0, if_pos h]
theorem fl_one (O : List (Int × Int)) (lo hi : Int) : fl (O ++ [(lo, hi)]) = fl O ++ [.int .i64 lo, .int .i64 hi] := by simp [fl, encR]
set_option maxHeartbeats 1000000 in
set_option maxRecDepth 1000000 in
theorem merge59 (L : List (Int × Int)) (b off n cap : Nat) (w : World) (hn : Hid (n = L.length)) (hsz : n ≤ 4398046511104)
  (hB : Hid (bdB L))
  (hc0 : ∀ k, k < n → w.cell? ⟨b, off + k * 2, none⟩ = some (.int .i64 (L.getD k (0, 0)).1)) (hc1 : ∀ k, k < n → w.cell? ⟨b, off + k * 2 + 1, none⟩ = some (.int .i64 (L.getD k (0, 0)).2)) (hb : b < w.heap.size) :
    Calls Tryd.prog 59 #[.slice (some ⟨b, off, none⟩) n cap] w fun e w' => ∃ v' , e = .returned v' ∧ w'.ownsRow w.heap.size 57 2 v' (mergeL L).length (fl (mergeL L)) ∧ Below w.heap.size w w' := by
  obtain ⟨i0, hi0, hz0, hz1, hz2⟩ := info_parts info57
  go_enter Tryd.func59, Tryd.ntmps59
  go_wp2
  go_loopw [3, 9] (fun v i wr => ∃ (k : Nat) (O : List (Int × Int)), k ≤ n ∧ O.length ≤ k ∧ i = .int .i64 k ∧ wr.ownsRow w.heap.size 57 2 v O.length (fl O) ∧ Below w.heap.size w wr ∧ Hid (O = mergeL (L.take k) ∧ bdB O))
    (fun _ i _ => n - (intOf i).toNat)
  case atStart => exact ⟨0, [], by omega, by simp, rfl, World.ownsRow_nil _ _ _ _, Below.refl _ _, by exact ⟨rfl, by simp [bdB]⟩⟩
  case round =>
    obtain ⟨k, O, hk, hO, rfl, hown, hbw, HR⟩ := hrel
    have hsz2 := hbw.size
    by_cases hlt : k < n
    · have d0 := (hbw.cell (p := ⟨b, off + k * 2, none⟩) hb).trans (hc0 k hlt)
      have d1 := (hbw.cell (p := ⟨b, off + k * 2 + 1, none⟩) hb).trans (hc1 k hlt)
      have hgB := hB.out (L.getD k (0, 0)) (getD_mem' L k (by rw [← hn.out]; exact hlt))
      have hnext := mergeL_succ L k (by rw [← hn.out]; exact hlt)
      rw [← HR.out.1] at hnext
      generalize L.getD k (0, 0) = g at d0 d1 hgB hnext
      clear hc0 hc1
      obtain ⟨lo, hi⟩ := g
      simp only at d0 d1 hgB
      have HB2 := bdB_step HR.out.2 (lo, hi) hgB.1 hgB.2
      have HN : Hid (mergeL (L.take (k + 1)) = mstep O (lo, hi) ∧ bdB (mstep O (lo, hi))) := ⟨hnext, HB2⟩
      have hle1 := mstep_len O (lo, hi)
      clear hnext HB2 hgB
      rcases Joins.ownsRow_forms hown with ⟨rfl, h0⟩ | ⟨g, cp, rfl⟩
      · have hst := step_new (O := O) (g := (lo, hi)) (.inl h0)
        rw [hst] at HN hle1
        have hO0 : O = [] := List.eq_nil_of_length_eq_zero h0
        subst hO0
        simp only [List.nil_append, List.length_nil, List.length_singleton] at HN hle1 hown hst
        go_wp2
        go_quiet (fail)
        go_wp2_with (at_builtin; refine wpList_append_own _ rfl (.tmp 41) (.tmp 43) 42 rfl w.heap.size 57 i0 (.agg #[.int .i64 0, .int .i64 0]) 2 16 Tryd.underlying42 hi0 hz0 hz1 hz2 rfl (by decide) (.slice none 0 0) 0 _ rfl (World.ownsRow_nil _ _ _ _) ⟨wr.heap.size + 1, 0, none⟩ 1 1 [.int .i64 lo, .int .i64 hi] rfl rfl (by exact news_two _ _ _ _ _ (by simp)) (two_cells_int _ _ _) (by unfold maxLen; omega) (by omega) (by simp; omega) ?_; intro v1 w1 ho1 hg1 _)
        have hb1 : Below w.heap.size w w1 := ((below_drewN (hbw.alloc hsz2 _) nq).alloc (by simp; omega) _).grown hg1 (by simp; omega) (fun k hk => by cases hk)
        go_roundw
        case rel => exact ⟨k + 1, [(lo, hi)], by omega, by simp, by go_num, by simpa [fl, encR] using ho1, hb1, by exact ⟨HN.out.1.symm, HN.out.2⟩⟩
        case measure => simp [intOf]; omega
      · have hbg : g < wr.heap.size := (hown.lt _ rfl).2
        have hbg2 : w.heap.size ≤ g := (hown.lt _ rfl).1
        by_cases h0 : O.length = 0
        · have hst := step_new (O := O) (g := (lo, hi)) (.inl h0)
          rw [hst] at HN hle1
          have hO0 : O = [] := List.eq_nil_of_length_eq_zero h0
          subst hO0
          simp only [List.nil_append, List.length_nil, List.length_singleton] at HN hle1 hown hst
          go_wp2
          go_quiet (fail)
          go_wp2_with (at_builtin; refine wpList_append_own _ rfl (.tmp 41) (.tmp 43) 42 rfl w.heap.size 57 i0 (.agg #[.int .i64 0, .int .i64 0]) 2 16 Tryd.underlying42 hi0 hz0 hz1 hz2 rfl (by decide) (.slice (some ⟨g, 0, none⟩) 0 cp) 0 _ rfl (by exact (show ((wr.alloc _).drewN nq).ownsRow w.heap.size 57 2 _ _ _ from hown.alloc _).alloc _) ⟨wr.heap.size + 1, 0, none⟩ 1 1 [.int .i64 lo, .int .i64 hi] rfl rfl (by exact news_two _ _ _ _ _ (by simp)) (two_cells_int _ _ _) (by unfold maxLen; omega) (by omega) (by simp; omega) ?_; intro v1 w1 ho1 hg1 _)
          have hb1 : Below w.heap.size w w1 := ((below_drewN (hbw.alloc hsz2 _) nq).alloc (by simp; omega) _).grown hg1 (by simp; omega) (fun k hk => by cases hk; exact hbg2)
          go_roundw
          case rel => exact ⟨k + 1, [(lo, hi)], by omega, by simp, by go_num, by simpa [fl, encR] using ho1, hb1, by exact ⟨HN.out.1.symm, HN.out.2⟩⟩
          case measure => simp [intOf]; omega
        · have hlast := hown.cellAt ((O.length - 1) * 2 + 1) (by omega)
          rw [(fl_getD O (O.length - 1) (by omega)).2] at hlast
          have hlb := bdB_last HR.out.2 h0
          have hlast' : wr.cell? ⟨g, (O.length - 1) * 2 + 1, none⟩ = some (.int .i64 (lastOf O).2) := hlast
          clear hlast
          generalize hz : (lastOf O).2 = zh at hlast' hlb
          have HZ : Hid ((lastOf O).2 = zh) := hz
          clear hz
          obtain ⟨hz5, hz6⟩ := hlb
          have h1 : 1 ≤ O.length := by omega
          have hd1 : decide ((1 : Int) ≤ (O.length : Int)) = true := by simp; omega
          by_cases hle : lo ≤ zh + 1
          · have hfz := hown.frozenAt ((O.length - 1) * 2 + 1)
            have hst := step_join (O := O) (g := (lo, hi)) h0 (by rw [HZ.out]; exact hle)
            rw [HZ.out] at hst
            have HST : Hid (mstep O (lo, hi) = O.set (O.length - 1) ((lastOf O).1, max zh hi)) := hst
            clear hst
            go_wp2
            go_quiet (fail)
            go_wp2
            go_region
            all_goals go_wp2
            all_goals go_roundw
            case rel =>
              have hs := (show ((wr.alloc (Obj.cells #[Value.int IntKind.i64 lo, Value.int IntKind.i64 hi] 57)).drewN (nq + 1)).ownsRow w.heap.size 57 2 (.slice (some ⟨g, 0, none⟩) O.length cp) O.length (fl O) from hown.alloc _).stored ((O.length - 1) * 2 + 1) (.int .i64 (max zh hi))
              have hf := fl_set O (O.length - 1) (max zh hi) (by omega)
              refine ⟨k + 1, mstep O (lo, hi), by omega, by omega, by go_num, ?_, ?_, by exact ⟨HN.out.1.symm, HN.out.2⟩⟩
              · rw [HST.out]
                have e : fl (O.set (O.length - 1) ((lastOf O).1, max zh hi)) = (fl O).set ((O.length - 1) * 2 + 1) (.int .i64 (max zh hi)) := hf
                rw [e, List.length_set]
                exact hs.1
              · exact (below_drewN (hbw.alloc hsz2 _) (nq + 1)).setCell (by exact hbg2) _
            case measure => simp [intOf]; omega
          · have hst := step_new (O := O) (g := (lo, hi)) (.inr (by rw [HZ.out]; exact hle))
            rw [hst] at HN hle1
            have hlen : (O ++ [(lo, hi)]).length = O.length + 1 := by simp
            rw [hlen] at hle1
            clear hst hlen
            go_wp2
            go_quiet (fail)
            go_wp2_with (at_builtin; refine wpList_append_own _ rfl (.tmp 41) (.tmp 43) 42 rfl w.heap.size 57 i0 (.agg #[.int .i64 0, .int .i64 0]) 2 16 Tryd.underlying42 hi0 hz0 hz1 hz2 rfl (by decide) (.slice (some ⟨g, 0, none⟩) O.length cp) O.length _ rfl (by exact (show ((wr.alloc _).drewN nq).ownsRow w.heap.size 57 2 _ _ _ from hown.alloc _).alloc _) ⟨wr.heap.size + 1, 0, none⟩ 1 1 [.int .i64 lo, .int .i64 hi] rfl rfl (by exact news_two _ _ _ _ _ (by simp)) (two_cells_int _ _ _) (by unfold maxLen; omega) (by omega) (by simp; omega) ?_; intro v1 w1 ho1 hg1 _)
            have hb1 : Below w.heap.size w w1 := ((below_drewN (hbw.alloc hsz2 _) nq).alloc (by simp; omega) _).grown hg1 (by simp; omega) (fun k hk => by cases hk; exact hbg2)
            go_roundw
            case rel => exact ⟨k + 1, O ++ [(lo, hi)], by omega, by simp; omega, by go_num, by rw [fl_one]; simpa using ho1, hb1, by exact ⟨HN.out.1.symm, HN.out.2⟩⟩
            case measure => simp [intOf]; omega
    · obtain rfl : k = n := by omega
      have hR := HR.out.1
      rw [List.take_of_length_le (by rw [← hn.out]; exact Nat.le_refl _)] at hR
      have HR2 : Hid (O = mergeL L) := hR
      clear hR HR
      go_wp2
      go_ret
      refine ⟨_, rfl, ?_, hbw⟩
      rw [← HR2.out]
      exact hown
end Go.Proofs.YtjglehklfdhgaaaDoor
