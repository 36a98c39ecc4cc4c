/- HELPERS: the document's side of classes: lay. -/
import Derived.Test.YtjglehklfdhgaaaDoorDcA
namespace Go.Proofs.YtjglehklfdhgaaaDoor
open Go.RowKit Go.Mx
set_option linter.unusedVariables false
set_option linter.unusedSimpArgs false
def inB (L : List (Int × Int)) : Prop := ∀ g ∈ L, (0 ≤ g.1 ∧ g.1 ≤ 1114111) ∧ 0 ≤ g.2 ∧ g.2 ≤ 1114111
theorem own_kept2 {w w' : World} {base e n size : Nat} {v : Value} {xs : List Value} (h : w.ownsRow base e size v n xs) (hk : ∀ b, v.ownBlock = some b → w'.heap[b]? = w.heap[b]?) : w'.ownsRow base e size v n xs := by
  refine ⟨h.1, ?_⟩
  rcases h.2 with hn | ⟨g, cap, cur, hv, hb, hg, rest⟩
  · exact .inl hn
  · exact .inr ⟨g, cap, cur, hv, hb, by rw [hk g (by rw [hv]; rfl)]; exact hg, rest⟩
theorem mem_at (L : List (Int × Int)) (k : Nat) (h : k < L.length) : L.getD k (0, 0) ∈ L := by
  have e : L.getD k (0, 0) = L[k] := by simp [h]
  rw [e]; exact List.getElem_mem _
theorem take_at (L : List (Int × Int)) (k : Nat) (h : k < L.length) : L.take (k + 1) = L.take k ++ [L.getD k (0, 0)] := by
  rw [List.take_succ_eq_append_getElem h]; simp [h]
theorem lay_next (L : List (Int × Int)) (x : Int × Int) (k : Nat) (h : k < L.length) (h2 : (L.getD k (0, 0)).2 < x.1 - 1) (e : layL L x = L.take k ++ layL (L.drop k) x) : layL L x = L.take (k + 1) ++ layL (L.drop (k + 1)) x := by
  rw [e, drop_consR L k h, take_at L k h]
  conv => lhs; rw [layL, if_pos h2]
  simp
theorem lay_stop (L : List (Int × Int)) (x : Int × Int) (k : Nat) (h2 : k < L.length → ¬ (L.getD k (0, 0)).2 < x.1 - 1) (e : layL L x = L.take k ++ layL (L.drop k) x) : layL L x = L.take k ++ ((eat x (L.drop k)).1 :: (eat x (L.drop k)).2) := by
  rw [e]
  by_cases h : k < L.length
  · rw [drop_consR L k h]
    conv => lhs; rw [layL, if_neg (h2 h)]
  · rw [List.drop_of_length_le (by omega)]
    rfl
theorem eat_next (L : List (Int × Int)) (y : Int × Int) (j : Nat) (h : j < L.length) (h2 : (L.getD j (0, 0)).1 ≤ y.2 + 1) : eat y (L.drop j) = eat (min y.1 (L.getD j (0, 0)).1, max y.2 (L.getD j (0, 0)).2) (L.drop (j + 1)) := by
  rw [drop_consR L j h]
  conv => lhs; rw [eat, if_pos h2]
theorem eat_stop (L : List (Int × Int)) (y : Int × Int) (j : Nat) (h2 : j < L.length → ¬ (L.getD j (0, 0)).1 ≤ y.2 + 1) : eat y (L.drop j) = (y, L.drop j) := by
  by_cases h : j < L.length
  · rw [drop_consR L j h]
    conv => lhs; rw [eat, if_neg (h2 h)]
  · rw [List.drop_of_length_le (by omega)]
    rfl
theorem own_low {w : World} {B B' e n size : Nat} {v : Value} {xs : List Value} (h : w.ownsRow B e size v n xs) (hB : B' ≤ B) : w.ownsRow B' e size v n xs := by
  refine ⟨h.1, ?_⟩
  rcases h.2 with hn | ⟨g, cap, cur, hv, hb, rest⟩
  · exact .inl hn
  · exact .inr ⟨g, cap, cur, hv, by omega, rest⟩
/-- the second loop of lay: the box, what was put out, the rest -/
structure L2 (w : World) (L : List (Int × Int)) (x : Int × Int) (k j : Nat) (v : Value) (y : Int × Int) (wr : World) : Prop where
  box : wr.heap[w.heap.size]? = some (.cells [Value.int .i64 y.1, .int .i64 y.2].toArray 57 (0, 0))
  own : wr.ownsRow (w.heap.size + 1) 57 2 v k (fl (L.take k))
  bel : Below w.heap.size w wr
  eat : eat x (L.drop k) = eat y (L.drop j)
theorem L2.set {w : World} {L : List (Int × Int)} {x : Int × Int} {k j : Nat} {v : Value} {y : Int × Int} {wr : World} (h : L2 w L x k j v y wr) (hj : j < L.length) (h2 : (L.getD j (0, 0)).1 ≤ y.2 + 1) :
    L2 w L x k (j + 1) v (min y.1 (L.getD j (0, 0)).1, max y.2 (L.getD j (0, 0)).2) ((wr.setCell ⟨w.heap.size, 0, none⟩ (.int .i64 (min y.1 (L.getD j (0, 0)).1))).setCell ⟨w.heap.size, 1, none⟩ (.int .i64 (max y.2 (L.getD j (0, 0)).2))) := by
  have e1 := heap_setCell_same wr w.heap.size 0 _ 57 (.int .i64 (min y.1 (L.getD j (0, 0)).1)) h.box
  have e2 := heap_setCell_same _ w.heap.size 1 _ 57 (.int .i64 (max y.2 (L.getD j (0, 0)).2)) e1
  refine ⟨?_, own_kept2 h.own (fun b hb => ?_), (h.bel.setCell (Nat.le_refl _) _).setCell (Nat.le_refl _) _, ?_⟩
  · rw [e2]; rfl
  · have hne : b ≠ w.heap.size := by have := (h.own.lt b hb).1; omega
    rw [heap_setCell_other _ ⟨w.heap.size, 1, none⟩ b _ hne, heap_setCell_other _ ⟨w.heap.size, 0, none⟩ b _ hne]
  · rw [h.eat]; exact eat_next L y j hj h2
theorem L2.drew {w : World} {L : List (Int × Int)} {x : Int × Int} {k j : Nat} {v : Value} {y : Int × Int} {wr : World} (h : L2 w L x k j v y wr) (q : Nat) : L2 w L x k j v y (wr.drewN q) :=
  ⟨((below_drewN (Below.refl wr.heap.size wr) q).block _ (by
      rcases Nat.lt_or_ge w.heap.size wr.heap.size with h1 | h1
      · exact h1
      · have := h.box; rw [Array.getElem?_eq_none h1] at this; cases this)).trans h.box,
   own_kept2 h.own (fun b hb => (below_drewN (Below.refl wr.heap.size wr) q).block b (h.own.lt b hb).2), below_drewN h.bel q, h.eat⟩
theorem two_of_fl (L : List (Int × Int)) : ∀ u ∈ fl L, u.oneCell' = true := by
  intro u hu
  simp only [fl, List.mem_flatMap, encR] at hu
  obtain ⟨g, _, hu⟩ := hu
  simp at hu
  rcases hu with rfl | rfl <;> rfl
theorem drop_cells {w : World} {b off n : Nat} {L : List (Int × Int)} (h0 : ∀ k, k < L.length → w.cell? ⟨b, off + k * 2, none⟩ = some (.int .i64 (L.getD k (0, 0)).1)) (h1 : ∀ k, k < L.length → w.cell? ⟨b, off + k * 2 + 1, none⟩ = some (.int .i64 (L.getD k (0, 0)).2)) (hn : L.length = n) (j : Nat) :
    ∀ (i : Nat) (u : Value), (fl (L.drop j))[i]? = some u → w.cell? ((⟨b, off + j * 2, none⟩ : Addr).add i) = some u := by
  intro i u hu
  have hi : i < (L.drop j).length * 2 := by
    have := (List.getElem?_eq_some_iff.1 hu).1
    rw [fl_len] at this
    exact this
  have hlen : (L.drop j).length = L.length - j := List.length_drop ..
  have e : (⟨b, off + j * 2, none⟩ : Addr).add i = ⟨b, off + j * 2 + i, none⟩ := by unfold Addr.add; split <;> simp_all
  have hg := fl_getD (L.drop j) (i / 2) (by omega)
  have hgd : (L.drop j).getD (i / 2) (0, 0) = L.getD (j + i / 2) (0, 0) := by simp [List.getD_eq_getElem?_getD, List.getElem?_drop]
  rw [hgd] at hg
  rw [e]
  by_cases h2 : i % 2 = 0
  · have e1 : i / 2 * 2 = i := by omega
    rw [e1] at hg
    rw [hg.1] at hu
    rw [← hu, ← h0 (j + i / 2) (by omega)]
    congr 2
    omega
  · have e1 : i / 2 * 2 + 1 = i := by omega
    rw [e1] at hg
    rw [hg.2] at hu
    rw [← hu, ← h1 (j + i / 2) (by omega)]
    congr 2
    omega
set_option maxHeartbeats 4000000 in
set_option maxRecDepth 1000000 in
theorem lay62 (L : List (Int × Int)) (x : Int × Int) (b off n cap : Nat) (w : World) (hn : Hid (L.length = n)) (hS : n ≤ 100000000) (hbN : b < w.heap.size)
    (HC0 : Hid (∀ k, k < L.length → w.cell? ⟨b, off + k * 2, none⟩ = some (.int .i64 (L.getD k (0, 0)).1))) (HC1 : Hid (∀ k, k < L.length → w.cell? ⟨b, off + k * 2 + 1, none⟩ = some (.int .i64 (L.getD k (0, 0)).2)))
    (hB : Hid (inB L)) (hx : inB [x]) (hcap : n ≤ cap) (hcl : cap ≤ 9223372036854775807) :
    Calls Tryd.prog 62 #[.slice (some ⟨b, off, none⟩) n cap, .agg #[.int .i64 x.1, .int .i64 x.2]] w fun e w' => ∃ v, e = .returned v ∧ w'.ownsRow w.heap.size 57 2 v (layL L x).length (fl (layL L x)) ∧ Below w.heap.size w w' := by
  obtain ⟨i0, hi0, hz0, hz1, hz2⟩ := info_parts info57
  obtain ⟨xl, xh⟩ := x
  have hxb := hx (xl, xh) (by simp)
  simp only at hxb ⊢
  have HL0 : Hid (layL L (xl, xh) = L.take 0 ++ layL (L.drop 0) (xl, xh)) := by show _ = _; simp
  generalize hM : layL L (xl, xh) = M at HL0 ⊢
  have HM : Hid (layL L (xl, xh) = M) := hM
  clear hM hx
  go_enter Tryd.func62, Tryd.ntmps62
  go_wp2
  go_loopw [5, 6] (fun v i wr => ∃ (k : Nat) (V : Value), k ≤ n ∧ i = .int .i64 k ∧ V = v ∧ wr.ownsRow (w.heap.size + 1) 57 2 V k (fl (L.take k)) ∧ Below (w.heap.size + 1) (w.alloc (.cells #[.int .i64 xl, .int .i64 xh] 57)) wr ∧ Hid (M = L.take k ++ layL (L.drop k) (xl, xh))) (fun _ i _ => n - (intOf i).toNat)
  case atStart => exact ⟨0, _, by omega, rfl, rfl, World.ownsRow_nil _ _ _ _, Below.refl _ _, HL0⟩
  case round =>
    clear HL0
    obtain ⟨k, V, hk, rfl, rfl, hown, hbw, HK⟩ := hrel
    have hsz : w.heap.size + 1 ≤ wr.heap.size := by have := hbw.size; simpa using this
    have x0 : wr.cell? ⟨w.heap.size, 0, none⟩ = some (.int .i64 xl) := (hbw.cell (p := ⟨w.heap.size, 0, none⟩) (by show w.heap.size < _; omega)).trans (World.cell?_alloc_at _ _ _ _ rfl)
    have x1 : wr.cell? ⟨w.heap.size, 1, none⟩ = some (.int .i64 xh) := (hbw.cell (p := ⟨w.heap.size, 1, none⟩) (by show w.heap.size < _; omega)).trans (World.cell?_alloc_at _ _ _ _ rfl)
    by_cases hlt : k < n
    · have hn' := hn.out
      have ob : ∀ j, wr.cell? ⟨b, j, none⟩ = w.cell? ⟨b, j, none⟩ := fun j => (hbw.cell (p := ⟨b, j, none⟩) (by show b < _; omega)).trans (World.cell?_of_block (a := ⟨b, j, none⟩) (heap_alloc_old w _ hbN))
      have d0 := (ob (off + k * 2)).trans (HC0.out k (by omega))
      have d1 := (ob (off + k * 2 + 1)).trans (HC1.out k (by omega))
      have hgb := hB.out _ (mem_at L k (by omega))
      have HNX : Hid ((L.getD k (0, 0)).2 < xl - 1 → M = L.take (k + 1) ++ layL (L.drop (k + 1)) (xl, xh)) := fun h => by rw [← HM.out]; exact lay_next L _ k (by omega) h (by rw [HM.out]; exact HK.out)
      have HTK : Hid (L.take (k + 1) = L.take k ++ [L.getD k (0, 0)]) := take_at L k (by omega)
      have HSP : Hid (¬ (L.getD k (0, 0)).2 < xl - 1 → M = L.take k ++ ((eat (xl, xh) (L.drop k)).1 :: (eat (xl, xh) (L.drop k)).2)) := fun h => by rw [← HM.out]; exact lay_stop L _ k (fun _ => h) (by rw [HM.out]; exact HK.out)
      generalize L.getD k (0, 0) = g at d0 d1 hgb HNX HTK HSP
      obtain ⟨gl, gh⟩ := g
      simp only at d0 d1 hgb
      clear ob hn'
      have hkn2 : (k : Int) < (n : Int) := by omega
      by_cases hgx : gh < xl - 1
      · have HM2 : Hid (M = L.take (k + 1) ++ layL (L.drop (k + 1)) (xl, xh)) := HNX.out hgx
        clear HNX HSP HK
        go_wp2
        go_quiet (fail)
        go_wp2_with (at_builtin; refine wpList_append_own _ rfl (.tmp 22) (.tmp 27) 42 rfl (w.heap.size + 1) 57 i0 (.agg #[.int .i64 0, .int .i64 0]) 2 16 Tryd.underlying42 hi0 hz0 hz1 hz2 rfl (by decide) _ k _ rfl (by exact (show (wr.drewN nq).ownsRow (w.heap.size + 1) 57 2 _ _ _ from hown).alloc _) ⟨wr.heap.size, 0, none⟩ 1 1 [.int .i64 gl, .int .i64 gh] rfl rfl (by exact news_two _ _ _ _ _ rfl) (two_cells_int _ _ _) (by unfold maxLen; omega) (by omega) (by simp; omega) ?_; intro v1 w3 ho3 hg3 _)
        have hb3 : Below (w.heap.size + 1) (w.alloc (.cells #[.int .i64 xl, .int .i64 xh] 57)) w3 := (below_drewN hbw nq).trans (below_append1 (show (wr.drewN nq).ownsRow (w.heap.size + 1) 57 2 _ _ _ from hown) hsz hg3)
        go_wp2
        go_roundw
        case rel => exact ⟨k + 1, _, by omega, by go_num, rfl, by rw [HTK.out, fl_one]; exact ho3, hb3, HM2⟩
        case measure => simp [intOf]; omega
      · have hgx' : decide (gh < xl - 1) = false := by simp; omega
        have HM2 : Hid (M = L.take k ++ ((eat (xl, xh) (L.drop k)).1 :: (eat (xl, xh) (L.drop k)).2)) := HSP.out hgx
        clear HNX HSP HK HTK
        go_wp2
        go_quiet (fail)
        go_wp2
        have HST : Hid (L2 w L (xl, xh) k k V (xl, xh) (wr.drewN nq)) := by
          refine ⟨?_, hown, (Below.alloc (Below.refl _ _) (Nat.le_refl _) _).trans ((below_drewN hbw nq).mono (by omega)), rfl⟩
          exact ((below_drewN hbw nq).block w.heap.size (by omega)).trans (heap_alloc_new _ _)
        clear x0 x1
        go_loopw [6] (fun i wr' => ∃ (j : Nat) (yl yh : Int), k ≤ j ∧ j ≤ n ∧ i = .int .i64 j ∧ (0 ≤ yl ∧ yl ≤ 1114111) ∧ (0 ≤ yh ∧ yh ≤ 1114111) ∧ Hid (L2 w L (xl, xh) k j V (yl, yh) wr')) (fun i _ => n - (intOf i).toNat)
        case atStart => exact ⟨k, xl, xh, Nat.le_refl _, by omega, rfl, hxb.1, hxb.2, HST⟩
        case round =>
          clear HST
          obtain ⟨j, yl, yh, hkj, hj, rfl, hyl, hyh, HS⟩ := hrel
          have c0 : wr.cell? ⟨w.heap.size, 0, none⟩ = some (.int .i64 yl) := (cell_of_row wr w.heap.size 0 _ 57 (0, 0) HS.out.box).trans rfl
          have c1 : wr.cell? ⟨w.heap.size, 1, none⟩ = some (.int .i64 yh) := (cell_of_row wr w.heap.size 1 _ 57 (0, 0) HS.out.box).trans rfl
          have f0 := frozen_of_row wr w.heap.size 0 _ 57 HS.out.box
          have f1 := frozen_of_row wr w.heap.size 1 _ 57 HS.out.box
          have hbz := HS.out.bel
          by_cases hjn : j < n
          · have hn' := hn.out
            have d0 := (hbz.cell (p := ⟨b, off + j * 2, none⟩) hbN).trans (HC0.out j (by omega))
            have d1 := (hbz.cell (p := ⟨b, off + j * 2 + 1, none⟩) hbN).trans (HC1.out j (by omega))
            have hgb := hB.out _ (mem_at L j (by omega))
            have HNX : Hid ((L.getD j (0, 0)).1 ≤ yh + 1 → ∀ q, _) := fun h q => (HS.out.drew q).set (by omega) h
            have HSP : Hid (¬ (L.getD j (0, 0)).1 ≤ yh + 1 → eat (yl, yh) (L.drop j) = ((yl, yh), L.drop j)) := fun h => eat_stop L _ j (fun _ => h)
            generalize L.getD j (0, 0) = g at d0 d1 hgb HNX HSP
            obtain ⟨gl, gh⟩ := g
            simp only at d0 d1 hgb
            clear hn'
            have hjn2 : (j : Int) < (n : Int) := by omega
            by_cases hgy : gl ≤ yh + 1
            · have HN := HNX.out hgy
              clear HNX HSP
              go_wp2
              go_quiet (fail)
              go_wp2
              go_region
              all_goals go_wp2
              all_goals go_region
              all_goals go_wp2
              go_roundw
              case rel => exact ⟨j + 1, min yl gl, max yh gh, by omega, by omega, by go_num, by omega, by omega, (HN (nq + 1)).drew 1⟩
              case measure => simp [intOf]; omega
            · have HSTOP : Hid (eat (yl, yh) (L.drop j) = ((yl, yh), L.drop j)) := HSP.out hgy
              have hgy' : decide (gl ≤ yh + 1) = false := by simp; omega
              clear HNX HSP
              go_wp2
              go_quiet (fail)
              have HE2 : Hid (M = L.take k ++ ((yl, yh) :: L.drop j)) := by
                show _ = _
                rw [HM2.out, HS.out.eat, HSTOP.out]
              have hownz : (wr.drewN nq).ownsRow w.heap.size 57 2 V k (fl (L.take k)) := own_low (HS.out.drew nq).own (by omega)
              have hbq : Below w.heap.size w (wr.drewN nq) := (HS.out.drew nq).bel
              have hsq : w.heap.size ≤ wr.heap.size := hbz.size
              clear HSTOP HM2 HS
              go_wp2_with (first
                | (at_builtin; refine wpList_append_own _ rfl (.tmp 66) (.tmp 68) 42 rfl w.heap.size 57 i0 (.agg #[.int .i64 0, .int .i64 0]) 2 16 Tryd.underlying42 hi0 hz0 hz1 hz2 rfl (by decide) _ k _ rfl (hownz.alloc _) ⟨wr.heap.size, 0, none⟩ 1 1 [.int .i64 yl, .int .i64 yh] rfl rfl (by exact news_two _ _ _ _ _ rfl) (two_cells_int _ _ _) (by unfold maxLen; omega) (by omega) (by simp; omega) ?_; intro v4 w4 ho4 hg4 _; have hb4 : Below w.heap.size w w4 := hbq.trans (below_append1 hownz hsq hg4); have hs4 := hb4.size)
                | (at_builtin; refine wpList_append_own _ rfl (.tmp 70) (.tmp 73) 42 rfl w.heap.size 57 i0 (.agg #[.int .i64 0, .int .i64 0]) 2 16 Tryd.underlying42 hi0 hz0 hz1 hz2 rfl (by decide) _ (k + 1) _ rfl ho4 ⟨b, off + j * 2, none⟩ (n - j) (cap - j) (fl (L.drop j)) rfl (by rw [fl_len, List.length_drop, hn.out]) (drop_cells (fun i hi => (hb4.cell (p := ⟨b, _, none⟩) hbN).trans (HC0.out i hi)) (fun i hi => (hb4.cell (p := ⟨b, _, none⟩) hbN).trans (HC1.out i hi)) hn.out j) (two_of_fl _) (by unfold maxLen; omega) (by omega) hs4 ?_; intro v5 w5 ho5 hg5 _; have hb5 : Below w.heap.size w w5 := hb4.grown hg5 hs4 (fun q hq => (ho4.lt q hq).1)))
              go_ret
              refine ⟨_, rfl, ?_, hb5⟩
              have e5 : fl (L.take k) ++ [Value.int .i64 yl, .int .i64 yh] ++ fl (L.drop j) = fl M := by rw [HE2.out, fl_append, List.append_assoc]; rfl
              have e6 : k + 1 + (n - j) = M.length := by
                have h7 := hn.out
                rw [HE2.out]
                simp only [List.length_append, List.length_cons, List.length_take, List.length_drop]
                omega
              rw [← e6, ← e5]
              exact ho5
          · have HSTOP : Hid (eat (yl, yh) (L.drop j) = ((yl, yh), L.drop j)) := eat_stop L _ j (fun h => absurd h (by rw [hn.out]; omega))
            have hjn2 : decide ((j : Int) < (n : Int)) = false := by simp; omega
            by_cases hcj : j < cap
            · go_wp2
              go_quiet (fail)
              have HE2 : Hid (M = L.take k ++ ((yl, yh) :: L.drop j)) := by
                show _ = _
                rw [HM2.out, HS.out.eat, HSTOP.out]
              have hownz : (wr.drewN nq).ownsRow w.heap.size 57 2 V k (fl (L.take k)) := own_low (HS.out.drew nq).own (by omega)
              have hbq : Below w.heap.size w (wr.drewN nq) := (HS.out.drew nq).bel
              have hsq : w.heap.size ≤ wr.heap.size := hbz.size
              clear HSTOP HM2 HS
              go_wp2_with (first
                | (at_builtin; refine wpList_append_own _ rfl (.tmp 66) (.tmp 68) 42 rfl w.heap.size 57 i0 (.agg #[.int .i64 0, .int .i64 0]) 2 16 Tryd.underlying42 hi0 hz0 hz1 hz2 rfl (by decide) _ k _ rfl (hownz.alloc _) ⟨wr.heap.size, 0, none⟩ 1 1 [.int .i64 yl, .int .i64 yh] rfl rfl (by exact news_two _ _ _ _ _ rfl) (two_cells_int _ _ _) (by unfold maxLen; omega) (by omega) (by simp; omega) ?_; intro v4 w4 ho4 hg4 _; have hb4 : Below w.heap.size w w4 := hbq.trans (below_append1 hownz hsq hg4); have hs4 := hb4.size)
                | (at_builtin; refine wpList_append_own _ rfl (.tmp 70) (.tmp 73) 42 rfl w.heap.size 57 i0 (.agg #[.int .i64 0, .int .i64 0]) 2 16 Tryd.underlying42 hi0 hz0 hz1 hz2 rfl (by decide) _ (k + 1) _ rfl ho4 ⟨b, off + j * 2, none⟩ (n - j) (cap - j) (fl (L.drop j)) rfl (by rw [fl_len, List.length_drop, hn.out]) (drop_cells (fun i hi => (hb4.cell (p := ⟨b, _, none⟩) hbN).trans (HC0.out i hi)) (fun i hi => (hb4.cell (p := ⟨b, _, none⟩) hbN).trans (HC1.out i hi)) hn.out j) (two_of_fl _) (by unfold maxLen; omega) (by omega) hs4 ?_; intro v5 w5 ho5 hg5 _; have hb5 : Below w.heap.size w w5 := hb4.grown hg5 hs4 (fun q hq => (ho4.lt q hq).1)))
              go_ret
              refine ⟨_, rfl, ?_, hb5⟩
              have e5 : fl (L.take k) ++ [Value.int .i64 yl, .int .i64 yh] ++ fl (L.drop j) = fl M := by rw [HE2.out, fl_append, List.append_assoc]; rfl
              have e6 : k + 1 + (n - j) = M.length := by
                have h7 := hn.out
                rw [HE2.out]
                simp only [List.length_append, List.length_cons, List.length_take, List.length_drop]
                omega
              rw [← e6, ← e5]
              exact ho5
            · have hcj2 : cap = j := by omega
              go_wp2
              go_quiet (fail)
              have HE2 : Hid (M = L.take k ++ ((yl, yh) :: L.drop j)) := by
                show _ = _
                rw [HM2.out, HS.out.eat, HSTOP.out]
              have hownz : (wr.drewN nq).ownsRow w.heap.size 57 2 V k (fl (L.take k)) := own_low (HS.out.drew nq).own (by omega)
              have hbq : Below w.heap.size w (wr.drewN nq) := (HS.out.drew nq).bel
              have hsq : w.heap.size ≤ wr.heap.size := hbz.size
              clear HSTOP HM2 HS
              go_wp2_with (first
                | (at_builtin; refine wpList_append_own _ rfl (.tmp 66) (.tmp 68) 42 rfl w.heap.size 57 i0 (.agg #[.int .i64 0, .int .i64 0]) 2 16 Tryd.underlying42 hi0 hz0 hz1 hz2 rfl (by decide) _ k _ rfl (hownz.alloc _) ⟨wr.heap.size, 0, none⟩ 1 1 [.int .i64 yl, .int .i64 yh] rfl rfl (by exact news_two _ _ _ _ _ rfl) (two_cells_int _ _ _) (by unfold maxLen; omega) (by omega) (by simp; omega) ?_; intro v4 w4 ho4 hg4 _; have hb4 : Below w.heap.size w w4 := hbq.trans (below_append1 hownz hsq hg4); have hs4 := hb4.size)
                | (at_builtin; refine wpList_append_own _ rfl (.tmp 70) (.tmp 73) 42 rfl w.heap.size 57 i0 (.agg #[.int .i64 0, .int .i64 0]) 2 16 Tryd.underlying42 hi0 hz0 hz1 hz2 rfl (by decide) _ (k + 1) _ rfl ho4 ⟨b, off, none⟩ (n - j) 0 (fl (L.drop j)) rfl (by rw [fl_len, List.length_drop, hn.out]) (by intro i u hu; rw [List.drop_of_length_le (by rw [hn.out]; omega)] at hu; simp [fl] at hu) (two_of_fl _) (by unfold maxLen; omega) (by omega) hs4 ?_; intro v5 w5 ho5 hg5 _; have hb5 : Below w.heap.size w w5 := hb4.grown hg5 hs4 (fun q hq => (ho4.lt q hq).1)))
              go_ret
              refine ⟨_, rfl, ?_, hb5⟩
              have e5 : fl (L.take k) ++ [Value.int .i64 yl, .int .i64 yh] ++ fl (L.drop j) = fl M := by rw [HE2.out, fl_append, List.append_assoc]; rfl
              have e6 : k + 1 + (n - j) = M.length := by
                have h7 := hn.out
                rw [HE2.out]
                simp only [List.length_append, List.length_cons, List.length_take, List.length_drop]
                omega
              rw [← e6, ← e5]
              exact ho5
    · have hkn : k = n := by omega
      have HM2 : Hid (M = L.take k ++ ((eat (xl, xh) (L.drop k)).1 :: (eat (xl, xh) (L.drop k)).2)) := by
        show _ = _
        rw [← HM.out]
        exact lay_stop L _ k (fun h => absurd h (by rw [hn.out]; omega)) (by rw [HM.out]; exact HK.out)
      have hkn2 : decide ((k : Int) < (n : Int)) = false := by simp; omega
      clear HK
      go_wp2
      go_quiet (fail)
      go_wp2
      have HST : Hid (L2 w L (xl, xh) k k V (xl, xh) (wr.drewN nq)) := by
        refine ⟨?_, hown, (Below.alloc (Below.refl _ _) (Nat.le_refl _) _).trans ((below_drewN hbw nq).mono (by omega)), rfl⟩
        exact ((below_drewN hbw nq).block w.heap.size (by omega)).trans (heap_alloc_new _ _)
      clear x0 x1
      go_loopw [6] (fun i wr' => ∃ (j : Nat) (yl yh : Int), k ≤ j ∧ j ≤ n ∧ i = .int .i64 j ∧ (0 ≤ yl ∧ yl ≤ 1114111) ∧ (0 ≤ yh ∧ yh ≤ 1114111) ∧ Hid (L2 w L (xl, xh) k j V (yl, yh) wr')) (fun i _ => n - (intOf i).toNat)
      case atStart => exact ⟨k, xl, xh, Nat.le_refl _, by omega, rfl, hxb.1, hxb.2, HST⟩
      case round =>
        clear HST
        obtain ⟨j, yl, yh, hkj, hj, rfl, hyl, hyh, HS⟩ := hrel
        have c0 : wr.cell? ⟨w.heap.size, 0, none⟩ = some (.int .i64 yl) := (cell_of_row wr w.heap.size 0 _ 57 (0, 0) HS.out.box).trans rfl
        have c1 : wr.cell? ⟨w.heap.size, 1, none⟩ = some (.int .i64 yh) := (cell_of_row wr w.heap.size 1 _ 57 (0, 0) HS.out.box).trans rfl
        have f0 := frozen_of_row wr w.heap.size 0 _ 57 HS.out.box
        have f1 := frozen_of_row wr w.heap.size 1 _ 57 HS.out.box
        have hbz := HS.out.bel
        by_cases hjn : j < n
        · exact absurd hjn (by omega)
        · have HSTOP : Hid (eat (yl, yh) (L.drop j) = ((yl, yh), L.drop j)) := eat_stop L _ j (fun h => absurd h (by rw [hn.out]; omega))
          have hjn2 : decide ((j : Int) < (n : Int)) = false := by simp; omega
          by_cases hcj : j < cap
          · go_wp2
            go_quiet (fail)
            have HE2 : Hid (M = L.take k ++ ((yl, yh) :: L.drop j)) := by
              show _ = _
              rw [HM2.out, HS.out.eat, HSTOP.out]
            have hownz : (wr.drewN nq).ownsRow w.heap.size 57 2 V k (fl (L.take k)) := own_low (HS.out.drew nq).own (by omega)
            have hbq : Below w.heap.size w (wr.drewN nq) := (HS.out.drew nq).bel
            have hsq : w.heap.size ≤ wr.heap.size := hbz.size
            clear HSTOP HM2 HS
            go_wp2_with (first
              | (at_builtin; refine wpList_append_own _ rfl (.tmp 66) (.tmp 68) 42 rfl w.heap.size 57 i0 (.agg #[.int .i64 0, .int .i64 0]) 2 16 Tryd.underlying42 hi0 hz0 hz1 hz2 rfl (by decide) _ k _ rfl (hownz.alloc _) ⟨wr.heap.size, 0, none⟩ 1 1 [.int .i64 yl, .int .i64 yh] rfl rfl (by exact news_two _ _ _ _ _ rfl) (two_cells_int _ _ _) (by unfold maxLen; omega) (by omega) (by simp; omega) ?_; intro v4 w4 ho4 hg4 _; have hb4 : Below w.heap.size w w4 := hbq.trans (below_append1 hownz hsq hg4); have hs4 := hb4.size)
              | (at_builtin; refine wpList_append_own _ rfl (.tmp 70) (.tmp 73) 42 rfl w.heap.size 57 i0 (.agg #[.int .i64 0, .int .i64 0]) 2 16 Tryd.underlying42 hi0 hz0 hz1 hz2 rfl (by decide) _ (k + 1) _ rfl ho4 ⟨b, off + j * 2, none⟩ (n - j) (cap - j) (fl (L.drop j)) rfl (by rw [fl_len, List.length_drop, hn.out]) (drop_cells (fun i hi => (hb4.cell (p := ⟨b, _, none⟩) hbN).trans (HC0.out i hi)) (fun i hi => (hb4.cell (p := ⟨b, _, none⟩) hbN).trans (HC1.out i hi)) hn.out j) (two_of_fl _) (by unfold maxLen; omega) (by omega) hs4 ?_; intro v5 w5 ho5 hg5 _; have hb5 : Below w.heap.size w w5 := hb4.grown hg5 hs4 (fun q hq => (ho4.lt q hq).1)))
            go_ret
            refine ⟨_, rfl, ?_, hb5⟩
            have e5 : fl (L.take k) ++ [Value.int .i64 yl, .int .i64 yh] ++ fl (L.drop j) = fl M := by rw [HE2.out, fl_append, List.append_assoc]; rfl
            have e6 : k + 1 + (n - j) = M.length := by
              have h7 := hn.out
              rw [HE2.out]
              simp only [List.length_append, List.length_cons, List.length_take, List.length_drop]
              omega
            rw [← e6, ← e5]
            exact ho5
          · have hcj2 : cap = j := by omega
            go_wp2
            go_quiet (fail)
            have HE2 : Hid (M = L.take k ++ ((yl, yh) :: L.drop j)) := by
              show _ = _
              rw [HM2.out, HS.out.eat, HSTOP.out]
            have hownz : (wr.drewN nq).ownsRow w.heap.size 57 2 V k (fl (L.take k)) := own_low (HS.out.drew nq).own (by omega)
            have hbq : Below w.heap.size w (wr.drewN nq) := (HS.out.drew nq).bel
            have hsq : w.heap.size ≤ wr.heap.size := hbz.size
            clear HSTOP HM2 HS
            go_wp2_with (first
              | (at_builtin; refine wpList_append_own _ rfl (.tmp 66) (.tmp 68) 42 rfl w.heap.size 57 i0 (.agg #[.int .i64 0, .int .i64 0]) 2 16 Tryd.underlying42 hi0 hz0 hz1 hz2 rfl (by decide) _ k _ rfl (hownz.alloc _) ⟨wr.heap.size, 0, none⟩ 1 1 [.int .i64 yl, .int .i64 yh] rfl rfl (by exact news_two _ _ _ _ _ rfl) (two_cells_int _ _ _) (by unfold maxLen; omega) (by omega) (by simp; omega) ?_; intro v4 w4 ho4 hg4 _; have hb4 : Below w.heap.size w w4 := hbq.trans (below_append1 hownz hsq hg4); have hs4 := hb4.size)
              | (at_builtin; refine wpList_append_own _ rfl (.tmp 70) (.tmp 73) 42 rfl w.heap.size 57 i0 (.agg #[.int .i64 0, .int .i64 0]) 2 16 Tryd.underlying42 hi0 hz0 hz1 hz2 rfl (by decide) _ (k + 1) _ rfl ho4 ⟨b, off, none⟩ (n - j) 0 (fl (L.drop j)) rfl (by rw [fl_len, List.length_drop, hn.out]) (by intro i u hu; rw [List.drop_of_length_le (by rw [hn.out]; omega)] at hu; simp [fl] at hu) (two_of_fl _) (by unfold maxLen; omega) (by omega) hs4 ?_; intro v5 w5 ho5 hg5 _; have hb5 : Below w.heap.size w w5 := hb4.grown hg5 hs4 (fun q hq => (ho4.lt q hq).1)))
            go_ret
            refine ⟨_, rfl, ?_, hb5⟩
            have e5 : fl (L.take k) ++ [Value.int .i64 yl, .int .i64 yh] ++ fl (L.drop j) = fl M := by rw [HE2.out, fl_append, List.append_assoc]; rfl
            have e6 : k + 1 + (n - j) = M.length := by
              have h7 := hn.out
              rw [HE2.out]
              simp only [List.length_append, List.length_cons, List.length_take, List.length_drop]
              omega
            rw [← e6, ← e5]
            exact ho5
end Go.Proofs.YtjglehklfdhgaaaDoor
