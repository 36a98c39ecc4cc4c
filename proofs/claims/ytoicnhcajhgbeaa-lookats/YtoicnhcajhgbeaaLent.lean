/- HELPERS: the contracts of lent and kept. -/
import Derived.Test.YtoicnhcajhgbeaaOwn
import Derived.Laws.CopyOwn
namespace Go.Proofs.Ytoicnhcajhgbeaa
open Go.RowKit Go.Lk
set_option linter.unusedVariables false
set_option linter.unusedSimpArgs false
/-- the block g is a row of ints of the call's own -/
def RowG (w : World) (g : Nat) (l : List Int) : Prop := w.heap[g]? = some (.cells (I64 l).toArray 3 (0, 0))
theorem RowG.cell {w : World} {g : Nat} {l : List Int} (h : RowG w g l) (k : Nat) (hk : k < l.length) : w.cell? ⟨g, k, none⟩ = some (.int .i64 (l.getD k 0)) := by
  rw [cell_of_row w g k _ 3 (0, 0) h]
  simp [hk]
theorem RowG.frozen {w : World} {g : Nat} {l : List Int} (h : RowG w g l) (k : Nat) : w.frozen? ⟨g, k, none⟩ = false := frozen_of_row w g k _ 3 h
theorem RowG.set {w : World} {g : Nat} {l : List Int} (h : RowG w g l) (k : Nat) (x : Int) : RowG (w.setCell ⟨g, k, none⟩ (.int .i64 x)) g (l.set k x) := by
  have := heap_setCell_same w g k _ 3 (.int .i64 x) h
  unfold RowG
  rw [this]
  congr 2
  simp
theorem RowG.lt {w : World} {g : Nat} {l : List Int} (h : RowG w g l) : g < w.heap.size := by
  rcases Nat.lt_or_ge g w.heap.size with h1 | h1
  · exact h1
  · unfold RowG at h; rw [Array.getElem?_eq_none h1] at h; cases h
theorem RowG.text {w : World} {g n : Nat} {l r : List Int} (h : RowG w g (l ++ r)) (hn : n = l.length) (hm : n ≤ 35184372088832) : TextAt w.heap.size w (some ⟨g, 0, none⟩) n l := by
  refine ⟨hn, hm, .inr ⟨g, 0, rfl, h.lt, fun k hk => ?_⟩⟩
  rw [Nat.zero_add, h.cell k (by rw [List.length_append]; omega)]
  simp [List.getD_eq_getElem?_getD, List.getElem?_append_left (show k < l.length by omega)]
theorem RowG.below {w w' : World} {N g : Nat} {l : List Int} (h : RowG w g l) (hb : Below N w w') (hg : g < N) : RowG w' g l := by
  have := hb.block g hg
  unfold RowG
  rw [this]; exact h
theorem set_marks (l : List Int) (n : Nat) (hn : n = l.length) : ((splice (I64 (List.replicate (n + 2) 0)) 0 (I64 l)).set n (.int .i64 (-71))).set (n + 1) (.int .i64 (-72)) = I64 (l ++ [-71, -72]) := by
  subst hn
  have e : splice (I64 (List.replicate (l.length + 2) 0)) 0 (I64 l) = I64 (l ++ [0, 0]) := by
    unfold splice
    simp
  rw [e]
  simp [List.set_append]
theorem row_some {w : World} {g k : Nat} {cs : List Value} {t : TypeId} {fr : Nat × Nat} (h : w.heap[g]? = some (.cells cs.toArray t fr)) (hk : k < cs.length) : ∃ x, w.cell? ⟨g, k, none⟩ = some x := by
  rw [cell_of_row w g k _ t fr h]
  exact ⟨cs[k], by simp [hk]⟩
set_option maxHeartbeats 1000000 in
theorem lent9 (l : List Int) (ad : Option Addr) (n cap : Nat) (w : World) (hT : Hid (TextAt w.heap.size w ad n l)) (hm : n ≤ 17592186044416) :
    Calls Try.prog 9 #[.slice ad n cap] w fun e w' => e = .returned (.slice (some ⟨w.heap.size, 0, none⟩) n (n + 2)) ∧ RowG w' w.heap.size (l ++ [-71, -72]) ∧ Below w.heap.size w w' := by
  obtain ⟨i0, hi, hz0, hz1, hz2⟩ := info_parts info3
  have hsz1 : (Try.prog.info? 3).map (·.size) = some 1 := by rw [hi]; simp [hz1]
  go_enter Try.func9, Try.ntmps9
  go_wp2_with (at_make; refine wpList_make_full _ rfl (.tmp 6) (.tmp 6) 22 rfl w.heap.size 3 i0 (.int .i64 0) 1 Try.underlying22 hi hz0 hz1 _ _ _ _ (n + 2) rfl rfl (by omega) (by omega) (by rw [hz2]; omega) (by unfold maxLen; omega) (Nat.le_refl _) ?_)
  intro w1 hown hgrow
  have hb1 : Below w.heap.size w w1 := (Below.refl _ _).grown hgrow (Nat.le_refl _) (fun k h => by cases h)
  have HG1 : Hid (w1.heap[w.heap.size]? = some (.cells (I64 (List.replicate (n + 2) 0)).toArray 3 (0, 0))) := by
    rcases hown.2 with ⟨h', _⟩ | ⟨g', cap', cur, h', hbg, hg, hnc, hcm, hcs, htake⟩
    · simp at h'
    · simp only [Value.slice.injEq, Option.some.injEq, Addr.mk.injEq, and_true, true_and] at h'
      obtain ⟨rfl, rfl⟩ := h'
      show w1.heap[w.heap.size]? = _
      rw [hg]
      congr 2
      have h2 : cur.toList.take ((n + 2) * 1) = cur.toList := List.take_of_length_le (by simp [hcs])
      rw [h2] at htake
      apply Array.ext'
      rw [htake]
      simp only [Value.cells, Nat.mul_one, toList_madeCells_one]
      simp
  clear hown hgrow
  have hcn : (I64 l).length = Nat.min n (n + 2) := by rw [List.length_map, ← hT.out.1]; simp [Nat.min_def]
  have hcf : 0 + (I64 l).length ≤ (I64 (List.replicate (n + 2) 0)).length := by rw [List.length_map, ← hT.out.1]; simp
  have hcp : 0 < (I64 l).length → ∃ ad', ad = some ad' ∧ ∀ j v, (I64 l)[j]? = some v → w1.cell? (ad'.add j) = some v := by
    intro h0
    obtain ⟨hn, _, h | ⟨b, off, rfl, hbN, hc⟩⟩ := hT.out
    · rw [List.length_map, ← hn] at h0; omega
    · refine ⟨_, rfl, fun j v hj => ?_⟩
      have hjl : j < l.length := by
        have := (List.getElem?_eq_some_iff.1 hj).1
        simpa using this
      have e : (⟨b, off, none⟩ : Addr).add j = ⟨b, off + j, none⟩ := by unfold Addr.add; split <;> simp_all
      rw [e, (hb1.cell (p := ⟨b, off + j, none⟩) hbN).trans (hc j (by omega)), ← hj]
      simp [hjl]
  have HC : Hid ((I64 l).length = Nat.min n (n + 2)) := hcn
  have HF : Hid (0 + (I64 l).length ≤ (I64 (List.replicate (n + 2) 0)).length) := hcf
  have HP : Hid (0 < (I64 l).length → ∃ ad', ad = some ad' ∧ ∀ j v, (I64 l)[j]? = some v → w1.cell? (ad'.add j) = some v) := hcp
  have HL : Hid (l.length = n) := hT.out.1.symm
  clear hcn hcf hcp
  have HM : Hid (((splice (I64 (List.replicate (n + 2) 0)) 0 (I64 l)).set n (.int .i64 (-71))).set (n + 1) (.int .i64 (-72)) = I64 (l ++ [-71, -72])) := set_marks l n HL.out.symm
  have HLs : Hid ((splice (I64 (List.replicate (n + 2) 0)) 0 (I64 l)).length = n + 2) := by
    show _ = _
    rw [length_splice _ _ _ HF.out]; simp
  have h1c := one_cell_ints l
  generalize hX : I64 l = X at *
  clear hX
  generalize hZ : I64 (List.replicate (n + 2) 0) = Z at *
  clear hZ
  go_wp2_with (refine wpList_copy_splice rfl (.tmp 8) (.tmp 9) 22 22 rfl 3 Try.underlying22 hsz1 _ _ _ _ _ _ rfl rfl w.heap.size 0 Z 3 HG1.out X HC.out (fun h => ⟨rfl, HP.out h⟩) HF.out h1c w.heap.size w hb1 (Nat.le_refl _) ?_)
  intro w2 HG2 hb2
  have hfr := fun k => frozen_of_row w2 w.heap.size k _ 3 HG2.out
  obtain ⟨x1, hx1⟩ : ∃ x1, w2.cell? ⟨w.heap.size, n, none⟩ = some x1 := row_some HG2.out (by rw [HLs.out]; omega)
  obtain ⟨x2, hx2⟩ : ∃ x2, w2.cell? ⟨w.heap.size, n + 1, none⟩ = some x2 := row_some HG2.out (by rw [HLs.out]; omega)
  have hrow : RowG ((w2.setCell ⟨w.heap.size, n, none⟩ (.int .i64 (-71))).setCell ⟨w.heap.size, n + 1, none⟩ (.int .i64 (-72))) w.heap.size (l ++ [-71, -72]) := by
    have e1 := heap_setCell_same w2 w.heap.size n _ 3 (.int .i64 (-71)) HG2.out
    have e2 := heap_setCell_same _ w.heap.size (n + 1) _ 3 (.int .i64 (-72)) e1
    unfold RowG
    rw [e2, ← HM.out]
    congr 2
    simp
  have hbel : Below w.heap.size w ((w2.setCell ⟨w.heap.size, n, none⟩ (.int .i64 (-71))).setCell ⟨w.heap.size, n + 1, none⟩ (.int .i64 (-72))) := (hb2.setCell (by simp) _).setCell (by simp) _
  have HRW : Hid (RowG ((w2.setCell ⟨w.heap.size, n, none⟩ (.int .i64 (-71))).setCell ⟨w.heap.size, n + 1, none⟩ (.int .i64 (-72))) w.heap.size (l ++ [-71, -72])) := hrow
  have HBL : Hid (Below w.heap.size w ((w2.setCell ⟨w.heap.size, n, none⟩ (.int .i64 (-71))).setCell ⟨w.heap.size, n + 1, none⟩ (.int .i64 (-72)))) := hbel
  clear hrow hbel HM HG1 HG2 HP HC HF hb1 hb2 hi hz0 hz1 hz2 hsz1 h1c hT HLs
  go_wp2
  go_ret
  exact ⟨rfl, HRW.out, HBL.out⟩
set_option maxHeartbeats 1000000 in
theorem kept11 (l : List Int) (ad : Option Addr) (n cap g : Nat) (w : World) (N : Nat) (hT : Hid (TextAt N w ad n l)) (hR : Hid (RowG w g (l ++ [-71, -72]))) (hm : n ≤ 17592186044416) :
    Calls Try.prog 11 #[.slice (some ⟨g, 0, none⟩) n (n + 2), .slice ad n cap] w fun e w' => e = .returned (.bool true) ∧ ∃ q, w' = w.drewN q := by
  have HL : Hid (l.length = n) := hT.out.1.symm
  go_enter Try.func11, Try.ntmps11
  go_wp2
  go_loopw [6] (fun i wr => ∃ (k q : Nat), k ≤ n ∧ i = .int .i64 k ∧ wr = w.drewN q) (fun i _ => n - (intOf i).toNat)
  case atStart => exact ⟨0, 0, by omega, rfl, rfl⟩
  case round =>
    obtain ⟨k, q, hk, rfl, rfl⟩ := hrel
    by_cases hlt : k < n
    · obtain ⟨hn', hm', h | ⟨b, off, rfl, hbN, hc⟩⟩ := hT.out
      · omega
      · have d0 := hc k hlt
        have d1 := hR.out.cell k (by rw [List.length_append]; omega)
        have e : (l ++ [-71, -72]).getD k 0 = l.getD k 0 := by simp [List.getD_eq_getElem?_getD, List.getElem?_append_left (show k < l.length by omega)]
        rw [e] at d1
        generalize l.getD k 0 = x at d0 d1
        clear e hc hn' hm'
        have hk2 : (k : Int) < ((n + 2 : Nat) : Int) := by omega
        have hk3 : (k : Int) < (n : Int) + 2 := by omega
        have hk4 : (k : Int) < (n : Int) := by omega
        go_wp2
        go_quiet (fail)
        go_wp2
        go_roundw
        case rel => exact ⟨k + 1, q + nq, by omega, by go_num, by simp⟩
        case measure => simp [intOf]; omega
    · obtain rfl : k = n := by omega
      have d0 := hR.out.cell k (by rw [List.length_append, HL.out]; simp)
      have d1 := hR.out.cell (k + 1) (by rw [List.length_append, HL.out]; simp)
      have e0 : (l ++ [-71, -72]).getD k 0 = -71 := by simp [List.getD_eq_getElem?_getD, List.getElem?_append_right (show l.length ≤ k by rw [HL.out]; omega), HL.out]
      have e1 : (l ++ [-71, -72]).getD (k + 1) 0 = -72 := by simp [List.getD_eq_getElem?_getD, List.getElem?_append_right (show l.length ≤ k + 1 by rw [HL.out]; omega), HL.out]
      rw [e0] at d0
      rw [e1] at d1
      clear e0 e1
      go_wp2
      go_ret
      exact ⟨rfl, _, rfl⟩
end Go.Proofs.Ytoicnhcajhgbeaa
