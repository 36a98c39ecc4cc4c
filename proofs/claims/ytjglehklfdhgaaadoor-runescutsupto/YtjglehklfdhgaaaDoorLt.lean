/- HELPERS: the contracts of lent and back. -/
import Derived.Test.YtjglehklfdhgaaaDoorRc
import Derived.Test.YtjglehklfdhgaaaDoorOwnN
namespace Go.Proofs.YtjglehklfdhgaaaDoor
open Go.RowKit Go.Mx
set_option linter.unusedVariables false
set_option linter.unusedSimpArgs false
/-- the block g is a row of bytes of the call's own -/
def RowB (w : World) (g : Nat) (l : List Int) : Prop := w.heap[g]? = some (.cells (U8 l).toArray 5 (0, 0))
theorem RowB.cell {w : World} {g : Nat} {l : List Int} (h : RowB w g l) (k : Nat) (hk : k < l.length) : w.cell? ⟨g, k, none⟩ = some (.int .u8 (l.getD k 0)) := by
  rw [cell_of_row w g k _ 5 (0, 0) h]
  simp [hk]
theorem RowB.frozen {w : World} {g : Nat} {l : List Int} (h : RowB w g l) (k : Nat) : w.frozen? ⟨g, k, none⟩ = false := frozen_of_row w g k _ 5 h
theorem RowB.set {w : World} {g : Nat} {l : List Int} (h : RowB w g l) (k : Nat) (x : Int) : RowB (w.setCell ⟨g, k, none⟩ (.int .u8 x)) g (l.set k x) := by
  have := heap_setCell_same w g k _ 5 (.int .u8 x) h
  unfold RowB
  rw [this]
  congr 2
  simp
theorem RowB.lt {w : World} {g : Nat} {l : List Int} (h : RowB w g l) : g < w.heap.size := by
  rcases Nat.lt_or_ge g w.heap.size with h1 | h1
  · exact h1
  · unfold RowB at h; rw [Array.getElem?_eq_none h1] at h; cases h
theorem RowB.below {w w' : World} {N g : Nat} {l : List Int} (h : RowB w g l) (hb : Below N w w') (hg : g < N) : RowB w' g l := by
  have := hb.block g hg
  unfold RowB
  rw [this]; exact h
theorem RowB.bytes {w : World} {g n : Nat} {l r : List Int} (h : RowB w g (l ++ r)) (hn : n = l.length) (hr : r.length = 5) (hm : n ≤ 100000000) : BytesAt w.heap.size w (.slice (some ⟨g, 0, none⟩) n (n + 5)) l := by
  subst hn
  refine ⟨_, _, rfl, by omega, by omega, .inr ⟨g, 0, rfl, h.lt, fun k hk => ?_⟩⟩
  rw [Nat.zero_add, h.cell k (by rw [List.length_append]; omega)]
  simp [List.getD_eq_getElem?_getD, List.getElem?_append_left hk]
theorem one_cell_bytes (l : List Int) : ∀ u : Value, u ∈ U8 l → u.oneCell' = true := cells_one l
theorem take_set_step (l X : List Int) (m : Nat) (x : Int) (hm : m < l.length) (h : l.take m = X) : (l.set m x).take (m + 1) = X ++ [x] := by
  rw [List.take_set, List.take_succ_eq_append_getElem hm, h, List.set_append_right _ _ (by rw [← h, List.length_take]; omega)]
  have : m - X.length = 0 := by rw [← h, List.length_take]; omega
  rw [this]; rfl
set_option maxHeartbeats 2000000 in
theorem lent11 (l : List Int) (ad : Option Addr) (n cap : Nat) (w : World) (hn : Hid (l.length = n)) (hl : Hid (BytesAt w.heap.size w (.slice ad n cap) l)) (hm : n ≤ 100000000) :
    Calls Tryd.prog 11 #[.slice ad n cap] w fun e w' => e = .returned (.slice (some ⟨w.heap.size, 0, none⟩) (n + 5) (n + 5)) ∧ RowB w' w.heap.size (l ++ List.replicate 5 201) ∧ Below w.heap.size w w' := by
  obtain ⟨i0, hi, hz0, hz1, hz2⟩ := info_parts info5
  have hsz1 : (Tryd.prog.info? 5).map (·.size) = some 1 := by rw [hi]; simp [hz1]
  go_enter Tryd.func11, Tryd.ntmps11
  go_wp2_with (at_make; refine wpList_make_full _ rfl (.tmp 7) (.tmp 7) 25 rfl w.heap.size 5 i0 (.int .u8 0) 1 Tryd.underlying25 hi hz0 hz1 _ _ _ _ (n + 5) rfl rfl (by omega) (by omega) (by rw [hz2]; omega) (by unfold maxLen; omega) (Nat.le_refl _) ?_)
  intro w1 hown hgrow
  have hb1 : Below w.heap.size w w1 := (Below.refl _ _).grown hgrow (Nat.le_refl _) (fun k h => by cases h)
  have HG1 : Hid (w1.heap[w.heap.size]? = some (.cells (U8 (List.replicate (n + 5) 0)).toArray 5 (0, 0))) := by
    rcases hown.2 with ⟨h', _⟩ | ⟨g', cap', cur, h', hbg, hg, hnc, hcm, hcs, htake⟩
    · simp at h'
    · simp only [Value.slice.injEq, Option.some.injEq, Addr.mk.injEq, and_true, true_and] at h'
      obtain ⟨rfl, rfl⟩ := h'
      show w1.heap[w.heap.size]? = _
      rw [hg]
      congr 2
      have h2 : cur.toList.take ((n + 5) * 1) = cur.toList := List.take_of_length_le (by simp [hcs])
      rw [h2] at htake
      apply Array.ext'
      rw [htake]
      simp only [Value.cells, Nat.mul_one, toList_madeCells_one]
      simp
  clear hown hgrow
  have HC : Hid ((U8 l).length = Nat.min n (n + 5)) := by show _ = _; rw [List.length_map, hn.out]; simp [Nat.min_def]
  have HF : Hid (0 + (U8 l).length ≤ (U8 (List.replicate (n + 5) 0)).length) := by show _ ≤ _; rw [List.length_map, hn.out]; simp
  have HP : Hid (0 < (U8 l).length → ∃ ad', ad = some ad' ∧ ∀ j v, (U8 l)[j]? = some v → w1.cell? (ad'.add j) = some v) := by
    intro h0
    obtain ⟨ad', cap', he, hc1, hc2, h | ⟨b, off, rfl, hbN, hc⟩⟩ := hl.out
    · rw [List.length_map] at h0; omega
    · simp only [Value.slice.injEq] at he
      obtain ⟨rfl, -, rfl⟩ := he
      refine ⟨_, rfl, fun j v hj => ?_⟩
      have hjl : j < l.length := by
        have := (List.getElem?_eq_some_iff.1 hj).1
        simpa using this
      have e : (⟨b, off, none⟩ : Addr).add j = ⟨b, off + j, none⟩ := by unfold Addr.add; split <;> simp_all
      rw [e, (hb1.cell (p := ⟨b, off + j, none⟩) hbN).trans (hc j hjl), ← hj]
      simp [hjl]
  have HM : Hid (splice (U8 (List.replicate (n + 5) 0)) 0 (U8 l) = U8 (l ++ List.replicate 5 0)) := by
    show _ = _
    unfold splice
    rw [← hn.out]
    simp
  have h1c := one_cell_bytes l
  generalize hX : U8 l = X at *
  clear hX
  generalize hZ : U8 (List.replicate (n + 5) 0) = Z at *
  clear hZ
  go_wp2_with (refine wpList_copy_splice rfl (.tmp 9) (.tmp 10) 25 25 rfl 5 Tryd.underlying25 hsz1 _ _ _ _ _ _ rfl rfl w.heap.size 0 Z 5 HG1.out X HC.out (fun h => ⟨rfl, HP.out h⟩) HF.out h1c w.heap.size w hb1 (Nat.le_refl _) ?_)
  intro w2 HG2 hb2
  have HR : Hid (∃ l', RowB w2 w.heap.size l' ∧ l'.length = n + 5 ∧ l'.take (n + 0) = l ++ List.replicate 0 201) := by
    refine ⟨l ++ List.replicate 5 0, ?_, by simp [hn.out], by simp [hn.out]⟩
    unfold RowB
    rw [HG2.out, HM.out]
  clear HM HG1 HG2 HP HC HF hb1 hi hz0 hz1 hz2 hsz1 h1c
  go_wp2
  go_loopw [4] (fun i wr => ∃ (k : Nat), k ≤ 5 ∧ i = .int .i64 ((n : Int) + k) ∧ Below w.heap.size w wr ∧ Hid (∃ l', RowB wr w.heap.size l' ∧ l'.length = n + 5 ∧ l'.take (n + k) = l ++ List.replicate k 201)) (fun i _ => n + 5 - (intOf i).toNat)
  case atStart => exact ⟨0, by omega, by go_num, hb2, HR⟩
  case round =>
    clear HR
    obtain ⟨k, hk, rfl, hbw, HI⟩ := hrel
    by_cases hlt : k < 5
    · obtain ⟨l', hR', hL', hE'⟩ := HI.out
      have d0 := hR'.cell (n + k) (by omega)
      have hf := hR'.frozen (n + k)
      have HN : Hid (∃ l', RowB (wr.setCell ⟨w.heap.size, n + k, none⟩ (.int .u8 201)) w.heap.size l' ∧ l'.length = n + 5 ∧ l'.take (n + (k + 1)) = l ++ List.replicate (k + 1) 201) :=
        ⟨l'.set (n + k) 201, hR'.set _ _, by simp [hL'], by rw [← Nat.add_assoc, take_set_step l' _ (n + k) 201 (by omega) hE', List.replicate_succ', List.append_assoc]⟩
      have HB2 : Hid (Below w.heap.size w (wr.setCell ⟨w.heap.size, n + k, none⟩ (.int .u8 201))) := hbw.setCell (by simp) _
      have hnk : ((n : Int) + (k : Int)).toNat = n + k := by omega
      generalize l'.getD (n + k) 0 = y at d0
      clear hE' hR' hL' HI
      go_wp2
      go_roundw
      case rel => exact ⟨k + 1, by omega, by go_num, HB2.out, HN⟩
      case measure => simp [intOf]; omega
    · obtain rfl : k = 5 := by omega
      go_wp2
      go_ret
      obtain ⟨l', hR', hL', hE'⟩ := HI.out
      rw [List.take_of_length_le (by omega)] at hE'
      rw [hE'] at hR'
      exact ⟨rfl, hR', hbw⟩
theorem xor_bd (x : Int) (h0 : 0 ≤ x) (h1 : x < 256) : 0 ≤ bits .xor .u8 x 33 ∧ bits .xor .u8 x 33 < 256 := by
  have h : ∀ n : Fin 256, 0 ≤ bits .xor .u8 (n.val : Int) 33 ∧ bits .xor .u8 (n.val : Int) 33 < 256 := by decide +kernel
  have := h ⟨x.toNat, by omega⟩
  simpa [Int.toNat_of_nonneg h0] using this
theorem ByteL.set {l : List Int} (h : ByteL l) (k : Nat) (x : Int) (hx : 0 ≤ x ∧ x < 256) : ByteL (l.set k x) := fun j => by
  have := h j
  simp only [List.getD_eq_getElem?_getD, List.getElem?_set] at this ⊢
  split
  · split
    · simpa using hx
    · simp
  · exact this
set_option maxHeartbeats 2000000 in
theorem back14 (l : List Int) (ad : Option Addr) (n cap g N : Nat) (w : World) (hn : Hid (l.length = n)) (hl : Hid (BytesAt N w (.slice ad n cap) l)) (hL : Hid (ByteL l)) (hR : Hid (RowB w g (l ++ List.replicate 5 201))) (hg : N ≤ g) (hm : n ≤ 100000000) :
    Calls Tryd.prog 14 #[.slice (some ⟨g, 0, none⟩) (n + 5) (n + 5), .slice ad n cap] w fun e w' => e = .returned (.bool true) ∧ (∃ l2, RowB w' g l2 ∧ l2.length = n + 5 ∧ ByteL l2) ∧ (∀ b, b ≠ g → w'.heap[b]? = w.heap[b]?) ∧ Below g w w' := by
  have HST : Hid (∃ l', RowB w g l' ∧ l'.length = n + 5 ∧ ByteL l' ∧ ∀ j, 0 ≤ j → l'.getD j 0 = (l ++ List.replicate 5 201).getD j 0) := by
    refine ⟨_, hR.out, by simp [hn.out], ?_, fun j _ => rfl⟩
    intro j
    by_cases h1 : j < l.length
    · have := hL.out j
      simpa [List.getD_eq_getElem?_getD, List.getElem?_append_left h1] using this
    · simp only [List.getD_eq_getElem?_getD, List.getElem?_append_right (show l.length ≤ j by omega), List.getElem?_replicate]
      split <;> simp
  go_enter Tryd.func14, Tryd.ntmps14
  go_wp2
  go_loopw [5, 6] (fun o i wr => ∃ (k : Nat), k ≤ n + 5 ∧ i = .int .i64 k ∧ o = .bool true ∧ Below g w wr ∧ Hid (∀ b, b ≠ g → wr.heap[b]? = w.heap[b]?) ∧ Hid (∃ l', RowB wr g l' ∧ l'.length = n + 5 ∧ ByteL l' ∧ ∀ j, k ≤ j → l'.getD j 0 = (l ++ List.replicate 5 201).getD j 0)) (fun _ i _ => n + 5 - (intOf i).toNat)
  case atStart => exact ⟨0, by omega, rfl, rfl, Below.refl _ _, by intro b _; rfl, HST⟩
  case round =>
    clear HST
    obtain ⟨k, hk, rfl, rfl, hbw, HO, HI⟩ := hrel
    by_cases hlt : k < n + 5
    · obtain ⟨l', hR', hL', hB', hE'⟩ := HI.out
      have d0 := hR'.cell k (by omega)
      have hf := hR'.frozen k
      have hx := hB' k
      rw [hE' k (Nat.le_refl _)] at d0 hx
      have hxx := xor_bd _ hx.1 hx.2
      generalize hy : (l ++ List.replicate 5 201).getD k 0 = y at d0 hx hxx
      have HN : Hid (∃ l', RowB (wr.setCell ⟨g, k, none⟩ (.int .u8 (bits .xor .u8 y 33))) g l' ∧ l'.length = n + 5 ∧ ByteL l' ∧ ∀ j, k + 1 ≤ j → l'.getD j 0 = (l ++ List.replicate 5 201).getD j 0) :=
        ⟨l'.set k _, hR'.set _ _, by simp [hL'], hB'.set _ _ hxx, fun j hj => by
          rw [← hE' j (by omega)]
          simp [List.getD_eq_getElem?_getD, List.getElem?_set, show ¬ k = j by omega]⟩
      have HB2 : Hid (Below g w (wr.setCell ⟨g, k, none⟩ (.int .u8 (bits .xor .u8 y 33)))) := hbw.setCell (by simp) _
      have HO2 : Hid (∀ b, b ≠ g → (wr.setCell ⟨g, k, none⟩ (.int .u8 (bits .xor .u8 y 33))).heap[b]? = w.heap[b]?) := by
        intro b hb
        rw [heap_setCell_other wr ⟨g, k, none⟩ b _ hb]
        exact HO.out b hb
      clear hE' hR' hL' hB' HI hxx
      have hk5 : (k : Int) < (n : Int) + 5 := by omega
      by_cases hkn : k < n
      · obtain ⟨ad', cap', he, hc1, hc2, h | ⟨b, off, rfl, hbN, hc⟩⟩ := hl.out
        · exact absurd h (by rw [hn.out]; omega)
        · simp only [Value.slice.injEq] at he
          obtain ⟨rfl, -, rfl⟩ := he
          have d1 : wr.cell? ⟨b, off + k, none⟩ = some (.int .u8 y) := by
            rw [World.cell?_of_block (a := ⟨b, off + k, none⟩) (HO.out b (by omega)), hc k (by rw [hn.out]; exact hkn), ← hy]
            simp [List.getD_eq_getElem?_getD, List.getElem?_append_left (show k < l.length by rw [hn.out]; exact hkn)]
          clear hy hc
          have hkn2 : (k : Int) < (n : Int) := by omega
          go_wp2
          go_roundw
          case rel => exact ⟨k + 1, by omega, by go_num, rfl, HB2.out, HO2, HN⟩
          case measure => simp [intOf]; omega
      · have hy2 : y = 201 := by
          rw [← hy]
          simp only [List.getD_eq_getElem?_getD, List.getElem?_append_right (show l.length ≤ k by rw [hn.out]; omega), List.getElem?_replicate]
          rw [if_pos (by rw [hn.out]; omega)]; rfl
        subst hy2
        clear hy
        have hkn2 : ¬ (k : Int) < (n : Int) := by omega
        go_wp2
        go_roundw
        case rel => exact ⟨k + 1, by omega, by go_num, rfl, HB2.out, HO2, HN⟩
        case measure => simp [intOf]; omega
    · obtain rfl : k = n + 5 := by omega
      go_wp2
      go_ret
      obtain ⟨l', hR', hL', hB', hE'⟩ := HI.out
      exact ⟨rfl, ⟨l', hR', hL', hB'⟩, HO.out, hbw⟩
end Go.Proofs.YtjglehklfdhgaaaDoor
