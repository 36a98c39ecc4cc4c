/- HELPERS: the law MirrorBacks walked. -/
import Derived.Test.YtilpkeipjlnogaaBc
import Derived.Test.YtilpkeipjlnogaaTw
import Derived.Laws.CopyOwn
namespace Go.Proofs.Ytilpkeipjlnogaa
open Go.RowKit
set_option linter.unusedVariables false
set_option linter.unusedSimpArgs false
theorem size3 : (Try.prog.info? 3).map (·.size) = some 1 := by kernel_rfl
theorem copied (l : List Int) (n : Nat) (hl : n = l.length) : ((splice (I64 (List.replicate (n + 2) 0)) 0 (I64 l)).set n (.int .i64 (-77))).set (n + 1) (.int .i64 (-78)) = I64 (l ++ [-77, -78]) := by
  subst hl
  apply List.ext_getElem?
  intro j
  have hsp : splice (I64 (List.replicate (l.length + 2) 0)) 0 (I64 l) = I64 (l ++ [0, 0]) := by
    have e2 : l.length + 2 - l.length = 2 := by omega
    simp [splice, I64, List.map_replicate, List.drop_replicate, e2]
  rw [hsp]
  simp only [I64, List.map_append, List.map_cons, List.map_nil]
  by_cases h1 : j < l.length
  · rw [List.getElem?_set_ne (by omega), List.getElem?_set_ne (by omega), List.getElem?_append_left (by simpa using h1), List.getElem?_append_left (by simpa using h1)]
  · by_cases h2 : j = l.length
    · subst h2
      rw [List.getElem?_set_ne (by omega), List.getElem?_set_self (by simp), List.getElem?_append_right (by simp)]
      simp
    · by_cases h3 : j = l.length + 1
      · subst h3
        rw [List.getElem?_set_self (by simp), List.getElem?_append_right (by simp)]
        simp
      · rw [List.getElem?_eq_none (by simp; omega), List.getElem?_eq_none (by simp; omega)]
theorem src_pre {w : World} {b : Nat} {l m : List Int} (h : w.heap[b]? = some (.cells (I64 (l ++ m)).toArray 3 (0, 0))) : SrcI w (some ⟨b, 0, none⟩) l := fun hp => ⟨b, 0, rfl, (Array.getElem?_eq_some_iff.1 h).1, fun k hk => by
  rw [Nat.zero_add, Joins.cell_of_block h]
  simp [I64, List.getElem?_append_left, hk]⟩
set_option maxRecDepth 100000 in
set_option maxHeartbeats 16000000 in
theorem backs4 (l : List Int) (n : Nat) (ad : Option Addr) (cap : Nat) (w : World) (hl : n = l.length) (hn : n * 8 ≤ 140737488351232) (hcap : n ≤ cap) (hs : SrcI w ad l) :
    Calls Try.prog 4 #[.slice ad n cap] w fun e w' => e = .returned (.bool true) ∧ Below w.heap.size w w' := by
  have HS := hid hs
  have HL := hid hl
  clear hs hl
  have HA := awake8 w
  go_enter Try.func4, Try.ntmps4
  go_upto_region 2 with (go_at_call 8; (with_reducible refine HA.mono ?_); rintro e U1 ⟨rfl, hb⟩; have HB1 := hid hb; clear hb HA)
  have HC := rback19 l n ad cap U1 HL.out (by omega) (HS.out.kept HB1.out)
  go_upto_region 3 with (go_at_call 19; (with_reducible refine HC.mono ?_); rintro e U2 ⟨wa, wc, rfl, hr, hb⟩; have HW2 := hid hr; have HB2 := hid hb; clear hb hr HC)
  have hmk := makeI (n + 2) (by omega) U2
  rw [show ((n + 2 : Nat) : Int) = (n : Int) + 2 by push_cast; rfl] at hmk
  have ad2 : IntKind.i64.wrap ((n : Int) + 2) = (n : Int) + 2 := by simp [IntKind.wrap, IntKind.bits, IntKind.signed]; omega
  have HV0 : Hid ((U2.alloc (.cells (madeCells #[.int .i64 0] (n + 2)) 3)).heap[U2.heap.size]? = some (.cells (I64 (List.replicate (n + 2) 0)).toArray 3 (0, 0))) := by
    have := heap_alloc_new U2 (.cells (madeCells #[.int .i64 0] (n + 2)) 3)
    have e : madeCells #[.int .i64 0] (n + 2) = (I64 (List.replicate (n + 2) 0)).toArray := by
      apply Array.ext'
      rw [toList_madeCells_one]
      simp [I64]
    rw [e] at this ⊢
    exact this
  have hBV0 : Below U2.heap.size U2 (U2.alloc (.cells (madeCells #[.int .i64 0] (n + 2)) 3)) := Joins.below_alloc1 U2 _
  obtain ⟨V0, hV0⟩ : ∃ V, V = U2.alloc (.cells (madeCells #[.int .i64 0] (n + 2)) 3) := ⟨_, rfl⟩
  rw [← hV0] at hmk HV0 hBV0
  have HBV0 := hid hBV0
  clear hV0 hBV0
  go_upto_region 4 with fail
  have HBU : Hid (Below w.heap.size w U2) := HB1.out.trans (Joins.below_le HB2.out HB1.out.size)
  have hcn : (I64 l).length = Nat.min n (n + 2) := by rw [List.length_map, ← HL.out]; simp [Nat.min_def]
  have hcf : 0 + (I64 l).length ≤ (I64 (List.replicate (n + 2) 0)).length := by rw [List.length_map, ← HL.out]; simp
  have hcp : 0 < (I64 l).length → ∃ ad', ad = some ad' ∧ ∀ j v, (I64 l)[j]? = some v → V0.cell? (ad'.add j) = some v := by
    intro h0
    obtain ⟨b, o, h1, h2, h3⟩ := HS.out (by simpa using h0)
    refine ⟨_, h1, fun j v hj => ?_⟩
    have hjl : j < l.length := by
      have := (List.getElem?_eq_some_iff.1 hj).1
      simpa using this
    have hbk : V0.heap[b]? = w.heap[b]? := (HBV0.out.block b (by have := HBU.out.size; omega)).trans (HBU.out.block b h2)
    rw [Addr.add_mid, (cell_eq hbk _).trans (h3 j hjl), ← hj]
    simp [List.getElem?_eq_getElem hjl]
  have HCN := hid hcn
  have HCF := hid hcf
  have HCP := hid hcp
  have HCO := hid (copied l n HL.out)
  have h1c := one_cell_ints l
  have HLS : Hid ((splice (I64 (List.replicate (n + 2) 0)) 0 (I64 l)).length = n + 2) := by
    show _ = _
    rw [length_splice _ _ _ hcf]; simp
  obtain ⟨zi, hzi⟩ : ∃ z, z = U2.heap.size := ⟨_, rfl⟩
  rw [← hzi] at HV0 HBV0 hmk ⊢
  have HZI := hid hzi
  clear hcn hcf hcp hzi hmk
  generalize hX : I64 l = X at *
  generalize hZ : I64 (List.replicate (n + 2) 0) = Z at *
  have HXX := hid hX
  clear hX hZ
  go_upto_region 5 with (refine wpList_copy_splice rfl (.tmp 25) (.tmp 26) 39 39 rfl 3 Try.underlying39 size3 _ _ _ _ _ _ rfl rfl zi 0 Z 3 HV0.out X HCN.out (fun h => ⟨rfl, HCP.out h⟩) HCF.out h1c zi U2 HBV0.out (Nat.le_refl _) ?_; intro V1 HV1 hbV1)
  have HBV1 := hid hbV1
  have f0 := fun k => Joins.unfrozen_of_block HV1.out k
  have f1 := f0 n
  have f2 := f0 (n + 1)
  have c1 : V1.cell? ⟨zi, n, none⟩ = some ((splice Z 0 X)[n]'(by rw [HLS.out]; omega)) := by rw [Joins.cell_of_block HV1.out]; simp [HLS.out]
  have c2 : V1.cell? ⟨zi, n + 1, none⟩ = some ((splice Z 0 X)[n + 1]'(by rw [HLS.out]; omega)) := by rw [Joins.cell_of_block HV1.out]; simp [HLS.out]
  generalize (splice Z 0 X)[n]'(by rw [HLS.out]; omega) = v1 at c1
  generalize (splice Z 0 X)[n + 1]'(by rw [HLS.out]; omega) = v2 at c2
  have i1 : (n : Int) < ((n + 2 : Nat) : Int) := by omega
  have i1' : (n : Int) < (n : Int) + 2 := by omega
  have i2 : (n : Int) + 1 < (n : Int) + 2 := by omega
  have ad1 : IntKind.i64.wrap ((n : Int) + 1) = ((n + 1 : Nat) : Int) := by simp [IntKind.wrap, IntKind.bits, IntKind.signed]; omega
  have i3 : ((n + 1 : Nat) : Int) < ((n + 2 : Nat) : Int) := by omega
  clear f0 hbV1
  go_upto_region 7 with fail
  obtain ⟨V, hV⟩ : ∃ V, V = (V1.setCell ⟨zi, n, none⟩ (.int .i64 (-77))).setCell ⟨zi, n + 1, none⟩ (.int .i64 (-78)) := ⟨_, rfl⟩
  rw [← hV]
  have HI0 : Hid (V.heap[zi]? = some (.cells (I64 (l ++ [-77, -78])).toArray 3 (0, 0))) := by
    have e1 := Joins.block_setCell (i := n) HV1.out (.int .i64 (-77))
    have e2 := Joins.block_setCell (i := n + 1) e1 (.int .i64 (-78))
    show V.heap[zi]? = some (.cells (I64 (l ++ [-77, -78])).toArray 3 (0, 0))
    rw [hV, e2, ← HCO.out]
    congr 2
    simp
  have HQ0 : Hid (Below zi U2 V) := by rw [hV]; exact (HBV1.out.setCell (by exact Nat.le_refl _) _).setCell (by exact Nat.le_refl _) _
  have HWS : Hid (∀ V', Below zi U2 V' → SrcI V' wa l.reverse) := fun V' h => (row_src HW2.out).kept (by rw [← HZI.out]; exact h)
  have HTS : Hid (∀ V', Below zi U2 V' → SrcI V' ad l) := fun V' h => (HS.out.kept HBU.out).kept (by rw [← HZI.out]; exact h)
  have HFIN : Hid (∀ V', Below zi U2 V' → Below w.heap.size w V') := fun V' h => HBU.out.trans (Joins.below_le h (by have := HBU.out.size; have := HZI.out; omega))
  have HLR : Hid (n = l.reverse.length) := by show n = _; rw [List.length_reverse]; exact HL.out
  have hzl0 : zi < V.heap.size := lt_of_block HI0.out
  have i4 : (n : Int) ≤ (n : Int) + 2 := by omega
  have i5 : (n : Int) ≤ ((n + 2 : Nat) : Int) := by omega
  have i6 : n ≤ n + 2 := by omega
  clear c1 c2 f1 f2 hV HV1 HBV1 HV0 HBV0 HCN HCF HCP HCO h1c HLS HXX HBU HW2 HS HB1 HB2
  have HC := back20 l n (some ⟨zi, 0, none⟩) (n + 2) V HL.out (by omega) (src_pre HI0.out)
  go_upto_region 8 with (go_at_call 20; (with_reducible refine HC.mono ?_); rintro e U3 ⟨rfl, hr, hb⟩; have HR := hid hr; have HBS := hid hb; clear hr hb HC)
  obtain ⟨za, hza⟩ : ∃ z, z = V.heap.size := ⟨_, rfl⟩
  rw [← hza] at HR ⊢
  have HRa1 : Hid (RI U3 za l.reverse) := HR.out
  have hlta : zi < za := by rw [hza]; exact hzl0
  clear hza HR
  have HI1 : Hid (U3.heap[zi]? = some (.cells (I64 (l ++ [-77, -78])).toArray 3 (0, 0))) := bx_step HBS.out HI0.out
  have HQ1 : Hid (Below zi U2 U3) := bl_step HBS.out HQ0.out (by omega)
  have hzl1 : zi < U3.heap.size := lt_of_block HI1.out
  clear HBS HI0 HQ0 hzl0
  have HC := back20 l n (some ⟨zi, 0, none⟩) (n + 2) U3 HL.out (by omega) (src_pre HI1.out)
  go_upto_region 9 with (go_at_call 20; (with_reducible refine HC.mono ?_); rintro e U4 ⟨rfl, hr, hb⟩; have HR := hid hr; have HBS := hid hb; clear hr hb HC)
  obtain ⟨zb, hzb⟩ : ∃ z, z = U3.heap.size := ⟨_, rfl⟩
  rw [← hzb] at HR ⊢
  have HRb2 : Hid (RI U4 zb l.reverse) := HR.out
  have hltb : za < zb := by rw [hzb]; exact lt_of_block HRa1.out
  clear hzb HR
  have HI2 : Hid (U4.heap[zi]? = some (.cells (I64 (l ++ [-77, -78])).toArray 3 (0, 0))) := bx_step HBS.out HI1.out
  have HQ2 : Hid (Below zi U2 U4) := bl_step HBS.out HQ1.out (by omega)
  have hzl2 : zi < U4.heap.size := lt_of_block HI2.out
  have HRa2 : Hid (RI U4 za l.reverse) := bx_step HBS.out HRa1.out
  clear HBS HI1 HQ1 hzl1 HRa1
  have HC := back20 l.reverse n (some ⟨za, 0, none⟩) n U4 HLR.out (by omega) (RI.src HRa2.out)
  go_upto_region 10 with (go_at_call 20; (with_reducible refine HC.mono ?_); rintro e U5 ⟨rfl, hr, hb⟩; have HR := hid hr; have HBS := hid hb; clear hr hb HC)
  obtain ⟨zc, hzc⟩ : ∃ z, z = U4.heap.size := ⟨_, rfl⟩
  rw [← hzc] at HR ⊢
  have HRc3 : Hid (RI U5 zc l.reverse.reverse) := HR.out
  have hltc : zb < zc := by rw [hzc]; exact lt_of_block HRb2.out
  clear hzc HR
  have HI3 : Hid (U5.heap[zi]? = some (.cells (I64 (l ++ [-77, -78])).toArray 3 (0, 0))) := bx_step HBS.out HI2.out
  have HQ3 : Hid (Below zi U2 U5) := bl_step HBS.out HQ2.out (by omega)
  have hzl3 : zi < U5.heap.size := lt_of_block HI3.out
  have HRa3 : Hid (RI U5 za l.reverse) := bx_step HBS.out HRa2.out
  have HRb3 : Hid (RI U5 zb l.reverse) := bx_step HBS.out HRb2.out
  clear HBS HI2 HQ2 hzl2 HRa2 HRb2
  rw [List.reverse_reverse] at HRc3
  have HC := same21 l.reverse n (some ⟨za, 0, none⟩) wa n wc U5 HLR.out (by omega) (RI.src HRa3.out) (HWS.out _ HQ3.out)
  go_upto_region 11 with (go_at_call 21; (with_reducible refine HC.mono ?_); rintro e U6 ⟨rfl, hb⟩; have HBS := hid hb; clear hb HC)
  have HI4 : Hid (U6.heap[zi]? = some (.cells (I64 (l ++ [-77, -78])).toArray 3 (0, 0))) := bx_step HBS.out HI3.out
  have HQ4 : Hid (Below zi U2 U6) := bl_step HBS.out HQ3.out (by omega)
  have hzl4 : zi < U6.heap.size := lt_of_block HI4.out
  have HRa4 : Hid (RI U6 za l.reverse) := bx_step HBS.out HRa3.out
  have HRb4 : Hid (RI U6 zb l.reverse) := bx_step HBS.out HRb3.out
  have HRc4 : Hid (RI U6 zc l) := bx_step HBS.out HRc3.out
  clear HBS HI3 HQ3 hzl3 HRa3 HRb3 HRc3
  have HC := same21 l.reverse n (some ⟨zb, 0, none⟩) wa n wc U6 HLR.out (by omega) (RI.src HRb4.out) (HWS.out _ HQ4.out)
  go_upto_region 12 with (go_at_call 21; (with_reducible refine HC.mono ?_); rintro e U7 ⟨rfl, hb⟩; have HBS := hid hb; clear hb HC)
  have HI5 : Hid (U7.heap[zi]? = some (.cells (I64 (l ++ [-77, -78])).toArray 3 (0, 0))) := bx_step HBS.out HI4.out
  have HQ5 : Hid (Below zi U2 U7) := bl_step HBS.out HQ4.out (by omega)
  have hzl5 : zi < U7.heap.size := lt_of_block HI5.out
  have HRa5 : Hid (RI U7 za l.reverse) := bx_step HBS.out HRa4.out
  have HRb5 : Hid (RI U7 zb l.reverse) := bx_step HBS.out HRb4.out
  have HRc5 : Hid (RI U7 zc l) := bx_step HBS.out HRc4.out
  clear HBS HI4 HQ4 hzl4 HRa4 HRb4 HRc4
  have HC := same21 l n (some ⟨zc, 0, none⟩) ad n cap U7 HL.out (by omega) (RI.src HRc5.out) (HTS.out _ HQ5.out)
  go_upto_region 13 with (go_at_call 21; (with_reducible refine HC.mono ?_); rintro e U8 ⟨rfl, hb⟩; have HBS := hid hb; clear hb HC)
  have HI6 : Hid (U8.heap[zi]? = some (.cells (I64 (l ++ [-77, -78])).toArray 3 (0, 0))) := bx_step HBS.out HI5.out
  have HQ6 : Hid (Below zi U2 U8) := bl_step HBS.out HQ5.out (by omega)
  have hzl6 : zi < U8.heap.size := lt_of_block HI6.out
  have HRa6 : Hid (RI U8 za l.reverse) := bx_step HBS.out HRa5.out
  have HRb6 : Hid (RI U8 zb l.reverse) := bx_step HBS.out HRb5.out
  have HRc6 : Hid (RI U8 zc l) := bx_step HBS.out HRc5.out
  clear HBS HI5 HQ5 hzl5 HRa5 HRb5 HRc5
  have HC := same21 l n (some ⟨zi, 0, none⟩) ad (n + 2) cap U8 HL.out (by omega) (src_pre HI6.out) (HTS.out _ HQ6.out)
  go_upto_region 14 with (go_at_call 21; (with_reducible refine HC.mono ?_); rintro e U9 ⟨rfl, hb⟩; have HBS := hid hb; clear hb HC)
  have HI7 : Hid (U9.heap[zi]? = some (.cells (I64 (l ++ [-77, -78])).toArray 3 (0, 0))) := bx_step HBS.out HI6.out
  have HQ7 : Hid (Below zi U2 U9) := bl_step HBS.out HQ6.out (by omega)
  have hzl7 : zi < U9.heap.size := lt_of_block HI7.out
  have HRa7 : Hid (RI U9 za l.reverse) := bx_step HBS.out HRa6.out
  have HRb7 : Hid (RI U9 zb l.reverse) := bx_step HBS.out HRb6.out
  have HRc7 : Hid (RI U9 zc l) := bx_step HBS.out HRc6.out
  clear HBS HI6 HQ6 hzl6 HRa6 HRb6 HRc6
  have c1 : U9.cell? ⟨zi, n, none⟩ = some (.int .i64 (-77)) := by rw [Joins.cell_of_block HI7.out]; simp [I64, HL.out]
  have c2 : U9.cell? ⟨zi, n + 1, none⟩ = some (.int .i64 (-78)) := by rw [Joins.cell_of_block HI7.out]; simp [I64, HL.out]
  go_wp2_with fail
  clear c1 c2
  obtain ⟨i3, hi3, hz30, hz31, hz32⟩ := info_parts info3
  go_loopw [13] (fun y wq => ∃ i : Nat, y = .int .i64 (i : Int) ∧ i ≤ n ∧ Hid (∃ arr : Array Value, wq.heap[za]? = some (.cells arr 3 (0, 0)) ∧ arr.size = n) ∧ Hid (wq.heap[zi]? = some (.cells (I64 (l ++ [-77, -78])).toArray 3 (0, 0))) ∧ Hid (RI wq zb l.reverse) ∧ Hid (RI wq zc l) ∧ Hid (Below zi U2 wq)) (fun y _ => n - (intOf y).toNat)
  case atStart => exact ⟨0, rfl, by omega, ⟨_, HRa7.out, by simp [HL.out]⟩, HI7.out, HRb7.out, HRc7.out, HQ7.out⟩
  case round =>
    obtain ⟨i, rfl, hi, HAR, HI, HRb, HRc, HQ⟩ := hrel
    by_cases hil : i < n
    · have b1 : decide ((i : Int) < (n : Int)) = true := by simp; omega
      have b2 : (i : Int) < (n : Int) := by omega
      have ad3 : IntKind.i64.wrap ((i : Int) + 1) = (i : Int) + 1 := by simp [IntKind.wrap, IntKind.bits, IntKind.signed]; omega
      obtain ⟨arr, h1, h2⟩ := HAR.out
      have f0 := Joins.unfrozen_of_block h1 i
      have c0 : wr.cell? ⟨za, i, none⟩ = some (arr[i]'(by omega)) := by rw [Joins.cell_of_block h1, Array.getElem?_eq_getElem]
      generalize arr[i]'(by omega) = v0 at c0
      have HST := hid (Joins.block_setCell (i := i) h1 (.int .i64 (-9)))
      have H2 := hid h2
      clear h1 h2 HAR
      go_wp2
      exact ⟨⟨i + 1, by push_cast; rfl, by omega, ⟨_, HST.out, by simp [H2.out]⟩, (Below.heap_setCell _ _ _ _ (by show zi ≠ za; omega)).trans HI.out, (Below.heap_setCell _ _ _ _ (by show zb ≠ za; omega)).trans HRb.out, (Below.heap_setCell _ _ _ _ (by show zc ≠ za; omega)).trans HRc.out, HQ.out.setCell (by show zi ≤ za; omega) _⟩, by simp [intOf]; omega⟩
    · have b1 : decide ((i : Int) < (n : Int)) = false := by simp; omega
      have HOWN : Hid (∃ xs, wr.ownsRow zi 3 1 (.slice (some ⟨za, 0, none⟩) n n) n xs) := by
        obtain ⟨arr, h1, h2⟩ := HAR.out
        exact ⟨arr.toList, by simp [h2], .inr ⟨za, n, arr, rfl, by omega, h1, Nat.le_refl _, by unfold maxLen; omega, by omega, List.take_of_length_le (by simp [h2])⟩⟩
      have hzc : zc < wr.heap.size := lt_of_block HRc.out
      clear HAR
      go_wp2_with fail
      clear b1
      go_loopw [6, 14] (fun u y wq => ∃ (i2 : Nat) (p : Option Addr) (c : Nat), u = .slice p (n + i2) c ∧ y = .int .i64 (i2 : Int) ∧ i2 ≤ 9 ∧ Hid (∃ xs, wq.ownsRow zi 3 1 (.slice p (n + i2) c) (n + i2) xs) ∧ Hid (∀ b, (Value.slice p (n + i2) c).ownBlock = some b → b = za ∨ zc < b) ∧ zc < wq.heap.size ∧ Hid (wq.heap[zi]? = some (.cells (I64 (l ++ [-77, -78])).toArray 3 (0, 0))) ∧ Hid (RI wq zb l.reverse) ∧ Hid (RI wq zc l) ∧ Hid (Below zi U2 wq)) (fun _ y _ => 9 - (intOf y).toNat)
      case atStart => exact ⟨0, _, _, rfl, rfl, by omega, HOWN.out, fun b hb => by simp [Value.ownBlock] at hb; exact .inl hb.symm, hzc, HI.out, HRb.out, HRc.out, HQ.out⟩
      case round =>
        clear HI HRb HRc HQ HOWN hzc
        obtain ⟨i2, p, c, rfl, rfl, hi2, HOWN, HBL, hzc, HI, HRb, HRc, HQ⟩ := hrel
        by_cases hil2 : i2 < 9
        · have b1 : decide ((i2 : Int) < 9) = true := by simp; omega
          have ad3 : IntKind.i64.wrap ((i2 : Int) + 1) = (i2 : Int) + 1 := by simp [IntKind.wrap, IntKind.bits, IntKind.signed]; omega
          obtain ⟨xs, hxs⟩ := HOWN.out
          have HXS := hid hxs
          have HSRC : Hid ((wr.alloc (.cells #[.int .i64 (-9)] 3)).ownsRow 0 3 1 (.slice (some ⟨wr.heap.size, 0, none⟩) 1 1) 1 [.int .i64 (-9)]) :=
            World.ownsRow_lit (base := 0) (e := 3) (size := 1) wr #[.int .i64 (-9)] 1 (by omega) (by unfold maxLen; omega) rfl
          clear hxs HOWN
          go_wp2_with (first | (at_builtin; refine wpList_append_row rfl (.tmp 112) (.tmp 113) 39 rfl zi 3 i3 (.int .i64 0) 1 8 Try.underlying39 hi3 hz30 hz31 hz32 rfl (by decide) (.slice p (n + i2) c) (n + i2) xs rfl (HXS.out.alloc _) (.slice (some ⟨wr.heap.size, 0, none⟩) 1 1) 1 0 [.int .i64 (-9)] rfl HSRC.out (by omega) (by simp [Value.oneCell']) (by unfold maxLen; omega) (by omega) (by simp; omega) ?_; intro v4 w4 ho4 hf4 _; obtain ⟨p3, p4, rfl, _⟩ := row_shape ho4.out))
          have hkp : ∀ b, b ≤ zc → b ≠ za → w4.heap[b]? = wr.heap[b]? := fun b h1 h2 => (hf4.out.block b (by simp; omega) (fun h => by rcases HBL.out b h with h | h <;> omega)).trans (heap_alloc_old _ _ (by omega))
          have hsz4 : wr.heap.size + 1 ≤ w4.heap.size := by have := hf4.out.size; simpa using this
          refine ⟨⟨i2 + 1, p3, p4, rfl, by push_cast; rfl, by omega, ⟨_, ho4.out⟩, fun b hb => ?_, by omega, (hkp zi (by omega) (by omega)).trans HI.out, (hkp zb (by omega) (by omega)).trans HRb.out, (hkp zc (by omega) (by omega)).trans HRc.out, ⟨hf4.out.os.trans HQ.out.os, hf4.out.tape.trans HQ.out.tape, hf4.out.output.trans HQ.out.output, by have := HQ.out.size; omega, fun b hb => (hkp b (by omega) (by omega)).trans (HQ.out.block b hb)⟩⟩, by simp [intOf]; omega⟩
          rcases hf4.out.own b hb with h | h
          · exact HBL.out b h
          · simp at h; right; omega
        · have b1 : decide ((i2 : Int) < 9) = false := by simp; omega
          obtain rfl : i2 = 9 := by omega
          go_wp2_with fail
          clear b1
          have HARI : Hid (∃ arr : Array Value, wr.heap[zi]? = some (.cells arr 3 (0, 0)) ∧ arr.size = n + 2) := ⟨_, HI.out, by simp [I64, HL.out]⟩
          go_loopw [15] (fun y wq => ∃ i4 : Nat, y = .int .i64 (i4 : Int) ∧ i4 ≤ n + 2 ∧ Hid (∃ arr : Array Value, wq.heap[zi]? = some (.cells arr 3 (0, 0)) ∧ arr.size = n + 2) ∧ Hid (RI wq zb l.reverse) ∧ Hid (RI wq zc l) ∧ Hid (Below zi U2 wq)) (fun y _ => n + 2 - (intOf y).toNat)
          case atStart => exact ⟨0, rfl, by omega, HARI.out, HRb.out, HRc.out, HQ.out⟩
          case round =>
            clear HI HRb HRc HQ HARI hzc HOWN HBL
            obtain ⟨i4, rfl, hi4, HARI, HRb, HRc, HQ⟩ := hrel
            by_cases hil4 : i4 < n + 2
            · have b1 : decide ((i4 : Int) < (n : Int) + 2) = true := by simp; omega
              have b2 : (i4 : Int) < (n : Int) + 2 := by omega
              have b3 : (i4 : Int) < ((n + 2 : Nat) : Int) := by omega
              have ad3 : IntKind.i64.wrap ((i4 : Int) + 1) = (i4 : Int) + 1 := by simp [IntKind.wrap, IntKind.bits, IntKind.signed]; omega
              obtain ⟨arr, h1, h2⟩ := HARI.out
              have f0 := Joins.unfrozen_of_block h1 i4
              have c0 : wr.cell? ⟨zi, i4, none⟩ = some (arr[i4]'(by omega)) := by rw [Joins.cell_of_block h1, Array.getElem?_eq_getElem]
              generalize arr[i4]'(by omega) = v0 at c0
              have HST := hid (Joins.block_setCell (i := i4) h1 (.int .i64 (-5)))
              have H2 := hid h2
              clear h1 h2 HARI
              go_wp2
              exact ⟨⟨i4 + 1, by push_cast; rfl, by omega, ⟨_, HST.out, by simp [H2.out]⟩, (Below.heap_setCell _ _ _ _ (by show zb ≠ zi; omega)).trans HRb.out, (Below.heap_setCell _ _ _ _ (by show zc ≠ zi; omega)).trans HRc.out, HQ.out.setCell (by exact Nat.le_refl _) _⟩, by simp [intOf]; omega⟩
            · have b1 : decide ((i4 : Int) < (n : Int) + 2) = false := by simp; omega
              have HC := same21 l.reverse n (some ⟨zb, 0, none⟩) wa n wc wr HLR.out (by omega) (RI.src HRb.out) (HWS.out _ HQ.out)
              have ad9 : IntKind.i64.wrap ((n : Int) + 9) = (n : Int) + 9 := by simp [IntKind.wrap, IntKind.bits, IntKind.signed]; omega
              have hzl : zi ≤ wr.heap.size := by have := HQ.out.size; have := HZI.out; omega
              clear HARI
              go_upto_region 29 with (go_at_call 21; (with_reducible refine HC.mono ?_); rintro e Y1 ⟨rfl, hb⟩; have HBS := hid hb; clear hb HC)
              have HC := same21 l n (some ⟨zc, 0, none⟩) ad n cap Y1 HL.out (by omega) (RI.src (bx_step HBS.out HRc.out)) (HTS.out _ (bl_step HBS.out HQ.out hzl))
              have e9 : ((n : Int) + 9 == (n : Int) + 9) = true := by simp
              go_wp2_with (first | (go_at_call 21; (with_reducible refine HC.mono ?_); rintro e Y2 ⟨rfl, hb⟩; have HBS2 := hid hb; clear hb HC))
              go_ret
              exact ⟨rfl, HFIN.out _ (bl_step HBS2.out (bl_step HBS.out HQ.out hzl) (by have := HBS.out.size; omega))⟩
end Go.Proofs.Ytilpkeipjlnogaa
