/- HELPERS: Run, asked wrongly; Run whole. -/
import Derived.Test.YtodpmmlfdkdemaaQb
namespace Go.Proofs.Ytodpmmlfdkdemaa
open Go.RowKit Go.Lk
set_option linter.unusedVariables false
set_option linter.unusedSimpArgs false
set_option maxRecDepth 100000 in
set_option maxHeartbeats 8000000 in
theorem run10_long {w : World} {ad tad : Option Addr} {n c tn tc : Nat} {s k a : Int} {anch : Bool} {l : List In} (hP : PI w w.heap.size ad n l) (hl : 4194304 < tn) :
    Calls Try.prog 14 #[pv ad n c s k, .slice tad tn tc, .int .i64 a, .bool anch] w (FE 2 w) := by
  obtain ⟨U, hU⟩ : ∃ U, U = (w.alloc (.cells #[.slice ad n c, .int .i64 s, .int .i64 k] 24)).alloc (.cells #[.bool false, .slice none 0 0, .int .i64 0, .int .i64 0] 30) := ⟨_, rfl⟩
  have hb : Below w.heap.size w U := by rw [hU]; exact below_two' w _ _
  have hX : U.heap[w.heap.size]? = some (.cells #[.slice ad n c, .int .i64 s, .int .i64 k] 24 (0, 0)) := by rw [hU]; exact (heap_alloc_old _ _ (by simp)).trans (heap_alloc_new w _)
  have hY : U.heap[w.heap.size + 1]? = some (.cells #[.bool false, .slice none 0 0, .int .i64 0, .int .i64 0] 30 (0, 0)) := by rw [hU]; exact two_new w _ _ _
  obtain ⟨x, hx⟩ : ∃ x, x = w.heap.size := ⟨_, rfl⟩
  obtain ⟨y, hy⟩ : ∃ y, y = w.heap.size + 1 := ⟨_, rfl⟩
  have hyU : w.heap.size + 1 < U.heap.size := (Array.getElem?_eq_some_iff.1 hY).1
  have hPU := hP.kept hb hb.size
  have HCK := check10 (c := c) (s := s) (k := k) hPU
  rw [← hx] at hX hb
  rw [← hy] at hY hyU
  obtain ⟨c0, c1, c2⟩ := three_cells hX
  have HB := hid hb
  have HX := hid hX
  have HY := hid hY
  have HXE := hid hx
  have hxy : x < y := by omega
  have b1 : decide ((4194304 : Int) < (tn : Int)) = true := by simp; omega
  have b1' : decide ((tn : Int) > (4194304 : Int)) = true := by simp; omega
  have s0 := Joins.unfrozen_of_block hY 0
  have s1 := Joins.unfrozen_of_block hY 1
  have s2 := Joins.unfrozen_of_block hY 2
  have s3 := Joins.unfrozen_of_block hY 3
  have y0 := Joins.cell_of_block hY 0
  have y1 := Joins.cell_of_block hY 1
  have y2 := Joins.cell_of_block hY 2
  have y3 := Joins.cell_of_block hY 3
  clear hP hPU hb hX hY
  go_enter Try.func14, Try.ntmps14
  go_upto_region 1 with fail
  rw [← hU, ← hy, ← hx]
  clear hU hx hy
  go_wp2
  refine bodyPost_ret (results_cell_tmp rfl _ _ y 30 _ (0, 0) _ rfl (Joins.block_setCell (i := 3) (Joins.block_setCell (i := 2) (Joins.block_setCell (i := 1) (Joins.block_setCell (i := 0) HY.out _) _) _) _) Try.underlying30 rfl (by kernel_rfl)) rfl ?_
  refine ⟨?_, rfl⟩
  rw [← HXE.out]
  exact (((HB.out.setCell (p := ⟨y, 0, none⟩) (by show x ≤ y; omega) _).setCell (p := ⟨y, 1, none⟩) (by show x ≤ y; omega) _).setCell (p := ⟨y, 2, none⟩) (by show x ≤ y; omega) _).setCell (p := ⟨y, 3, none⟩) (by show x ≤ y; omega) _
set_option maxRecDepth 100000 in
set_option maxHeartbeats 8000000 in
theorem run10_prog {w : World} {ad tad : Option Addr} {n c tn tc : Nat} {s k a : Int} {anch : Bool} {l : List In} (hP : PI w w.heap.size ad n l) (hl : tn ≤ 4194304) (hmay : mayB l s k = false) :
    Calls Try.prog 14 #[pv ad n c s k, .slice tad tn tc, .int .i64 a, .bool anch] w (FE 90 w) := by
  obtain ⟨U, hU⟩ : ∃ U, U = (w.alloc (.cells #[.slice ad n c, .int .i64 s, .int .i64 k] 24)).alloc (.cells #[.bool false, .slice none 0 0, .int .i64 0, .int .i64 0] 30) := ⟨_, rfl⟩
  have hb : Below w.heap.size w U := by rw [hU]; exact below_two' w _ _
  have hX : U.heap[w.heap.size]? = some (.cells #[.slice ad n c, .int .i64 s, .int .i64 k] 24 (0, 0)) := by rw [hU]; exact (heap_alloc_old _ _ (by simp)).trans (heap_alloc_new w _)
  have hY : U.heap[w.heap.size + 1]? = some (.cells #[.bool false, .slice none 0 0, .int .i64 0, .int .i64 0] 30 (0, 0)) := by rw [hU]; exact two_new w _ _ _
  obtain ⟨x, hx⟩ : ∃ x, x = w.heap.size := ⟨_, rfl⟩
  obtain ⟨y, hy⟩ : ∃ y, y = w.heap.size + 1 := ⟨_, rfl⟩
  have hyU : w.heap.size + 1 < U.heap.size := (Array.getElem?_eq_some_iff.1 hY).1
  have hPU := hP.kept hb hb.size
  have HCK := check10 (c := c) (s := s) (k := k) hPU
  rw [← hx] at hX hb
  rw [← hy] at hY hyU
  obtain ⟨c0, c1, c2⟩ := three_cells hX
  have HB := hid hb
  have HX := hid hX
  have HY := hid hY
  have HXE := hid hx
  have hxy : x < y := by omega
  have b1 : decide ((4194304 : Int) < (tn : Int)) = false := by simp; omega
  have b1' : decide ((tn : Int) > (4194304 : Int)) = false := by simp; omega
  rw [hmay] at HCK
  clear hmay
  clear hP hPU hb hX hY
  go_enter Try.func14, Try.ntmps14
  go_upto_region 1 with fail
  rw [← hU, ← hy, ← hx]
  clear hU hx hy
  go_upto_region 5 with (go_at_call 19; (with_reducible refine HCK.mono ?_); rintro e w2 ⟨rfl, hb2⟩; have HB2 := hid hb2; have hY2 := (hb2.block y hyU).trans HY.out; have HY2 := hid hY2; clear hb2 HCK c0 c1 c2 hY2)
  have s0 := Joins.unfrozen_of_block HY2.out 0
  have s1 := Joins.unfrozen_of_block HY2.out 1
  have s2 := Joins.unfrozen_of_block HY2.out 2
  have s3 := Joins.unfrozen_of_block HY2.out 3
  have y0 := Joins.cell_of_block HY2.out 0
  have y1 := Joins.cell_of_block HY2.out 1
  have y2 := Joins.cell_of_block HY2.out 2
  have y3 := Joins.cell_of_block HY2.out 3
  have HBW : Hid (Below x w w2) := HB.out.trans (Joins.below_le HB2.out (by omega))
  go_wp2
  refine bodyPost_ret (results_cell_tmp rfl _ _ y 30 _ (0, 0) _ rfl (Joins.block_setCell (i := 3) (Joins.block_setCell (i := 2) (Joins.block_setCell (i := 1) (Joins.block_setCell (i := 0) HY2.out _) _) _) _) Try.underlying30 rfl (by kernel_rfl)) rfl ?_
  refine ⟨?_, rfl⟩
  rw [← HXE.out]
  exact (((HBW.out.setCell (p := ⟨y, 0, none⟩) (by show x ≤ y; omega) _).setCell (p := ⟨y, 1, none⟩) (by show x ≤ y; omega) _).setCell (p := ⟨y, 2, none⟩) (by show x ≤ y; omega) _).setCell (p := ⟨y, 3, none⟩) (by show x ≤ y; omega) _
set_option maxRecDepth 100000 in
set_option maxHeartbeats 8000000 in
theorem run10_neg {w : World} {ad tad : Option Addr} {n c tn tc : Nat} {s k a : Int} {anch : Bool} {l : List In} (hP : PI w w.heap.size ad n l) (hl : tn ≤ 4194304) (hmay : mayB l s k = true) (ha : a < 0) :
    Calls Try.prog 14 #[pv ad n c s k, .slice tad tn tc, .int .i64 a, .bool anch] w (FE 1 w) := by
  obtain ⟨U, hU⟩ : ∃ U, U = (w.alloc (.cells #[.slice ad n c, .int .i64 s, .int .i64 k] 24)).alloc (.cells #[.bool false, .slice none 0 0, .int .i64 0, .int .i64 0] 30) := ⟨_, rfl⟩
  have hb : Below w.heap.size w U := by rw [hU]; exact below_two' w _ _
  have hX : U.heap[w.heap.size]? = some (.cells #[.slice ad n c, .int .i64 s, .int .i64 k] 24 (0, 0)) := by rw [hU]; exact (heap_alloc_old _ _ (by simp)).trans (heap_alloc_new w _)
  have hY : U.heap[w.heap.size + 1]? = some (.cells #[.bool false, .slice none 0 0, .int .i64 0, .int .i64 0] 30 (0, 0)) := by rw [hU]; exact two_new w _ _ _
  obtain ⟨x, hx⟩ : ∃ x, x = w.heap.size := ⟨_, rfl⟩
  obtain ⟨y, hy⟩ : ∃ y, y = w.heap.size + 1 := ⟨_, rfl⟩
  have hyU : w.heap.size + 1 < U.heap.size := (Array.getElem?_eq_some_iff.1 hY).1
  have hPU := hP.kept hb hb.size
  have HCK := check10 (c := c) (s := s) (k := k) hPU
  rw [← hx] at hX hb
  rw [← hy] at hY hyU
  obtain ⟨c0, c1, c2⟩ := three_cells hX
  have HB := hid hb
  have HX := hid hX
  have HY := hid hY
  have HXE := hid hx
  have hxy : x < y := by omega
  have b1 : decide ((4194304 : Int) < (tn : Int)) = false := by simp; omega
  have b1' : decide ((tn : Int) > (4194304 : Int)) = false := by simp; omega
  rw [hmay] at HCK
  clear hmay
  have b2 : decide (a < 0) = true := by simp [ha]
  clear hP hPU hb hX hY
  go_enter Try.func14, Try.ntmps14
  go_upto_region 1 with fail
  rw [← hU, ← hy, ← hx]
  clear hU hx hy
  go_upto_region 7 with (go_at_call 19; (with_reducible refine HCK.mono ?_); rintro e w2 ⟨rfl, hb2⟩; have HB2 := hid hb2; have hY2 := (hb2.block y hyU).trans HY.out; have HY2 := hid hY2; clear hb2 HCK c0 c1 c2 hY2)
  have s0 := Joins.unfrozen_of_block HY2.out 0
  have s1 := Joins.unfrozen_of_block HY2.out 1
  have s2 := Joins.unfrozen_of_block HY2.out 2
  have s3 := Joins.unfrozen_of_block HY2.out 3
  have y0 := Joins.cell_of_block HY2.out 0
  have y1 := Joins.cell_of_block HY2.out 1
  have y2 := Joins.cell_of_block HY2.out 2
  have y3 := Joins.cell_of_block HY2.out 3
  have HBW : Hid (Below x w w2) := HB.out.trans (Joins.below_le HB2.out (by omega))
  go_wp2
  refine bodyPost_ret (results_cell_tmp rfl _ _ y 30 _ (0, 0) _ rfl (Joins.block_setCell (i := 3) (Joins.block_setCell (i := 2) (Joins.block_setCell (i := 1) (Joins.block_setCell (i := 0) HY2.out _) _) _) _) Try.underlying30 rfl (by kernel_rfl)) rfl ?_
  refine ⟨?_, rfl⟩
  rw [← HXE.out]
  exact (((HBW.out.setCell (p := ⟨y, 0, none⟩) (by show x ≤ y; omega) _).setCell (p := ⟨y, 1, none⟩) (by show x ≤ y; omega) _).setCell (p := ⟨y, 2, none⟩) (by show x ≤ y; omega) _).setCell (p := ⟨y, 3, none⟩) (by show x ≤ y; omega) _
set_option maxRecDepth 100000 in
set_option maxHeartbeats 8000000 in
theorem run10_far {w : World} {ad tad : Option Addr} {n c tn tc : Nat} {s k a : Int} {anch : Bool} {l : List In} (hP : PI w w.heap.size ad n l) (hl : tn ≤ 4194304) (hmay : mayB l s k = true) (ha0 : ¬ a < 0) (ha : (tn : Int) < a) :
    Calls Try.prog 14 #[pv ad n c s k, .slice tad tn tc, .int .i64 a, .bool anch] w (FE 1 w) := by
  obtain ⟨U, hU⟩ : ∃ U, U = (w.alloc (.cells #[.slice ad n c, .int .i64 s, .int .i64 k] 24)).alloc (.cells #[.bool false, .slice none 0 0, .int .i64 0, .int .i64 0] 30) := ⟨_, rfl⟩
  have hb : Below w.heap.size w U := by rw [hU]; exact below_two' w _ _
  have hX : U.heap[w.heap.size]? = some (.cells #[.slice ad n c, .int .i64 s, .int .i64 k] 24 (0, 0)) := by rw [hU]; exact (heap_alloc_old _ _ (by simp)).trans (heap_alloc_new w _)
  have hY : U.heap[w.heap.size + 1]? = some (.cells #[.bool false, .slice none 0 0, .int .i64 0, .int .i64 0] 30 (0, 0)) := by rw [hU]; exact two_new w _ _ _
  obtain ⟨x, hx⟩ : ∃ x, x = w.heap.size := ⟨_, rfl⟩
  obtain ⟨y, hy⟩ : ∃ y, y = w.heap.size + 1 := ⟨_, rfl⟩
  have hyU : w.heap.size + 1 < U.heap.size := (Array.getElem?_eq_some_iff.1 hY).1
  have hPU := hP.kept hb hb.size
  have HCK := check10 (c := c) (s := s) (k := k) hPU
  rw [← hx] at hX hb
  rw [← hy] at hY hyU
  obtain ⟨c0, c1, c2⟩ := three_cells hX
  have HB := hid hb
  have HX := hid hX
  have HY := hid hY
  have HXE := hid hx
  have hxy : x < y := by omega
  have b1 : decide ((4194304 : Int) < (tn : Int)) = false := by simp; omega
  have b1' : decide ((tn : Int) > (4194304 : Int)) = false := by simp; omega
  rw [hmay] at HCK
  clear hmay
  have b2 : decide (a < 0) = false := by simp [ha0]
  have b3 : decide (a > (tn : Int)) = true := by simp; omega
  have b3' : decide ((tn : Int) < a) = true := by simp; omega
  clear hP hPU hb hX hY
  go_enter Try.func14, Try.ntmps14
  go_upto_region 1 with fail
  rw [← hU, ← hy, ← hx]
  clear hU hx hy
  go_upto_region 7 with (go_at_call 19; (with_reducible refine HCK.mono ?_); rintro e w2 ⟨rfl, hb2⟩; have HB2 := hid hb2; have hY2 := (hb2.block y hyU).trans HY.out; have HY2 := hid hY2; clear hb2 HCK c0 c1 c2 hY2)
  have s0 := Joins.unfrozen_of_block HY2.out 0
  have s1 := Joins.unfrozen_of_block HY2.out 1
  have s2 := Joins.unfrozen_of_block HY2.out 2
  have s3 := Joins.unfrozen_of_block HY2.out 3
  have y0 := Joins.cell_of_block HY2.out 0
  have y1 := Joins.cell_of_block HY2.out 1
  have y2 := Joins.cell_of_block HY2.out 2
  have y3 := Joins.cell_of_block HY2.out 3
  have HBW : Hid (Below x w w2) := HB.out.trans (Joins.below_le HB2.out (by omega))
  go_wp2
  refine bodyPost_ret (results_cell_tmp rfl _ _ y 30 _ (0, 0) _ rfl (Joins.block_setCell (i := 3) (Joins.block_setCell (i := 2) (Joins.block_setCell (i := 1) (Joins.block_setCell (i := 0) HY2.out _) _) _) _) Try.underlying30 rfl (by kernel_rfl)) rfl ?_
  refine ⟨?_, rfl⟩
  rw [← HXE.out]
  exact (((HBW.out.setCell (p := ⟨y, 0, none⟩) (by show x ≤ y; omega) _).setCell (p := ⟨y, 1, none⟩) (by show x ≤ y; omega) _).setCell (p := ⟨y, 2, none⟩) (by show x ≤ y; omega) _).setCell (p := ⟨y, 3, none⟩) (by show x ≤ y; omega) _
/-- what Run answers -/
def RunA (l : List In) (tx : List Int) (s k a : Int) (anch : Bool) (w : World) (e : Ending) (w' : World) : Prop :=
  (errR l s k tx.length a = 0 ∧ FR k.toNat (lockRun (prOf l tx s.toNat k.toNat) tx.length a.toNat anch) w e w') ∨ (errR l s k tx.length a ≠ 0 ∧ FE (errR l s k tx.length a) w e w')
theorem run10 {w : World} {ad tad : Option Addr} {n c tn tc : Nat} {s k a : Int} {anch : Bool} {l : List In} {tx : List Int} (hP : PI w w.heap.size ad n l) (hT : TextAt w.heap.size w tad tn tx) :
    Calls Try.prog 14 #[pv ad n c s k, .slice tad tn tc, .int .i64 a, .bool anch] w (RunA l tx s k a anch w) := by
  have htl : tn = tx.length := hT.1
  by_cases h1 : 4194304 < tn
  · have e : errR l s k tx.length a = 2 := by unfold errR; rw [if_pos (by omega)]
    refine (run10_long hP h1).mono fun e' w' h => ?_
    exact .inr (by rw [e]; exact ⟨by decide, h⟩)
  · cases hm : mayB l s k
    · have e : errR l s k tx.length a = 90 := by unfold errR; rw [if_neg (by omega), if_pos hm]
      refine (run10_prog hP (by omega) hm).mono fun e' w' h => ?_
      exact .inr (by rw [e]; exact ⟨by decide, h⟩)
    · by_cases h2 : a < 0
      · have e : errR l s k tx.length a = 1 := by unfold errR; rw [if_neg (by omega), if_neg (by rw [hm]; decide), if_pos (.inl h2)]
        refine (run10_neg hP (by omega) hm h2).mono fun e' w' h => ?_
        exact .inr (by rw [e]; exact ⟨by decide, h⟩)
      · by_cases h3 : (tn : Int) < a
        · have e : errR l s k tx.length a = 1 := by unfold errR; rw [if_neg (by omega), if_neg (by rw [hm]; decide), if_pos (.inr (by omega))]
          refine (run10_far hP (by omega) hm h2 h3).mono fun e' w' h => ?_
          exact .inr (by rw [e]; exact ⟨by decide, h⟩)
        · have e : errR l s k tx.length a = 0 := by unfold errR; rw [if_neg (by omega), if_neg (by rw [hm]; decide), if_neg (by omega)]
          have hmo := may_ok hm
          obtain ⟨S, rfl⟩ := Int.eq_ofNat_of_zero_le hmo.2.1
          obtain ⟨K, rfl⟩ := Int.eq_ofNat_of_zero_le (show 0 ≤ k by omega)
          obtain ⟨A, rfl⟩ := Int.eq_ofNat_of_zero_le (show 0 ≤ a by omega)
          refine (run10_ok hP hm hT (by omega) (by omega)).mono fun e' w' h => ?_
          exact .inl ⟨e, h⟩
end Go.Proofs.Ytodpmmlfdkdemaa
