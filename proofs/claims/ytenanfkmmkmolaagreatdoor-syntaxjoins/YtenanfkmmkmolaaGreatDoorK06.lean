/- HELPERS: Ec. -/
import Derived.Test.YtenanfkmmkmolaaGreatDoorK05
import Derived.Deep.Cut
import Derived.Deep.CutRange
/- HELPERS: a cat is over. -/
namespace Go.Proofs.YtenanfkmmkmolaaGreatDoor
open Go.RowKit Go.Mx
set_option linter.unusedVariables false
set_option linter.unusedSimpArgs false
/-- as push_facts, with no block to be read -/
theorem push_facts0 {N : Nat} {w2 w' : World} {rv : Value} {m b' cap' ob : Nat} {xs : List Value} {cur : Array Value} (ho : w'.ownsRow N 26 9 (.slice (some ⟨b', 0, none⟩) (m + 1) cap') (m + 1) (xs ++ Z9.toList)) (hM : Moved (w2.drew.alloc (.cells Z9 26)) w' rv (.slice (some ⟨b', 0, none⟩) (m + 1) cap'))
    (hob : w2.heap[ob]? = some (.cells cur 85 (0, 0))) (hr2 : rv.ownBlock ≠ some ob) :
    w'.heap[ob]? = some (.cells cur 85 (0, 0)) ∧ ¬ b' = ob ∧ ¬ ob = b' := by
  have l2 := (Array.getElem?_eq_some_iff.1 hob).1
  have e2 := (moved_fr hM ob (by simp; omega) hr2).trans ((heap_alloc_old w2.drew _ l2).trans hob)
  have n1 : ¬ b' = ob := by
    rcases hM with ⟨h, _⟩ | ⟨h, _⟩
    · have h' : some b' = rv.ownBlock := h
      exact fun e => hr2 (by rw [← h', e])
    · have h' : some b' = some (w2.drew.alloc (.cells Z9 26)).heap.size := h
      simp at h'
      omega
  exact ⟨e2, n1, fun e => n1 e.symm⟩
abbrev empL : List Value := [.int .i64 1, .slice none 0 0, .int .i64 0, .slice none 0 0, .int .i64 0, .int .i64 0, .bool false, .int .i64 0, .string ⟨#[]⟩]
abbrev catL (rv : Value) : List Value := [.int .i64 4, .slice none 0 0, .int .i64 0, rv, .int .i64 0, .int .i64 0, .bool false, .int .i64 0, .string ⟨#[]⟩]
theorem cells9 {w : World} {b : Nat} {cs : Array Value} {a0 a1 a2 a3 a4 a5 a6 a7 a8 : Value} (h : w.heap[b]? = some (.cells cs 26 (0, 0))) (hc : cs.toList.take 9 = [a0, a1, a2, a3, a4, a5, a6, a7, a8]) :
    w.cell? ⟨b, 0, none⟩ = some a0 ∧ w.cell? ⟨b, 1, none⟩ = some a1 ∧ w.cell? ⟨b, 2, none⟩ = some a2 ∧ w.cell? ⟨b, 3, none⟩ = some a3 ∧ w.cell? ⟨b, 4, none⟩ = some a4 ∧ w.cell? ⟨b, 5, none⟩ = some a5 ∧ w.cell? ⟨b, 6, none⟩ = some a6 ∧ w.cell? ⟨b, 7, none⟩ = some a7 ∧ w.cell? ⟨b, 8, none⟩ = some a8 := by
  have f : ∀ i, i < 9 → w.cell? ⟨b, i, none⟩ = [a0, a1, a2, a3, a4, a5, a6, a7, a8][i]? := by
    intro i hi
    rw [Joins.cell_of_block h i, ← hc, List.getElem?_take, if_pos hi]
    simp
  exact ⟨f 0 (by decide), f 1 (by decide), f 2 (by decide), f 3 (by decide), f 4 (by decide), f 5 (by decide), f 6 (by decide), f 7 (by decide), f 8 (by decide)⟩
theorem push_other {w2 w' : World} {rv v' : Value} {k : Nat} {o : Obj} (hM : Moved (w2.drew.alloc (.cells Z9 26)) w' rv v') (h : w2.heap[k]? = some o) (hr : rv.ownBlock ≠ some k) : w'.heap[k]? = some o := by
  have l := (Array.getElem?_eq_some_iff.1 h).1
  exact (moved_fr hM k (by simp; omega) hr).trans ((heap_alloc_old w2.drew _ l).trans h)
set_option maxHeartbeats 2000000 in
theorem endCat42_e {w : World} {N ob n m : Nat} {cur : Array Value} {cv : Value} {xs : List Value} {ra : Option Addr} {rc : Nat} (Hob : Hid (w.heap[ob]? = some (.cells cur 85 (0, 0)))) (hcv : cur[n * 6]? = some cv) (hrv : cur[n * 6 + 1]? = some (.slice ra 0 rc)) (Hrow : Hid (w.ownsRow N 26 9 cv m xs)) (hm : m ≤ 65600) (hN : N ≤ w.heap.size) :
    Calls Tryz.prog 42 #[.pointer (some ⟨ob, n * 6, none⟩)] w fun e w' => e = .returned (.tuple #[]) ∧ ∃ w1, Pushed N w w1 ob cur (n * 6) cv m xs empL ∧ w' = w1.setCell ⟨ob, n * 6 + 1, none⟩ (.slice none 0 0) := by
  obtain ⟨i0, hi0, hz0, hz1, hz2⟩ := info_parts info26
  have hr2 : cv.ownBlock ≠ some ob := own_ne Hrow.out Hob.out (by decide)
  obtain ⟨ad, capr, rfl⟩ : ∃ ad capr, cv = .slice ad m capr := by
    rcases Joins.ownsRow_forms Hrow.out with ⟨rfl, h⟩ | ⟨b, cap, rfl⟩
    · exact ⟨none, 0, by rw [h]⟩
    · exact ⟨_, _, rfl⟩
  have k0 := (Joins.cell_of_block Hob.out (n * 6)).trans hcv
  have f0 := Joins.unfrozen_of_block Hob.out (n * 6)
  have k1 := (Joins.cell_of_block Hob.out (n * 6 + 1)).trans hrv
  have bl2 := (Array.getElem?_eq_some_iff.1 Hob.out).1
  have im : (m : Int) < (m : Int) + 1 := by omega
  go_enter Tryz.func42, Tryz.ntmps42
  go_wp2_with fail
  go_region_law (refine step_append_moveN rfl (.tmp 27) (.tmp 30) 24 rfl N 26 i0 (.agg Z9) 9 112 Tryz.underlying24 hi0 hz0 hz1 hz2 rfl (by decide) (.slice ad m capr) m xs (by simp [Act.eval, Act.put]) (by exact Hrow.out.drew.alloc _) ⟨w.heap.size, 0, none⟩ 1 1 Z9.toList (by simp [Act.eval, Act.put]) rfl (by decide) (by exact news9 w.drew) one9 (by unfold maxLen; omega) (by omega) (by simp; omega) ?_; intro v3 w3 ho3 hM3; obtain ⟨b3, cap3, rfl⟩ := Joins.ownsRow_form ho3 (by omega); obtain ⟨E2, d1, d2⟩ := push_facts0 ho3 hM3 Hob.out hr2; obtain ⟨z0, z1, z2, z3, z4, z5, z6, z7, z8⟩ := last9 ho3; have fz := fun j => ho3.frozenAt j; have k3 := (Joins.cell_of_block E2 (n * 6)).trans hcv; have f3 := Joins.unfrozen_of_block E2 (n * 6); have k4 := (Joins.cell_of_block E2 (n * 6 + 1)).trans hrv; have f4 := Joins.unfrozen_of_block E2 (n * 6 + 1); have HO3 : Hid (w3.ownsRow N 26 9 (.slice (some ⟨b3, 0, none⟩) (m + 1) cap3) (m + 1) (xs ++ Z9.toList)) := ho3; have HM3 : Hid (Moved (w.drew.alloc (.cells Z9 26)) w3 (.slice ad m capr) (.slice (some ⟨b3, 0, none⟩) (m + 1) cap3)) := hM3; have HE2 := hid E2; clear ho3 hM3 E2)
  all_goals go_wp2
  all_goals go_end0
  all_goals (refine ⟨rfl, _, ?_, rfl⟩)
  all_goals first | (with_reducible exact push_A HM3.out HO3.out d2 bl2 HE2.out _ _ _ _ _ _ _ _ _) | (with_reducible exact push_B HM3.out HO3.out d2 bl2 HE2.out _ _ _ _ _ _ _ _ _)
set_option maxHeartbeats 2000000 in
theorem endCat42_m {w : World} {N ob n m : Nat} {cur : Array Value} {cv : Value} {xs : List Value} {ra : Option Addr} {rl rc : Nat} (hrl : 2 ≤ rl) (Hob : Hid (w.heap[ob]? = some (.cells cur 85 (0, 0)))) (hcv : cur[n * 6]? = some cv) (hrv : cur[n * 6 + 1]? = some (.slice ra rl rc)) (Hrow : Hid (w.ownsRow N 26 9 cv m xs)) (hm : m ≤ 65600) (hN : N ≤ w.heap.size) :
    Calls Tryz.prog 42 #[.pointer (some ⟨ob, n * 6, none⟩)] w fun e w' => e = .returned (.tuple #[]) ∧ ∃ w1, Pushed N w w1 ob cur (n * 6) cv m xs (catL (.slice ra rl rc)) ∧ w' = w1.setCell ⟨ob, n * 6 + 1, none⟩ (.slice none 0 0) := by
  obtain ⟨i0, hi0, hz0, hz1, hz2⟩ := info_parts info26
  have hr2 : cv.ownBlock ≠ some ob := own_ne Hrow.out Hob.out (by decide)
  obtain ⟨ad, capr, rfl⟩ : ∃ ad capr, cv = .slice ad m capr := by
    rcases Joins.ownsRow_forms Hrow.out with ⟨rfl, h⟩ | ⟨b, cap, rfl⟩
    · exact ⟨none, 0, by rw [h]⟩
    · exact ⟨_, _, rfl⟩
  have k0 := (Joins.cell_of_block Hob.out (n * 6)).trans hcv
  have f0 := Joins.unfrozen_of_block Hob.out (n * 6)
  have k1 := (Joins.cell_of_block Hob.out (n * 6 + 1)).trans hrv
  have bl2 := (Array.getElem?_eq_some_iff.1 Hob.out).1
  have c0' : ((rl : Int) == 0) = false := by simp; omega
  have c1' : ((rl : Int) == 1) = false := by simp; omega
  have im : (m : Int) < (m : Int) + 1 := by omega
  go_enter Tryz.func42, Tryz.ntmps42
  go_wp2_with fail
  go_region_law (refine step_append_moveN rfl (.tmp 10) (.tmp 17) 24 rfl N 26 i0 (.agg Z9) 9 112 Tryz.underlying24 hi0 hz0 hz1 hz2 rfl (by decide) (.slice ad m capr) m xs (by simp [Act.eval, Act.put]) (by exact Hrow.out.drew.alloc _) ⟨w.heap.size, 0, none⟩ 1 1 Z9.toList (by simp [Act.eval, Act.put]) rfl (by decide) (by exact news9 w.drew) one9 (by unfold maxLen; omega) (by omega) (by simp; omega) ?_; intro v3 w3 ho3 hM3; obtain ⟨b3, cap3, rfl⟩ := Joins.ownsRow_form ho3 (by omega); obtain ⟨E2, d1, d2⟩ := push_facts0 ho3 hM3 Hob.out hr2; obtain ⟨z0, z1, z2, z3, z4, z5, z6, z7, z8⟩ := last9 ho3; have fz := fun j => ho3.frozenAt j; have k3 := (Joins.cell_of_block E2 (n * 6)).trans hcv; have f3 := Joins.unfrozen_of_block E2 (n * 6); have k4 := (Joins.cell_of_block E2 (n * 6 + 1)).trans hrv; have f4 := Joins.unfrozen_of_block E2 (n * 6 + 1); have HO3 : Hid (w3.ownsRow N 26 9 (.slice (some ⟨b3, 0, none⟩) (m + 1) cap3) (m + 1) (xs ++ Z9.toList)) := ho3; have HM3 : Hid (Moved (w.drew.alloc (.cells Z9 26)) w3 (.slice ad m capr) (.slice (some ⟨b3, 0, none⟩) (m + 1) cap3)) := hM3; have HE2 := hid E2; clear ho3 hM3 E2)
  all_goals go_wp2
  all_goals go_end0
  all_goals (refine ⟨rfl, _, ?_, rfl⟩)
  all_goals first | (with_reducible exact push_A HM3.out HO3.out d2 bl2 HE2.out _ _ _ _ _ _ _ _ _) | (with_reducible exact push_B HM3.out HO3.out d2 bl2 HE2.out _ _ _ _ _ _ _ _ _)
set_option maxHeartbeats 2000000 in
theorem endCat42_o {w : World} {N ob n m : Nat} {cur : Array Value} {cv : Value} {xs : List Value} {rb rc : Nat} (a0 a2 a4 a5 a7 : Int) (a6 : Bool) (a8 : ByteArray) (r1 s1 : Option Addr) (r2 r3 s2 s3 : Nat) {curr : Array Value} (Hrb : Hid (w.heap[rb]? = some (.cells curr 26 (0, 0)))) (hrc : Hid (curr.toList.take 9 = [.int .i64 a0, .slice r1 r2 r3, .int .i64 a2, .slice s1 s2 s3, .int .i64 a4, .int .i64 a5, .bool a6, .int .i64 a7, .string a8])) (hcr : cv.ownBlock ≠ some rb) (hor : ob ≠ rb) (Hob : Hid (w.heap[ob]? = some (.cells cur 85 (0, 0)))) (hcv : cur[n * 6]? = some cv) (hrv : cur[n * 6 + 1]? = some (.slice (some ⟨rb, 0, none⟩) 1 rc)) (Hrow : Hid (w.ownsRow N 26 9 cv m xs)) (hm : m ≤ 65600) (hN : N ≤ w.heap.size) :
    Calls Tryz.prog 42 #[.pointer (some ⟨ob, n * 6, none⟩)] w fun e w' => e = .returned (.tuple #[]) ∧ ∃ w1, Pushed N w w1 ob cur (n * 6) cv m xs [.int .i64 a0, .slice r1 r2 r3, .int .i64 a2, .slice s1 s2 s3, .int .i64 a4, .int .i64 a5, .bool a6, .int .i64 a7, .string a8] ∧ w' = w1.setCell ⟨ob, n * 6 + 1, none⟩ (.slice none 0 0) := by
  obtain ⟨i0, hi0, hz0, hz1, hz2⟩ := info_parts info26
  have hr2 : cv.ownBlock ≠ some ob := own_ne Hrow.out Hob.out (by decide)
  obtain ⟨ad, capr, rfl⟩ : ∃ ad capr, cv = .slice ad m capr := by
    rcases Joins.ownsRow_forms Hrow.out with ⟨rfl, h⟩ | ⟨b, cap, rfl⟩
    · exact ⟨none, 0, by rw [h]⟩
    · exact ⟨_, _, rfl⟩
  have k0 := (Joins.cell_of_block Hob.out (n * 6)).trans hcv
  have f0 := Joins.unfrozen_of_block Hob.out (n * 6)
  have k1 := (Joins.cell_of_block Hob.out (n * 6 + 1)).trans hrv
  have bl2 := (Array.getElem?_eq_some_iff.1 Hob.out).1
  obtain ⟨x0, x1, x2, x3, x4, x5, x6, x7, x8⟩ := cells9 Hrb.out hrc.out
  have rbl := (Array.getElem?_eq_some_iff.1 Hrb.out).1
  have im : (m : Int) < (m : Int) + 1 := by omega
  go_enter Tryz.func42, Tryz.ntmps42
  go_wp2_with fail
  go_region_law (refine step_append_moveN rfl (.tmp 40) (.tmp 48) 24 rfl N 26 i0 (.agg Z9) 9 112 Tryz.underlying24 hi0 hz0 hz1 hz2 rfl (by decide) (.slice ad m capr) m xs (by simp [Act.eval, Act.put]) (by exact Hrow.out.drew.alloc _) ⟨w.heap.size, 0, none⟩ 1 1 Z9.toList (by simp [Act.eval, Act.put]) rfl (by decide) (by exact news9 w.drew) one9 (by unfold maxLen; omega) (by omega) (by simp; omega) ?_; intro v3 w3 ho3 hM3; obtain ⟨b3, cap3, rfl⟩ := Joins.ownsRow_form ho3 (by omega); obtain ⟨E2, d1, d2⟩ := push_facts0 ho3 hM3 Hob.out hr2; obtain ⟨y0, y1, y2, y3, y4, y5, y6, y7, y8⟩ := cells9 (push_other hM3 Hrb.out hcr) hrc.out; obtain ⟨z0, z1, z2, z3, z4, z5, z6, z7, z8⟩ := last9 ho3; have fz := fun j => ho3.frozenAt j; have k3 := (Joins.cell_of_block E2 (n * 6)).trans hcv; have f3 := Joins.unfrozen_of_block E2 (n * 6); have k4 := (Joins.cell_of_block E2 (n * 6 + 1)).trans hrv; have f4 := Joins.unfrozen_of_block E2 (n * 6 + 1); have HO3 : Hid (w3.ownsRow N 26 9 (.slice (some ⟨b3, 0, none⟩) (m + 1) cap3) (m + 1) (xs ++ Z9.toList)) := ho3; have HM3 : Hid (Moved (w.drew.alloc (.cells Z9 26)) w3 (.slice ad m capr) (.slice (some ⟨b3, 0, none⟩) (m + 1) cap3)) := hM3; have HE2 := hid E2; clear ho3 hM3 E2)
  all_goals go_wp2
  all_goals go_end0
  all_goals (refine ⟨rfl, _, ?_, rfl⟩)
  all_goals first | (with_reducible exact push_A HM3.out HO3.out d2 bl2 HE2.out _ _ _ _ _ _ _ _ _) | (with_reducible exact push_B HM3.out HO3.out d2 bl2 HE2.out _ _ _ _ _ _ _ _ _)
end Go.Proofs.YtenanfkmmkmolaaGreatDoor
