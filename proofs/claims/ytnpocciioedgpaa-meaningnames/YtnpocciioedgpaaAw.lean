/- HELPERS: the document's example holds. -/
import Derived.Test.YtnpocciioedgpaaNw
import Derived.Test.YtnpocciioedgpaaTw
import Derived.Test.YtnpocciioedgpaaPz
import Derived.Laws.Rows
namespace Go.Proofs.Ytnpocciioedgpaa
open Go.RowKit
set_option linter.unusedVariables false
set_option linter.unusedSimpArgs false
theorem begins_R {w : World} {rb s1 s2 s3 g : Nat} (h : Tre w rb s1 s2 s3) (hg : w.heap.size ≤ g) : Begins g 4 (nR s3) 1 6 (.once 1 .through) Ww [rb] w := by
  intro A w' v F0 hb hO hR hgF
  have h' := h.below hb
  have hs := hb.size
  have hne : g ≠ rb ∧ g ≠ s1 ∧ g ≠ s2 ∧ g ≠ s3 := by have := h.lr; have := h.l1; have := h.l2; have := h.l3; omega
  exact begin_rep g 4 s3 1 [] A 1 6 (nR s3) (nG s2) 7 (.once 1 .through) Ww [rb] F0 v w' hO hR hgF (by simp; exact hne.1) (fun k hk => by simp at hk; subst hk; exact h'.lr) ⟨by omega, by omega⟩ ⟨rfl, rfl, rfl, rfl, rfl⟩ rfl (by omega) h'.l3 hne.2.2.2.symm h'.c3 (fun b _ => wG h' hne F0)
theorem PR.le {N N' : Nat} {w : World} {cs : List Value} {l : List (Int × List Int)} {F : List Nat} (h : PR N w cs l F) (hN : N' ≤ N) : PR N' w cs l F := by
  induction h with
  | nil => exact .nil
  | cons h hl ih => exact .cons (Joins.ownsRow_le h hN) ih
theorem Parsed.le {N N' : Nat} {w : World} {pv : Value} {l : List (Int × List Int)} (h : Parsed N w pv l) (hN : N' ≤ N) : Parsed N' w pv l := by
  obtain ⟨cs, F, h1, h2⟩ := h
  exact ⟨cs, F, Joins.ownsRow_le h1 hN, h2.le hN⟩
abbrev theParses : List (Int × List Int) := [(0, [0, 0, 0, 0]), (1, [0, 1, 0, 1])]
theorem parsesR {w : World} {rb s1 s2 s3 tb tcap : Nat} (h : Tre w rb s1 s2 s3) (ht : w.heap[tb]? = some (.cells #[.int .i64 97] 3 (0, 0))) (htc : 1 ≤ tcap) :
    Calls Try.prog 13 #[(nR s3).v 6, .slice (some ⟨tb, 0, none⟩) 1 tcap, .int .i64 0] w fun e w' => ∃ pv, e = .returned (.tuple #[pv, .int .i64 0]) ∧ Parsed w.heap.size w' pv theParses ∧ Below w.heap.size w w' := by
  have htl := (Array.getElem?_eq_some_iff.1 ht).1
  refine parses13 (nR s3) tb tcap 5 theParses w (by omega) (fun w' hb => sR (h.below hb)) (fun w' hb => zR (h.below hb)) (fun w' hb => ?_)
  have h' := h.below hb
  have hs := hb.size
  have ht' := (hb.block tb htl).trans ht
  refine Calls.mono (newWalks31 (nR s3) tb tcap 6 Ww [rb] w' ht' (fun k hk => by simp at hk; subst hk; exact h'.lr) (fun w2 hb2 => gR (h'.below hb2)) (begins_R h' (by omega))) ?_
  rintro e w2 ⟨g, b, u, F, B, C, rfl, hgl, hW, htv, hwh, hK, hR, hbx, aF, ab, hBl, hb2⟩
  refine ⟨g, rfl, ?_⟩
  obtain ⟨s', hx, hp⟩ := example_goes b
  have hs2 := hb2.size
  refine Calls.mono (from32 w'.heap.size g b C (fun _ => Ww b) (Ww b) [97] ⟨[], [-1, -1, -1, -1], []⟩ s' u F [tb] B w2 hs2 hW hwh (by rw [hK]; exact hR) hbx rfl (fun _ => Ww_few b) ?_ (by decide) aF ab (fun k hk hm => by simp at hk; subst hk; have := hBl k hm; omega) (fun k hk => by simp at hk; subst hk; omega) (by rw [hp]; decide) hx) ?_
  · refine ⟨_, tcap, htv, htc, .inr ⟨tb, 0, rfl, by simp, by omega, fun k hk => ?_⟩⟩
    have e : k = 0 := by simp at hk; omega
    subst e
    exact bx0 (t := 3) ((hb2.block tb (by omega)).trans ht')
  · rintro e2 w3 ⟨pv, rfl, hP, B', hC⟩
    rw [hp] at hP
    exact ⟨pv, rfl, hP.le hs, hb.trans (Joins.below_le (hb2.trans (hC.below hs2 hBl)) hs)⟩
set_option maxRecDepth 100000 in
set_option maxHeartbeats 4000000 in
theorem one26 (w : World) : Calls Try.prog 26 #[.int .i64 97] w fun e w' => e = .returned ((nC (w.heap.size + 1)).v 2) ∧ Below w.heap.size w w' ∧ w'.heap[w.heap.size + 1]? = some (.cells #[.int .i64 97, .int .i64 97] 70 (0, 0)) ∧ w'.heap.size = w.heap.size + 1 + 1 := by
  go_enter Try.func26, Try.ntmps26
  go_wp2
  have s1 : (w.alloc ((nC (w.heap.size + 1)).o 2)).heap.size = w.heap.size + 1 := by simp
  have K3 : ((w.alloc ((nC (w.heap.size + 1)).o 2)).alloc (.cells #[.int .i64 97, .int .i64 97] 70)).heap[w.heap.size]? = some (.cells (#[.int .i64 2, .slice (some ⟨w.heap.size + 1, 0, none⟩) 1 1, .int .i64 0, .slice none 0 0, .int .i64 0, .int .i64 0, .bool false, .int .i64 0, .string E0]) 28 (0, 0)) := (heap_alloc_old _ _ (by omega)).trans (heap_alloc_new w _)
  refine bodyPost_ret (results_cell_row rfl _ _ w.heap.size 28 _ (0, 0) _ rfl K3 Try.underlying28 rfl (by kernel_rfl)) rfl ?_
  refine ⟨rfl, below_two w _ _, ?_, by simp⟩
  have K4 : ((w.alloc ((nC (w.heap.size + 1)).o 2)).alloc (.cells #[.int .i64 97, .int .i64 97] 70)).heap[(w.alloc ((nC (w.heap.size + 1)).o 2)).heap.size]? = some (.cells #[.int .i64 97, .int .i64 97] 70 (0, 0)) := heap_alloc_new _ _
  rw [s1] at K4
  exact K4
theorem six_new (w : World) (o1 o2 o3 o4 o5 o6 : Obj) : ((((((w.alloc o1).alloc o2).alloc o3).alloc o4).alloc o5).alloc o6).heap[w.heap.size]? = some o1 ∧ ((((((w.alloc o1).alloc o2).alloc o3).alloc o4).alloc o5).alloc o6).heap[w.heap.size + 1 + 1]? = some o3 ∧ ((((((w.alloc o1).alloc o2).alloc o3).alloc o4).alloc o5).alloc o6).heap[w.heap.size + 1 + 1 + 1 + 1]? = some o5 ∧
    ((((((w.alloc o1).alloc o2).alloc o3).alloc o4).alloc o5).alloc o6).heap[w.heap.size + 1 + 1 + 1 + 1 + 1]? = some o6 ∧ Below w.heap.size w ((((((w.alloc o1).alloc o2).alloc o3).alloc o4).alloc o5).alloc o6) ∧ ((((((w.alloc o1).alloc o2).alloc o3).alloc o4).alloc o5).alloc o6).heap.size = w.heap.size + 6 := by
  have s1 : (w.alloc o1).heap.size = w.heap.size + 1 := by simp
  have s2 : ((w.alloc o1).alloc o2).heap.size = w.heap.size + 1 + 1 := by simp
  have s3 : (((w.alloc o1).alloc o2).alloc o3).heap.size = w.heap.size + 1 + 1 + 1 := by simp
  have s4 : ((((w.alloc o1).alloc o2).alloc o3).alloc o4).heap.size = w.heap.size + 1 + 1 + 1 + 1 := by simp
  have s5 : (((((w.alloc o1).alloc o2).alloc o3).alloc o4).alloc o5).heap.size = w.heap.size + 1 + 1 + 1 + 1 + 1 := by simp
  refine ⟨?_, ?_, ?_, ?_, ?_, by simp⟩
  · exact (heap_alloc_old _ _ (by omega)).trans ((heap_alloc_old _ _ (by omega)).trans ((heap_alloc_old _ _ (by omega)).trans ((heap_alloc_old _ _ (by omega)).trans ((heap_alloc_old _ _ (by omega)).trans (heap_alloc_new w o1)))))
  · refine (heap_alloc_old _ _ (by omega)).trans ((heap_alloc_old _ _ (by omega)).trans ((heap_alloc_old _ _ (by omega)).trans ?_))
    rw [← s2]; exact heap_alloc_new _ _
  · refine (heap_alloc_old _ _ (by omega)).trans ?_
    rw [← s4]; exact heap_alloc_new _ _
  · rw [← s5]; exact heap_alloc_new _ _
  · exact (below_two w o1 o2).trans (Joins.below_le ((below_two _ o3 o4).trans (Joins.below_le (below_two _ o5 o6) (by simp; try omega))) (by simp; try omega))
set_option maxRecDepth 100000 in
set_option maxHeartbeats 4000000 in
theorem awake8 (w : World) : Calls Try.prog 8 #[] w fun e w' => e = .returned (.bool true) ∧ Below w.heap.size w w' := by
  have HO := one26 w
  go_enter Try.func8, Try.ntmps8
  go_upto_region 2 with (first | (go_at_call 26; (with_reducible refine HO.mono ?_); rintro e w1 ⟨rfl, hb1, hr1, hs1⟩; have HB1 := hid hb1; have HR1 := hid hr1; have HS1 := hid hs1; clear hb1 hr1 hs1 HO))
  obtain ⟨z, hz⟩ : ∃ z, z = w1.heap.size := ⟨_, rfl⟩
  obtain ⟨h1, h2, h3, h4, h5, h6⟩ := six_new w1 (.cells #[.int .i64 1, .slice none 0 0, .int .i64 0, .slice none 0 0, .int .i64 0, .int .i64 0, .bool false, .int .i64 0, .string E0, .int .i64 2, .slice (some ⟨w.heap.size + 1, 0, none⟩) 1 1, .int .i64 0, .slice none 0 0, .int .i64 0, .int .i64 0, .bool false, .int .i64 0, .string E0] 28) ((nA w1.heap.size).o 5) ((nA w1.heap.size).o 5) ((nG (w1.heap.size + 1 + 1)).o 7) ((nG (w1.heap.size + 1 + 1)).o 7) (.cells #[.int .i64 97] 3)
  have hT : Tre _ (w.heap.size + 1) w1.heap.size (w1.heap.size + 1 + 1) (w1.heap.size + 1 + 1 + 1 + 1) := ⟨(h5.block _ (by have := HS1.out; omega)).trans HR1.out,
    ⟨Joins.cell_of_block h1 0, Joins.cell_of_block h1 1, Joins.cell_of_block h1 2, Joins.cell_of_block h1 3, Joins.cell_of_block h1 4, Joins.cell_of_block h1 5, Joins.cell_of_block h1 6, Joins.cell_of_block h1 7, Joins.cell_of_block h1 8⟩,
    ⟨Joins.cell_of_block h1 9, Joins.cell_of_block h1 10, Joins.cell_of_block h1 11, Joins.cell_of_block h1 12, Joins.cell_of_block h1 13, Joins.cell_of_block h1 14, Joins.cell_of_block h1 15, Joins.cell_of_block h1 16, Joins.cell_of_block h1 17⟩,
    ⟨Joins.cell_of_block h2 0, Joins.cell_of_block h2 1, Joins.cell_of_block h2 2, Joins.cell_of_block h2 3, Joins.cell_of_block h2 4, Joins.cell_of_block h2 5, Joins.cell_of_block h2 6, Joins.cell_of_block h2 7, Joins.cell_of_block h2 8⟩,
    ⟨Joins.cell_of_block h3 0, Joins.cell_of_block h3 1, Joins.cell_of_block h3 2, Joins.cell_of_block h3 3, Joins.cell_of_block h3 4, Joins.cell_of_block h3 5, Joins.cell_of_block h3 6, Joins.cell_of_block h3 7, Joins.cell_of_block h3 8⟩,
    by omega, by omega, by omega⟩
  have HC := parsesR hT h4 (Nat.le_refl 1)
  have HXB := hid h5
  clear h1 h2 h3 h4 h5 h6 hT
  go_upto_region 4 with (first | (go_at_call 13; (with_reducible refine HC.mono ?_); rintro e w2 ⟨pv, rfl, hP, hb2⟩; obtain ⟨cs, FF, hrow, hPR⟩ := hP; obtain ⟨pb, pcap, rfl⟩ := Joins.ownsRow_form hrow (by decide); have HP := hid hrow; have HQ := hid hPR; have HB2 := hid hb2; clear hb2 HC hrow hPR))
  have hQ := HQ.out
  cases hQ with
  | @cons _ _ cv0 _ _ F1 hc0 hQ1 =>
    cases hQ1 with
    | @cons _ _ cv1 _ _ F2 hc1 hQ2 =>
      cases hQ2
      obtain ⟨d0, k0, rfl⟩ := Joins.ownsRow_form hc0 (by decide)
      obtain ⟨d1, k1, rfl⟩ := Joins.ownsRow_form hc1 (by decide)
      have p0 : w2.cell? ⟨pb, 0, none⟩ = some (.int .i64 0) := HP.out.cellAt 0 (by decide)
      have p1 : w2.cell? ⟨pb, 1, none⟩ = some (.slice (some ⟨d0, 0, none⟩) 4 k0) := HP.out.cellAt 1 (by decide)
      have p2 : w2.cell? ⟨pb, 2, none⟩ = some (.int .i64 1) := HP.out.cellAt 2 (by decide)
      have p3 : w2.cell? ⟨pb, 3, none⟩ = some (.slice (some ⟨d1, 0, none⟩) 4 k1) := HP.out.cellAt 3 (by decide)
      have q3 : w2.cell? ⟨d0, 3, none⟩ = some (.int .i64 0) := hc0.cellAt 3 (by decide)
      have r2 : w2.cell? ⟨d1, 2, none⟩ = some (.int .i64 0) := hc1.cellAt 2 (by decide)
      have r3 : w2.cell? ⟨d1, 3, none⟩ = some (.int .i64 1) := hc1.cellAt 3 (by decide)
      clear hc0 hc1 HP HQ
      go_wp2
      go_ret
      exact ⟨rfl, HB1.out.trans (Joins.below_le (HXB.out.trans (Joins.below_le HB2.out (by simp; try omega))) HB1.out.size)⟩
theorem num9 (r : Int) (w : World) : Calls Try.prog 9 #[.int .i64 r] w fun e w' => e = .returned (.int .i64 r) ∧ w' = w := by
  go_enter Try.func9, Try.ntmps9
  go_wp2
  go_ret
  exact ⟨rfl, rfl⟩
set_option maxHeartbeats 1000000 in
set_option maxRecDepth 1000000 in
theorem names3 (w : World) : Calls Try.prog 3 #[] w fun e w' => e = .returned (.bool true) ∧ Below w.heap.size w w' := by
  have ha := awake8 w
  go_enter Try.func3, Try.ntmps3
  go_wp2_with (first | (go_at_call 8; (with_reducible refine ha.mono ?_); rintro e w1 ⟨rfl, hb1⟩) | (go_at_call 9; (with_reducible refine (num9 _ _).mono ?_); rintro e w2 ⟨rfl, rfl⟩))
  go_ret
  exact ⟨rfl, hb1⟩
end Go.Proofs.Ytnpocciioedgpaa
