/- HELPERS: the document's reckoning: joins. -/
import Derived.Test.YtdidopgenhpakaaJa
namespace Go.Proofs.Ytdidopgenhpakaa
open Go.RowKit
set_option linter.unusedVariables false
set_option linter.unusedSimpArgs false
abbrev LID : Nat := 1099511627776
theorem oks {t : Tn} (h : t.depth ≤ 4000000000) : OkS (sumOf 1099511627776 t) := by
  have := t.pos
  have := t.depth_subs
  exact ⟨by simp only [sumOf]; omega, by simp only [sumOf]; omega, by simp only [sumOf]; omega, by simp only [sumOf]; omega, h⟩
theorem okr {us : List Tn} {x : R7} (h : RowOf 1099511627776 us x) (hd : depthL us ≤ 4000000000) : OkR x := ⟨by rw [h.s]; omega, h.n.1, by rw [h.d]; exact hd⟩
set_option maxRecDepth 100000 in
set_option maxHeartbeats 4000000 in
theorem join71 (r : Nat) (x : R7) (S : S4) (m : Nat) (w : World) (hr : BR w r x) (hx : OkR x) (hS : OkS S) (hm : m ≤ 1000) :
    Calls Try.prog 71 #[pt r, S.v, .int .i64 (m : Int)] w fun e w' => e = .returned (.tuple #[]) ∧ BR w' r (joinR 1099511627776 x S m) ∧ Chg w w' [r] [r] := by
  have hrl : r < w.heap.size := (Array.getElem?_eq_some_iff.1 hr).1
  obtain ⟨sk, n, s, d⟩ := S
  obtain ⟨W, hW⟩ : ∃ W, W = w.alloc (.cells #[.int .i64 sk, .int .i64 (n : Int), .int .i64 (s : Int), .int .i64 (d : Int)] 80) := ⟨_, rfl⟩
  have hcW : Chg w W [r] [r] := by rw [hW]; exact (Chg.refl w _).alloc _
  have hrW : BR W r x := by rw [hW]; exact (heap_alloc_old w _ hrl).trans hr
  have hzW : W.heap[w.heap.size]? = some (.cells #[.int .i64 sk, .int .i64 (n : Int), .int .i64 (s : Int), .int .i64 (d : Int)] 80 (0, 0)) := by rw [hW]; exact heap_alloc_new w _
  obtain ⟨z, hz⟩ : ∃ z, z = w.heap.size := ⟨_, rfl⟩
  rw [← hz] at hzW
  have z0 := Joins.cell_of_block hzW 0
  have z1 := Joins.cell_of_block hzW 1
  have z2 := Joins.cell_of_block hzW 2
  have z3 := Joins.cell_of_block hzW 3
  have HC := add72 r x ⟨sk, n, s, d⟩ m 4 W hrW hx hS hm
  have HRW := hid hrW
  have HCW := hid hcW
  clear hr hrW hcW hzW
  by_cases hk : sk = 1
  · have gk : (sk != 1) = false := by simp [hk]
    have HJ : Hid (joinR 1099511627776 x ⟨sk, n, s, d⟩ m = x) := by unfold joinR; rw [if_pos hk]; exact rfl
    clear hk
    go_enter Try.func71, Try.ntmps71
    go_upto_region 1 with fail
    rw [← hz, ← hW]
    clear hW hz
    go_wp2
    all_goals first | go_end0 | (refine bodyPost_ret (results_none rfl _ _ _) rfl ?_)
    all_goals exact ⟨rfl, by rw [HJ.out]; exact HRW.out, HCW.out⟩
  · have gk : (sk != 1) = true := by simp [hk]
    have HJ : Hid (joinR 1099511627776 x ⟨sk, n, s, d⟩ m = addR 1099511627776 x ⟨sk, n, s, d⟩ m 4) := by unfold joinR; rw [if_neg hk]; exact rfl
    clear hk
    go_enter Try.func71, Try.ntmps71
    go_upto_region 1 with fail
    rw [← hz, ← hW]
    clear hW hz
    go_wp2_with (first | (go_at_call 72; (with_reducible refine HC.mono ?_); rintro e w2 ⟨rfl, hr2, hc2⟩; have HR2 := hid hr2; have HC2 := hid hc2; clear hr2 hc2 HC))
    all_goals first | go_end0 | (refine bodyPost_ret (results_none rfl _ _ _) rfl ?_)
    all_goals exact ⟨rfl, by rw [HJ.out]; exact HR2.out, HCW.out.trans HC2.out⟩
theorem four_set (X : World) (b : Nat) {c0 c1 c2 c3 : Value} {t : TypeId} (v0 v1 v2 v3 : Value) (h : X.heap[b]? = some (.cells #[c0, c1, c2, c3] t (0, 0))) : ((((X.setCell ⟨b, 0, none⟩ v0).setCell ⟨b, 1, none⟩ v1).setCell ⟨b, 2, none⟩ v2).setCell ⟨b, 3, none⟩ v3).heap[b]? = some (.cells #[v0, v1, v2, v3] t (0, 0)) ∧ (∀ c, c ≠ b → ((((X.setCell ⟨b, 0, none⟩ v0).setCell ⟨b, 1, none⟩ v1).setCell ⟨b, 2, none⟩ v2).setCell ⟨b, 3, none⟩ v3).heap[c]? = X.heap[c]?) ∧ (∀ B0 W0, Below B0 W0 X → B0 ≤ b → Below B0 W0 ((((X.setCell ⟨b, 0, none⟩ v0).setCell ⟨b, 1, none⟩ v1).setCell ⟨b, 2, none⟩ v2).setCell ⟨b, 3, none⟩ v3)) := by
  have h0 : (X.setCell ⟨b, 0, none⟩ v0).heap[b]? = some (.cells #[v0, c1, c2, c3] t (0, 0)) := Joins.block_setCell (i := 0) h v0
  have h1 : ((X.setCell ⟨b, 0, none⟩ v0).setCell ⟨b, 1, none⟩ v1).heap[b]? = some (.cells #[v0, v1, c2, c3] t (0, 0)) := Joins.block_setCell (i := 1) h0 v1
  have h2 : (((X.setCell ⟨b, 0, none⟩ v0).setCell ⟨b, 1, none⟩ v1).setCell ⟨b, 2, none⟩ v2).heap[b]? = some (.cells #[v0, v1, v2, c3] t (0, 0)) := Joins.block_setCell (i := 2) h1 v2
  refine ⟨Joins.block_setCell (i := 3) h2 v3, fun c hc => ?_, fun B0 W0 hB hb => ?_⟩
  · exact (Below.heap_setCell _ _ _ _ hc).trans ((Below.heap_setCell _ _ _ _ hc).trans ((Below.heap_setCell _ _ _ _ hc).trans (Below.heap_setCell _ _ _ _ hc)))
  · exact (((hB.setCell (by exact hb) _).setCell (by exact hb) _).setCell (by exact hb) _).setCell (by exact hb) _
set_option maxRecDepth 100000 in
set_option maxHeartbeats 4000000 in
theorem joined73 (r : Nat) (x : R7) (w : World) (hr : BR w r x) (hx : OkR x) : Calls Try.prog 73 #[pt r] w fun e w' => e = .returned (S4.v (joinedR 1099511627776 x)) ∧ Below w.heap.size w w' := by
  have hrl : r < w.heap.size := (Array.getElem?_eq_some_iff.1 hr).1
  obtain ⟨xs, xn, xd, ⟨lk, ln, ls, ld⟩⟩ := x
  obtain ⟨hx1, hx2, hx3⟩ := hx
  dsimp only at hx1 hx2 hx3 hr
  obtain ⟨W, hW⟩ : ∃ W, W = w.alloc (.cells #[.int .i64 0, .int .i64 0, .int .i64 0, .int .i64 0] 80) := ⟨_, rfl⟩
  have hbW : Below w.heap.size w W := by rw [hW]; exact Joins.below_alloc1 w _
  have hsW : W.heap.size = w.heap.size + 1 := by rw [hW]; simp
  have hrW : BR W r ⟨xs, xn, xd, ⟨lk, ln, ls, ld⟩⟩ := (hbW.block r hrl).trans hr
  have hzW : W.heap[w.heap.size]? = some (.cells #[.int .i64 0, .int .i64 0, .int .i64 0, .int .i64 0] 80 (0, 0)) := by rw [hW]; exact heap_alloc_new w _
  obtain ⟨z, hz⟩ : ∃ z, z = w.heap.size := ⟨_, rfl⟩
  rw [← hz] at hzW hsW hrl
  have c0 := Joins.cell_of_block hrW 0
  have c1 := Joins.cell_of_block hrW 1
  have c2 := Joins.cell_of_block hrW 2
  have c3 := Joins.cell_of_block hrW 3
  have c4 := Joins.cell_of_block hrW 4
  have c5 := Joins.cell_of_block hrW 5
  have c6 := Joins.cell_of_block hrW 6
  have HZW := hid hzW
  have HBW := hid hbW
  have HZ := hid hz
  have HSW := hid hsW
  have HCE := empty96 W
  have z0 := Joins.cell_of_block hzW 0
  have z1 := Joins.cell_of_block hzW 1
  have z2 := Joins.cell_of_block hzW 2
  have z3 := Joins.cell_of_block hzW 3
  have f0 := Joins.unfrozen_of_block hzW 0
  have f1 := Joins.unfrozen_of_block hzW 1
  have f2 := Joins.unfrozen_of_block hzW 2
  have f3 := Joins.unfrozen_of_block hzW 3
  clear hr hbW hrW hzW hsW
  by_cases h0 : xs = 0
  · have g0 : ((xs : Int) == 0) = true := by simp [h0]
    have HJ : Hid (joinedR 1099511627776 ⟨xs, xn, xd, ⟨lk, ln, ls, ld⟩⟩ = ⟨1, 1, 0, 1⟩) := by unfold joinedR; rw [if_pos h0]; exact rfl
    rw [HJ.out]
    clear h0
    go_enter Try.func73, Try.ntmps73
    go_upto_region 1 with fail
    rw [← hz, ← hW]
    clear hW hz
    go_wp2_with (first | (go_at_call 96; (with_reducible refine HCE.mono ?_); rintro e w2 ⟨rfl, hb2⟩; have hz2 := (hb2.block z (by have := HSW.out; omega)).trans HZW.out; clear z0 z1 z2 z3 f0 f1 f2 f3; have z0 := Joins.cell_of_block hz2 0; have z1 := Joins.cell_of_block hz2 1; have z2 := Joins.cell_of_block hz2 2; have z3 := Joins.cell_of_block hz2 3; have f0 := Joins.unfrozen_of_block hz2 0; have f1 := Joins.unfrozen_of_block hz2 1; have f2 := Joins.unfrozen_of_block hz2 2; have f3 := Joins.unfrozen_of_block hz2 3; have HZ2 := hid hz2; have HB2 := hid hb2; clear hb2 hz2 HCE))
    all_goals
      obtain ⟨y1, y2, y3⟩ := four_set w2 z (.int .i64 1) (.int .i64 1) (.int .i64 0) (.int .i64 1) HZ2.out
      refine bodyPost_ret (results_cell_row rfl _ _ z 80 _ (0, 0) _ rfl y1 Try.underlying80 rfl (by kernel_rfl)) rfl ⟨rfl, ?_⟩
      exact y3 _ _ (HBW.out.trans (Joins.below_le HB2.out HBW.out.size)) (by have := HZ.out; omega)
  have g0 : ((xs : Int) == 0) = false := by simp; omega
  by_cases h1 : xs = 1
  · have g1 : ((xs : Int) == 1) = true := by simp [h1]
    have HJ : Hid (joinedR 1099511627776 ⟨xs, xn, xd, ⟨lk, ln, ls, ld⟩⟩ = ⟨lk, ln, ls, ld⟩) := by unfold joinedR; rw [if_neg h0, if_pos h1]; exact rfl
    rw [HJ.out]
    clear h0 h1
    go_enter Try.func73, Try.ntmps73
    go_upto_region 1 with fail
    rw [← hz, ← hW]
    clear hW hz
    go_wp2
    all_goals
      obtain ⟨y1, y2, y3⟩ := four_set W z (.int .i64 lk) (.int .i64 (ln : Int)) (.int .i64 (ls : Int)) (.int .i64 (ld : Int)) HZW.out
      refine bodyPost_ret (results_cell_row rfl _ _ z 80 _ (0, 0) _ rfl y1 Try.underlying80 rfl (by kernel_rfl)) rfl ⟨rfl, ?_⟩
      exact y3 _ _ HBW.out (by have := HZ.out; omega)
  have g1 : ((xs : Int) == 1) = false := by simp; omega
  have HJ : Hid (joinedR 1099511627776 ⟨xs, xn, xd, ⟨lk, ln, ls, ld⟩⟩ = ⟨4, min (xn + 1) 1099511627776, xs, xd + 1⟩) := by unfold joinedR; rw [if_neg h0, if_neg h1]; exact rfl
  rw [HJ.out]
  have a1 : IntKind.i64.wrap ((xn : Int) + 1) = (xn : Int) + 1 := by simp [IntKind.wrap, IntKind.bits, IntKind.signed]; omega
  have a2 : IntKind.i64.wrap ((xd : Int) + 1) = (xd : Int) + 1 := by simp [IntKind.wrap, IntKind.bits, IntKind.signed]; omega
  have e1 : ((min (xn + 1) 1099511627776 : Nat) : Int) = min ((xn : Int) + 1) 1099511627776 := by omega
  have e2 : ((xd + 1 : Nat) : Int) = (xd : Int) + 1 := by omega
  show Calls Try.prog 73 _ w fun e w' => e = .returned (.agg #[.int .i64 4, .int .i64 ((min (xn + 1) 1099511627776 : Nat) : Int), .int .i64 (xs : Int), .int .i64 ((xd + 1 : Nat) : Int)]) ∧ _
  rw [e1, e2]
  obtain ⟨mm, hmm⟩ : ∃ mm, min ((xn : Int) + 1) 1099511627776 = mm := ⟨_, rfl⟩
  rw [hmm]
  clear e1 e2 h0 h1
  go_enter Try.func73, Try.ntmps73
  go_upto_region 1 with fail
  rw [← hz, ← hW]
  clear hW hz
  go_upto_region 5 with fail
  go_region
  all_goals go_wp2
  all_goals
    obtain ⟨y1, y2, y3⟩ := four_set W z (.int .i64 4) (.int .i64 mm) (.int .i64 (xs : Int)) (.int .i64 ((xd : Int) + 1)) HZW.out
    have hb := y3 _ _ HBW.out (by have := HZ.out; omega)
    have hb2 : Below w.heap.size w ((((W.setCell ⟨z, 0, none⟩ (.int .i64 4)).setCell ⟨z, 1, none⟩ (.int .i64 mm)).setCell ⟨z, 2, none⟩ (.int .i64 (xs : Int))).setCell ⟨z, 3, none⟩ (.int .i64 ((xd : Int) + 1))).drew := ⟨hb.os, hb.tape, hb.output, hb.size, hb.block⟩
    have y1' : ((((W.setCell ⟨z, 0, none⟩ (.int .i64 4)).setCell ⟨z, 1, none⟩ (.int .i64 mm)).setCell ⟨z, 2, none⟩ (.int .i64 (xs : Int))).setCell ⟨z, 3, none⟩ (.int .i64 ((xd : Int) + 1))).drew.heap[z]? = some (.cells #[.int .i64 4, .int .i64 mm, .int .i64 (xs : Int), .int .i64 ((xd : Int) + 1)] 80 (0, 0)) := y1
    generalize ((((W.setCell ⟨z, 0, none⟩ (.int .i64 4)).setCell ⟨z, 1, none⟩ (.int .i64 mm)).setCell ⟨z, 2, none⟩ (.int .i64 (xs : Int))).setCell ⟨z, 3, none⟩ (.int .i64 ((xd : Int) + 1))).drew = U at hb2 y1' ⊢
    exact bodyPost_ret (results_cell_row rfl _ _ z 80 _ (0, 0) _ rfl y1' Try.underlying80 rfl (by kernel_rfl)) rfl ⟨rfl, hb2⟩
end Go.Proofs.Ytdidopgenhpakaa
