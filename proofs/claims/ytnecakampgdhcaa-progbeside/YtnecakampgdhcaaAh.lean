/- HELPERS: for awake: Compile of a class. -/
import Derived.Test.YtnecakampgdhcaaAg
namespace Go.Proofs.Ytnecakampgdhcaa
open Go.RowKit
set_option linter.unusedVariables false
set_option linter.unusedSimpArgs false
abbrev F4 (q1 : Option Addr) (q3 : Nat) : List Value := Iv.cs ⟨3, 1, 0, 0, none, 0, 0⟩ ++ Iv.cs ⟨1, 2, 0, 0, q1, 1, q3⟩ ++ Iv.cs ⟨3, 3, 0, 1, none, 0, 0⟩ ++ Iv.cs ⟨5, 0, 0, 0, none, 0, 0⟩
abbrev Bz3 (w : World) (b : Nat) : Prop := w.heap[b]? = some (.cells #[.slice none 0 0, .int .i64 0, .int .i64 0] 24 (0, 0))
set_option maxRecDepth 100000 in
set_option maxHeartbeats 8000000 in
theorem compile20 {w : World} {r1 : Option Addr} {r3 : Nat} (hr : RowAt w.heap.size w (.slice r1 1 r3) [(97, 97)]) (h3 : 1 ≤ r3 ∧ r3 ≤ maxLen) :
    Calls Try.prog 20 #[(CN r1 1 r3).v] w fun e w' => ∃ z1 c q1 q3, e = .returned (.tuple #[pv z1 4 c 0 2, .int .i64 0]) ∧ w'.ownsRow w.heap.size 51 5 (.slice z1 4 c) 4 (F4 q1 q3) ∧ w'.ownsRow w.heap.size 49 2 (.slice q1 1 q3) 1 (O2 [(97, 97)]) ∧ Below w.heap.size w w' := by
  obtain ⟨U, hU⟩ : ∃ U, U = (w.alloc (.cells (Array.mk (CN r1 1 r3).cs) 39)).alloc (.cells #[.slice none 0 0, .int .i64 0, .int .i64 0] 24) := ⟨_, rfl⟩
  have hbU : Below w.heap.size w U := by rw [hU]; exact below_two' w _ _
  have hX : BxC U w.heap.size r1 1 r3 := by rw [hU]; exact (heap_alloc_old _ _ (by simp)).trans (heap_alloc_new w _)
  have hY : Bz3 U (w.heap.size + 1) := by rw [hU]; exact two_new w _ _ _
  have hyU : w.heap.size + 1 < U.heap.size := (Array.getElem?_eq_some_iff.1 hY).1
  have HRU := hid (hr.below hbU (Nat.le_refl _) hbU.size)
  have HS := sound29g (ct_ti HRU.out h3)
  rw [if_pos ct_sound] at HS
  have HB0 := hid hbU
  have HX0 := hid hX
  have HY0 := hid hY
  obtain ⟨y, hy⟩ : ∃ y, y = w.heap.size + 1 := ⟨_, rfl⟩
  obtain ⟨x, hx⟩ : ∃ x, x = w.heap.size := ⟨_, rfl⟩
  clear hr hbU hX hY
  go_enter Try.func20, Try.ntmps20
  go_upto_region 1 with fail
  rw [← hU, ← hy, ← hx]
  rw [← hy] at HY0 hyU
  rw [← hx] at HX0 HB0 hy
  have HXE := hid hx
  have hxy : x < y := by omega
  clear hU hy hx
  obtain ⟨c0, c1, c2, c3, c4, c5, c6, c7, c8⟩ := ninec HX0.out
  go_upto_region 3 with (go_at_call 28; (with_reducible refine HS.mono ?_); rintro e U1 ⟨rfl, hb⟩; have HB1 := hid hb; clear hb HS)
  clear c0 c1 c2 c3 c4 c5 c6 c7 c8
  have HX1 : Hid (BxC U1 x r1 1 r3) := (HB1.out.block x (by omega)).trans HX0.out
  have HY1 : Hid (Bz3 U1 y) := (HB1.out.block y hyU).trans HY0.out
  have hy1 : y < U1.heap.size := Nat.lt_of_lt_of_le hyU HB1.out.size
  have HW := whole29c r1 1 r3 U1
  obtain ⟨c0, c1, c2, c3, c4, c5, c6, c7, c8⟩ := ninec HX1.out
  go_upto_region 6 with (go_at_call 29; (with_reducible refine HW.mono ?_); rintro e U2 ⟨rfl, hb⟩; have HB2 := hid hb; clear hb HW)
  clear c0 c1 c2 c3 c4 c5 c6 c7 c8
  have HX2 : Hid (BxC U2 x r1 1 r3) := (HB2.out.block x (by omega)).trans HX1.out
  have HY2 : Hid (Bz3 U2 y) := (HB2.out.block y hy1).trans HY1.out
  have hy2 : y < U2.heap.size := Nat.lt_of_lt_of_le hy1 HB2.out.size
  have HR2 := hid ((HRU.out.below HB1.out (Nat.le_refl _) HB1.out.size).below HB2.out (Nat.le_refl _) HB2.out.size)
  have HC := simplify30 HR2.out h3
  have HBx : Hid (Below x w U2) := (HB0.out.trans (Joins.below_le HB1.out (by omega))).trans (Joins.below_le HB2.out (by omega))
  obtain ⟨c0, c1, c2, c3, c4, c5, c6, c7, c8⟩ := ninec HX2.out
  go_upto_region 9 with (go_at_call 30; (with_reducible refine HC.mono ?_); rintro e W3 ⟨q1, q3, rfl, hrow, hb⟩; have HR3 := hid hrow; have HB3 := hid hb; clear hrow hb HC)
  clear c0 c1 c2 c3 c4 c5 c6 c7 c8 HX1 HY1 HX0 HY0 HB0 HRU HR2 HB1 HB2
  obtain ⟨U3, hU3⟩ : ∃ U3, U3 = W3.alloc (.cells (Array.mk (CN q1 1 q3).cs) 39) := ⟨_, rfl⟩
  rw [← hU3]
  have HB23 : Hid (Below U2.heap.size U2 U3) := by rw [hU3]; exact HB3.out.alloc HB3.out.size _
  have hZ : BxC U3 W3.heap.size q1 1 q3 := by rw [hU3]; exact heap_alloc_new W3 _
  have HRO : Hid (U3.ownsRow U2.heap.size 49 2 (.slice q1 1 q3) 1 (O2 [(97, 97)])) := by rw [hU3]; exact HR3.out.alloc _
  obtain ⟨z, hz⟩ : ∃ z, z = W3.heap.size := ⟨_, rfl⟩
  rw [← hz] at hZ ⊢
  have HZ := hid hZ
  have HX3 : Hid (BxC U3 x r1 1 r3) := (HB23.out.block x (by omega)).trans HX2.out
  have HY3 : Hid (Bz3 U3 y) := (HB23.out.block y hy2).trans HY2.out
  have hy3 : y < U3.heap.size := Nat.lt_of_lt_of_le hy2 HB23.out.size
  have hz3 : z < U3.heap.size := (Array.getElem?_eq_some_iff.1 hZ).1
  have HB3x : Hid (Below x w U3) := HBx.out.trans (Joins.below_le HB23.out (by omega))
  clear hU3 hz hZ HB3 HR3 HX2 HY2 HBx
  have HN := newRow31 U3
  go_upto_region 10 with (go_at_call 31; (with_reducible refine HN.mono ?_); rintro e W4 ⟨z1, cc, rfl, hrow, hb⟩; have HR4 := hid hrow; have HB4 := hid hb; clear hrow hb HN)
  obtain ⟨U4, hU4⟩ : ∃ U4, U4 = W4.alloc (.cells #[.slice z1 0 cc] 64) := ⟨_, rfl⟩
  rw [← hU4]
  have HB34 : Hid (Below U3.heap.size U3 U4) := by rw [hU4]; exact HB4.out.alloc HB4.out.size _
  have hM4 : MK U4 W4.heap.size x 0 [] := ⟨z1, cc, by rw [hU4]; exact heap_alloc_new W4 _, by rw [hU4]; exact (HR4.out.mono (base' := x) (by omega)).alloc _⟩
  have hm4 : U3.heap.size ≤ W4.heap.size := HB4.out.size
  obtain ⟨m, hm⟩ : ∃ m, m = W4.heap.size := ⟨_, rfl⟩
  rw [← hm] at hM4 hm4 ⊢
  have HX4 : Hid (BxC U4 x r1 1 r3) := (HB34.out.block x (by omega)).trans HX3.out
  have HY4 : Hid (Bz3 U4 y) := (HB34.out.block y hy3).trans HY3.out
  have HZ4 : Hid (BxC U4 z q1 1 q3) := (HB34.out.block z hz3).trans HZ.out
  have HRO4 : Hid (U4.ownsRow U2.heap.size 49 2 (.slice q1 1 q3) 1 (O2 [(97, 97)])) := row_kept HRO.out (fun b hb => HB34.out.block b (HRO.out.lt b hb).2)
  have HB4x : Hid (Below x w U4) := HB3x.out.trans (Joins.below_le HB34.out (by omega))
  have hx4 : x ≤ U4.heap.size := by have := HB34.out.size; omega
  have HL := whole32 q1 q3 hM4 (by omega) hx4
  clear hU4 hm hM4 HR4 HB4 HX3 HY3 HZ HRO HB3x
  obtain ⟨c0, c1, c2, c3, c4, c5, c6, c7, c8⟩ := ninec HZ4.out
  go_upto_region 11 with (go_at_call 32; (with_reducible refine HL.mono ?_); rintro e U5 ⟨rfl, hM, hf⟩; have HM5 := hid hM; have HF5 := hid hf; clear hM hf HL)
  clear c0 c1 c2 c3 c4 c5 c6 c7 c8
  obtain ⟨n1, nc, hbm, hrow5⟩ := HM5.out
  have HX5 : Hid (BxC U5 x r1 1 r3) := HF5.out.blk x _ _ _ HX4.out (by decide) (by decide)
  have HY5 : Hid (Bz3 U5 y) := HF5.out.blk y _ _ _ HY4.out (by decide) (by decide)
  have hrq : U5.ownsRow U2.heap.size 49 2 (.slice q1 1 q3) 1 (O2 [(97, 97)]) := by
    rcases HRO4.out.2 with ⟨_, h0⟩ | ⟨b, cap, cur, e, hb, hg, rest⟩
    · simp at h0
    · exact row_kept HRO4.out (fun b' hb' => by rw [e] at hb'; cases hb'; rw [HF5.out.blk b _ _ _ hg (by decide) (by decide), hg])
  have HRQ := hid hrq
  have HR5 := hid hrow5
  have HBM := hid hbm
  have p0 : U5.cell? ⟨m, 0, none⟩ = some (.slice n1 4 nc) := Joins.cell_of_block hbm 0
  have hm5 : m < U5.heap.size := (Array.getElem?_eq_some_iff.1 hbm).1
  have hx5 : x < U5.heap.size := (Array.getElem?_eq_some_iff.1 HX5.out).1
  have hy5 : y < U5.heap.size := (Array.getElem?_eq_some_iff.1 HY5.out).1
  have HB5x : Hid (Below x w U5) := ⟨HF5.out.os.trans HB4x.out.os, HF5.out.tape.trans HB4x.out.tape, HF5.out.output.trans HB4x.out.output, Nat.le_trans HB4x.out.size HF5.out.size, fun b hb => (HF5.out.low b hb).trans (HB4x.out.block b hb)⟩
  have hyx : y ≠ x := by omega
  have hym : y ≠ m := by omega
  have HG := fun W => great33c r1 1 r3 W
  obtain ⟨c0, c1, c2, c3, c4, c5, c6, c7, c8⟩ := ninec HX5.out
  clear hrq hrow5 hbm HM5
  go_region_held3 (fun W => W.cell? ⟨m, 0, none⟩ = some (.slice n1 4 nc) ∧ W.cell? ⟨x, 0, none⟩ = some (.int .i64 2) ∧ W.cell? ⟨x, 1, none⟩ = some (.slice r1 1 r3) ∧ W.cell? ⟨x, 2, none⟩ = some (.int .i64 0) ∧ W.cell? ⟨x, 3, none⟩ = some (.slice none 0 0) ∧ W.cell? ⟨x, 4, none⟩ = some (.int .i64 0) ∧ W.cell? ⟨x, 5, none⟩ = some (.int .i64 0) ∧ W.cell? ⟨x, 6, none⟩ = some (.bool false) ∧ W.cell? ⟨x, 7, none⟩ = some (.int .i64 0) ∧ W.cell? ⟨x, 8, none⟩ = some (.string ⟨#[]⟩)) (first | (exact ⟨k, k0, k1, k2, k3, k4, k5, k6, k7, k8⟩) | (go_keep; done) | (refine ⟨?_, ?_, ?_, ?_, ?_, ?_, ?_, ?_, ?_, ?_⟩ <;> simp [*] <;> done) | (simp [*]; done)) (first | (go_at_call 33; (with_reducible refine (HG _).mono ?_); rintro e w6 ⟨rfl, hb6⟩; have hbb : Below U5.heap.size U5 w6 := ⟨hb6.os, hb6.tape, hb6.output, hb6.size, hb6.block⟩; obtain ⟨k0, k1, k2, k3, k4, k5, k6, k7, k8⟩ := ninec ((hbb.block x hx5).trans HX5.out); have k : w6.cell? ⟨m, 0, none⟩ = some (.slice n1 4 nc) := (cell_eq (hbb.block m hm5) 0).trans p0; have hY6 := (hbb.block y hy5).trans HY5.out; have y0 := Joins.unfrozen_of_block hY6 0; have y1 := Joins.unfrozen_of_block hY6 1; have y2 := Joins.unfrozen_of_block hY6 2; have s0 := Joins.cell_of_block hY6 0; have s1 := Joins.cell_of_block hY6 1; have s2 := Joins.cell_of_block hY6 2; have HY6 := hid hY6; have HBB := hid hbb; clear hbb hb6 hY6))
  all_goals go_wp2_with fail
  all_goals
    have hfin : (((w6.setCell ⟨y, 0, none⟩ (.slice n1 4 nc)).setCell ⟨y, 1, none⟩ (.int .i64 0)).setCell ⟨y, 2, none⟩ (.int .i64 2)).heap[y]? = some (.cells #[.slice n1 4 nc, .int .i64 0, .int .i64 2] 24 (0, 0)) := Joins.block_setCell (i := 2) (Joins.block_setCell (i := 1) (Joins.block_setCell (i := 0) HY6.out _) _) _
    refine bodyPost_ret (results_cell_tmp rfl _ _ y 24 _ (0, 0) _ rfl hfin Try.underlying24 rfl (by kernel_rfl)) rfl ?_
    have hBx6 : Below x w w6 := HB5x.out.trans (Joins.below_le HBB.out (by omega))
    have hr6 := (row_kept HR5.out (w' := w6) (fun b hb => HBB.out.block b (HR5.out.lt b hb).2))
    have hq6 := (row_kept HRQ.out (w' := w6) (fun b hb => HBB.out.block b (HRQ.out.lt b hb).2))
    have hyn : (Value.slice n1 4 nc).ownBlock ≠ some y := own_ne hr6 HY6.out (by decide)
    have hyq : (Value.slice q1 1 q3).ownBlock ≠ some y := own_ne hq6 HY6.out (by decide)
    refine ⟨n1, nc, q1, q3, rfl, ?_, ?_, ?_⟩
    · rw [← HXE.out]; exact own_setCell (own_setCell (own_setCell hr6 hyn) hyn) hyn
    · rw [← HXE.out]; exact (own_setCell (own_setCell (own_setCell hq6 hyq) hyq) hyq).mono (base' := x) (by omega)
    · rw [← HXE.out]; exact ((hBx6.setCell (p := ⟨y, 0, none⟩) (by show x ≤ y; omega) _).setCell (p := ⟨y, 1, none⟩) (by show x ≤ y; omega) _).setCell (p := ⟨y, 2, none⟩) (by show x ≤ y; omega) _
end Go.Proofs.Ytnecakampgdhcaa
