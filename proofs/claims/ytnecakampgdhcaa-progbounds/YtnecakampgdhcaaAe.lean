/- HELPERS: for awake: the whole program of a class; a new row. -/
import Derived.Test.YtnecakampgdhcaaAd
import Derived.Laws.Rows
namespace Go.Proofs.Ytnecakampgdhcaa
open Go.RowKit
set_option linter.unusedVariables false
set_option linter.unusedSimpArgs false
set_option maxRecDepth 100000 in
set_option maxHeartbeats 4000000 in
theorem whole32 {w : World} {m base : Nat} (r1 : Option Addr) (r3 : Nat) (h : MK w m base 0 []) (hm : base ≤ m) (hb : base ≤ w.heap.size) :
    Calls Try.prog 32 #[pt m, (CN r1 1 r3).v] w fun e w' => e = .returned (.tuple #[]) ∧ MK w' m base 4 (Iv.cs ⟨3, 1, 0, 0, none, 0, 0⟩ ++ Iv.cs ⟨1, 2, 0, 0, r1, 1, r3⟩ ++ Iv.cs ⟨3, 3, 0, 1, none, 0, 0⟩ ++ Iv.cs ⟨5, 0, 0, 0, none, 0, 0⟩) ∧ Fr base w w' := by
  obtain ⟨U, hU⟩ : ∃ U, U = w.alloc (.cells (Array.mk (CN r1 1 r3).cs) 39) := ⟨_, rfl⟩
  have hbU : Below w.heap.size w U := by rw [hU]; exact Joins.below_alloc1 w _
  have hQ : BxC U w.heap.size r1 1 r3 := by rw [hU]; exact heap_alloc_new w _
  have HF := hid (Fr.of_below hbU hb)
  have hbU2 : base ≤ U.heap.size := Nat.le_trans hb hbU.size
  have H1 := step48 3 0 0 none 0 0 (h.below hbU) hm (by omega) hbU2
  have HQ := hid hQ
  obtain ⟨p, hp⟩ : ∃ p, p = w.heap.size := ⟨_, rfl⟩
  clear h hbU hQ
  go_enter Try.func32, Try.ntmps32
  go_upto_region 1 with fail
  rw [← hU, ← hp]
  rw [← hp] at HQ
  clear hU hp
  go_upto_region 2 with (go_at_call 48; (with_reducible refine H1.mono ?_); rintro e U1 ⟨rfl, hM, hf⟩; have HM1 := hid hM; have HF1 := hid hf; clear hM hf H1)
  have HQ1 : Hid (BxC U1 p r1 1 r3) := HF1.out.blk p _ _ _ HQ.out (by decide) (by decide)
  have hb1 : base ≤ U1.heap.size := Nat.le_trans hbU2 HF1.out.size
  have H2 := lay49 r1 r3 HM1.out hm (by omega) hb1
  obtain ⟨c0, c1, c2, c3, c4, c5, c6, c7, c8⟩ := ninec HQ1.out
  go_upto_region 3 with (go_at_call 49; (with_reducible refine H2.mono ?_); rintro e U2 ⟨rfl, hM, hf⟩; have HM2 := hid hM; have HF2 := hid hf; clear hM hf H2)
  clear c0 c1 c2 c3 c4 c5 c6 c7 c8
  have hb2 : base ≤ U2.heap.size := Nat.le_trans hb1 HF2.out.size
  have H3 := step48 3 0 1 none 0 0 HM2.out hm (by omega) hb2
  go_upto_region 4 with (go_at_call 48; (with_reducible refine H3.mono ?_); rintro e U3 ⟨rfl, hM, hf⟩; have HM3 := hid hM; have HF3 := hid hf; clear hM hf H3)
  have hb3 : base ≤ U3.heap.size := Nat.le_trans hb2 HF3.out.size
  have H4 := add42' ⟨5, 0, 0, 0, none, 0, 0⟩ HM3.out hm (by omega) hb3
  go_wp2_with (first | (go_at_call 42; (with_reducible refine H4.mono ?_); rintro e U4 ⟨rfl, hM, hf⟩; have HM4 := hid hM; have HF4 := hid hf; clear hM hf H4))
  go_end0
  exact ⟨rfl, by simpa using HM4.out, HF.out.trans (HF1.out.trans (HF2.out.trans (HF3.out.trans HF4.out)))⟩
set_option maxRecDepth 100000 in
set_option maxHeartbeats 4000000 in
theorem newRow31 (w : World) : Calls Try.prog 31 #[.int .i64 4] w fun e w' => ∃ z1 c, e = .returned (.agg #[.slice z1 0 c]) ∧ w'.ownsRow w.heap.size 51 5 (.slice z1 0 c) 0 [] ∧ Below w.heap.size w w' := by
  have hmk := make51 4 (by omega) (w.alloc (.cells #[.slice none 0 0] 61))
  have e4 : ((4 : Nat) : Int) = 4 := rfl
  rw [e4] at hmk
  have hs0 : (w.alloc (.cells #[.slice none 0 0] 61)).heap.size = w.heap.size + 1 := by simp
  have hown0 := made_own51 4 (by unfold maxLen; omega) w.heap.size (w.alloc (.cells #[.slice none 0 0] 61)) (by simp)
  rw [hs0] at hmk hown0
  clear hs0 e4
  have hQ : ((w.alloc (.cells #[.slice none 0 0] 61)).alloc (.cells (madeCells Z5.cells (4 * 5)) 51)).heap[w.heap.size]? = some (.cells #[.slice none 0 0] 61 (0, 0)) := (heap_alloc_old _ _ (by simp)).trans (heap_alloc_new w _)
  have hbV : Below w.heap.size w ((w.alloc (.cells #[.slice none 0 0] 61)).alloc (.cells (madeCells Z5.cells (4 * 5)) 51)) := below_two' w _ _
  obtain ⟨V, hV⟩ : ∃ V, V = (w.alloc (.cells #[.slice none 0 0] 61)).alloc (.cells (madeCells Z5.cells (4 * 5)) 51) := ⟨_, rfl⟩
  rw [← hV] at hmk hown0 hQ hbV
  have f0 := Joins.unfrozen_of_block hQ 0
  have k0 := Joins.cell_of_block hQ 0
  have HQ := hid hQ
  have HB := hid hbV
  have HO := hid hown0
  clear hV hown0 hQ hbV
  go_enter Try.func31, Try.ntmps31
  go_wp2_with fail
  refine bodyPost_ret (results_cell_row rfl _ _ w.heap.size 61 _ (0, 0) _ rfl (Joins.block_setCell (i := 0) HQ.out _) Try.underlying61 rfl (by kernel_rfl)) rfl ?_
  exact ⟨some ⟨w.heap.size + 1, 0, none⟩, 4, rfl, own_setCell HO.out (fun e => by simp [Value.ownBlock] at e), HB.out.setCell (p := ⟨w.heap.size, 0, none⟩) (Nat.le_refl _) _⟩
end Go.Proofs.Ytnecakampgdhcaa
