/- PROVED: the law BitstateRuns of layer 12 answers true for every two questions (program, text, place, flag), and they read afterwards as they read before: bitstate's Run answers what the document's Run answers, the error, the match or none, the captures, the pattern and the steps, for both questions, asked again behind another run, and of the same text list when other letters stand in it; what is handed in stays, with the marks behind it; what comes out is its owner's.
   CONDITIONS: none but the form's own (each slice and string at most 2^47 - 4096 bytes). -/
import Derived.Test.YtodpmmlfdkdemaaCc
import Derived.Test.YtodpmmlfdkdemaaBh
import Derived.Laws.StructEq
import Derived.Deep.DrawnRows
import Derived.Test.YtodpmmlfdkdemaaEK
import Derived.Test.YtodpmmlfdkdemaaQc
import Derived.Test.YtodpmmlfdkdemaaBK
import Derived.Deep.LoopGhost
import Derived.Deep.MidRow
import Derived.Laws.IdiomCopy
import Derived.Test.YtodpmmlfdkdemaaPr
import Derived.Test.YtodpmmlfdkdemaaRows
/- HELPERS: two programs that hold the same are told to be the same. -/
namespace Go.Proofs.Ytodpmmlfdkdemaa
open Go.RowKit
set_option linter.unusedVariables false
set_option linter.unusedSimpArgs false
attribute [local go_sem ↓] Go.wp_at_zero Go.wp_at_succ
theorem fields49 : Try.prog.underlying 55 = some (.struct (Try.prog.fieldsOf 55)) := by kernel_rfl
theorem held49 : Try.prog.stoodInHeld 55 = false := by kernel_rfl
theorem guard49 : Try.prog.eqGuardType Try.prog.depth 55 = false := by kernel_rfl
set_option maxRecDepth 100000 in
theorem rng_neq (lo hi : Int) (W : World) : (binOp .neq 55 (.agg #[.int .i64 lo, .int .i64 hi]) (.agg #[.int .i64 lo, .int .i64 hi])).run Try.prog W = .ok (.bool false) W := by
  have he : ∀ (a b : Int), (Op.equalIn 9999 3 (.int .i64 a) (.int .i64 b)).run Try.prog W = .ok (a == b) W := fun a b => run_equalIn_int W 9998 3 .i64 .i64 a b Try.underlying3
  rw [run_neq_struct, show Op.equalIn 10000 55 = Op.equalIn (9999 + 1) 55 from rfl, run_equalIn_agg W 9999 55 _ _ fields49 held49]
  have hp : ∀ (xs : Array Value) (o : Nat) (v : Value), xs[o]? = some v → (part 3 xs o).run Try.prog W = .ok v W := by
    intro xs o v h
    simp [part, Try.isAgg3, h, Result.andThen]
  simp [Program.fieldsOf, Try.underlying55, Op.eqFields, hp, he, Result.andThen]
theorem rng_guard (x y : Operand) (lo hi lo' hi' : Int) (W : World) : (eqGuard .neq 55 x y (.agg #[.int .i64 lo, .int .i64 hi]) (.agg #[.int .i64 lo', .int .i64 hi'])).run Try.prog W = .ok () W := run_eqGuard_agg W .neq 55 x y _ _ guard49
set_option maxRecDepth 100000 in
set_option maxHeartbeats 8000000 in
theorem same11 {w : World} {ad ad' : Option Addr} {n c c' : Nat} {l : List In} {s k : Int} (h : PI w w.heap.size ad n l) (h' : PI w w.heap.size ad' n l) (hn : n ≤ 9223372036854775807) :
    Calls Try.prog 23 #[pv ad n c s k, pv ad' n c' s k] w fun e w' => e = .returned (.bool true) ∧ Below w.heap.size w w' := by
  obtain ⟨U, hU⟩ : ∃ U, U = (w.alloc (.cells #[.slice ad n c, .int .i64 s, .int .i64 k] 24)).alloc (.cells #[.slice ad' n c', .int .i64 s, .int .i64 k] 24) := ⟨_, rfl⟩
  have hb : Below w.heap.size w U := by rw [hU]; exact below_two' w _ _
  have hX1 : U.heap[w.heap.size]? = some (.cells #[.slice ad n c, .int .i64 s, .int .i64 k] 24 (0, 0)) := by rw [hU]; exact (heap_alloc_old _ _ (by simp)).trans (heap_alloc_new w _)
  have hX2 : U.heap[w.heap.size + 1]? = some (.cells #[.slice ad' n c', .int .i64 s, .int .i64 k] 24 (0, 0)) := by rw [hU]; exact two_new w _ _ _
  have HP := hid (h.kept hb hb.size)
  have HP' := hid (h'.kept hb hb.size)
  have HB := hid hb
  have HL := hid h.len
  have l1 : w.heap.size < U.heap.size := (Array.getElem?_eq_some_iff.1 hX1).1
  have l2 : w.heap.size + 1 < U.heap.size := (Array.getElem?_eq_some_iff.1 hX2).1
  clear h h' hb
  go_enter Try.func23, Try.ntmps23
  go_upto_region 1 with fail
  rw [← hU]
  obtain ⟨x2, hx2⟩ : ∃ x2, x2 = w.heap.size + 1 := ⟨_, rfl⟩
  rw [← hx2] at hX2 l2 ⊢
  obtain ⟨x1, hx1⟩ : ∃ x1, x1 = w.heap.size := ⟨_, rfl⟩
  rw [← hx1] at hX1 l1 HB ⊢
  have HX1 := hid hX1
  have HX2 := hid hX2
  have HXE := hid hx1
  clear hx1 hx2 hU hX1 hX2
  obtain ⟨p0, p1, p2⟩ := three_cells HX1.out
  obtain ⟨q0, q1, q2⟩ := three_cells HX2.out
  go_wp2_with fail
  clear p0 p1 p2 q0 q1 q2
  go_loopw [5] (fun y wq => ∃ i : Nat, y = .int .i64 (i : Int) ∧ i ≤ n ∧ Hid (Below U.heap.size U wq)) (fun y _ => n - (intOf y).toNat)
  case atStart => exact ⟨0, rfl, by omega, Below.refl _ _⟩
  case round =>
    obtain ⟨i, rfl, hi, BK⟩ := hrel
    obtain ⟨p0, p1, p2⟩ := three_cells ((BK.out.block x1 l1).trans HX1.out)
    obtain ⟨q0, q1, q2⟩ := three_cells ((BK.out.block x2 l2).trans HX2.out)
    have hUw : U.heap.size ≤ wr.heap.size := BK.out.size
    have l1w : x1 < wr.heap.size := by omega
    have l2w : x2 < wr.heap.size := by omega
    by_cases hil : i < n
    · have b1 : decide ((i : Int) < (n : Int)) = true := by simp; omega
      have b2 : (i : Int) < (n : Int) := by omega
      have ad1 : IntKind.i64.wrap ((i : Int) + 1) = (i : Int) + 1 := by simp [IntKind.wrap, IntKind.bits, IntKind.signed]; omega
      have hlt : i < l.length := by have := HL.out; omega
      obtain ⟨g, o, ND, e, hg, hcs⟩ := HP.out.mem (by omega)
      obtain ⟨g', o', ND', e', hg', hcs'⟩ := HP'.out.mem (by omega)
      subst e e'
      have lg : g < wr.heap.size := by omega
      have lg' : g' < wr.heap.size := by omega
      obtain ⟨m0, m1, m2, m3, m4⟩ := (hcs i hlt).1.kept (BK.out.block g hg)
      obtain ⟨t0, t1, t2, t3, t4⟩ := (hcs' i hlt).1.kept (BK.out.block g' hg')
      have hI := (hcs i hlt).2.kept BK.out BK.out.size
      have hI' := (hcs' i hlt).2.kept BK.out BK.out.size
      obtain ⟨M, hM⟩ : ∃ M, M = ND i := ⟨_, rfl⟩
      obtain ⟨M', hM'⟩ : ∃ M, M = ND' i := ⟨_, rfl⟩
      rw [← hM] at m0 m1 m2 m3 m4 hI
      rw [← hM'] at t0 t1 t2 t3 t4 hI'
      clear hM hM' hcs hcs'
      obtain ⟨op, x, y, a, r1, r2, r3⟩ := M
      obtain ⟨op', x', y', a', r1', r2', r3'⟩ := M'
      obtain rfl : op' = op := hI'.op.trans hI.op.symm
      obtain rfl : x' = x := hI'.x.trans hI.x.symm
      obtain rfl : y' = y := hI'.y.trans hI.y.symm
      obtain rfl : a' = a := hI'.a.trans hI.a.symm
      obtain rfl : r2' = r2 := hI'.len.trans hI.len.symm
      have hr2 : r2' ≤ 8796093022208 := by have := hI.sm; dsimp only at this; omega
      have HI := hid hI
      have HI' := hid hI'
      clear hI hI'
      dsimp only at m0 m1 m2 m3 m4 t0 t1 t2 t3 t4
      go_wp2_with fail
      obtain ⟨V, hV⟩ : ∃ V, V = (wr.alloc (.cells #[.int .i64 op', .int .i64 x', .int .i64 y', .int .i64 a', .slice r1 r2' r3] 53)).alloc (.cells #[.int .i64 op', .int .i64 x', .int .i64 y', .int .i64 a', .slice r1' r2' r3'] 53) := ⟨_, rfl⟩
      rw [← hV]
      have HBV : Hid (Below wr.heap.size wr V) := by rw [hV]; exact below_two' wr _ _
      have hZ1 : Hid (V.heap[wr.heap.size]? = some (.cells #[.int .i64 op', .int .i64 x', .int .i64 y', .int .i64 a', .slice r1 r2' r3] 53 (0, 0))) := by rw [hV]; exact (heap_alloc_old _ _ (by simp)).trans (heap_alloc_new wr _)
      have hZ2 : Hid (V.heap[wr.heap.size + 1]? = some (.cells #[.int .i64 op', .int .i64 x', .int .i64 y', .int .i64 a', .slice r1' r2' r3'] 53 (0, 0))) := by rw [hV]; exact two_new wr _ _ _
      have k1 : wr.heap.size < V.heap.size := (Array.getElem?_eq_some_iff.1 hZ1.out).1
      have k2 : wr.heap.size + 1 < V.heap.size := (Array.getElem?_eq_some_iff.1 hZ2.out).1
      obtain ⟨z2, hz2⟩ : ∃ z2, z2 = wr.heap.size + 1 := ⟨_, rfl⟩
      rw [← hz2] at hZ2 k2 ⊢
      have HBW := hid (BK.out.trans (Joins.below_le HBV.out BK.out.size))
      have HIV := hid (HI.out.kept HBV.out HBV.out.size)
      have HIV' := hid (HI'.out.kept HBV.out HBV.out.size)
      obtain ⟨z1, hz1⟩ : ∃ z1, z1 = wr.heap.size := ⟨_, rfl⟩
      rw [← hz1] at hZ1 k1 ⊢
      clear hV hz1 hz2 HBV HI HI' m0 m1 m2 m3 m4 t0 t1 t2 t3 t4 p0 p1 p2 q0 q1 q2 b1
      go_loopw [8] (fun y wq => ∃ j : Nat, y = .int .i64 (j : Int) ∧ j ≤ r2' ∧ Hid (Below V.heap.size V wq)) (fun y _ => r2' - (intOf y).toNat)
      case atStart => exact ⟨0, rfl, by omega, Below.refl _ _⟩
      case round =>
        obtain ⟨j, rfl, hj, BJ⟩ := hrel
        obtain ⟨d0, d1, d2, d3, d4⟩ := five ((BJ.out.block z1 k1).trans hZ1.out)
        obtain ⟨f0, f1, f2, f3, f4⟩ := five ((BJ.out.block z2 k2).trans hZ2.out)
        by_cases hjl : j < r2'
        · have b3 : decide ((j : Int) < (r2' : Int)) = true := by simp; omega
          have b4 : (j : Int) < (r2' : Int) := by omega
          have ad2 : IntKind.i64.wrap ((j : Int) + 1) = (j : Int) + 1 := by simp [IntKind.wrap, IntKind.bits, IntKind.signed]; omega
          have hlen : r2' = (l[i]).R.length := HIV.out.len
          obtain ⟨a1, cap1, e1, h1⟩ := HIV.out.row.below BJ.out (Nat.le_refl _) (Nat.le_refl _)
          obtain ⟨a2, cap2, e2, h2⟩ := HIV'.out.row.below BJ.out (Nat.le_refl _) (Nat.le_refl _)
          simp only [Value.slice.injEq] at e1 e2
          obtain ⟨rfl, _, rfl⟩ := e1
          obtain ⟨rfl, _, rfl⟩ := e2
          rcases h1 with h1 | ⟨rb, ro, rfl, _, u0, u1⟩
          · omega
          rcases h2 with h2 | ⟨rb', ro', rfl, _, v0, v1⟩
          · omega
          have u0 := u0 j (by omega)
          have u1 := u1 j (by omega)
          have v0 := v0 j (by omega)
          have v1 := v1 j (by omega)
          obtain ⟨⟨lo, hi'⟩, hv⟩ : ∃ v, (l[i]).R.getD j (0, 0) = v := ⟨_, rfl⟩
          rw [hv] at u0 u1 v0 v1
          dsimp only at u0 u1 v0 v1
          have hneq := fun W' => rng_neq lo hi' W'
          have hgd := fun x y W' => rng_guard x y lo hi' lo hi' W'
          clear hv hlen
          go_wp2_with fail
          go_quiet (fail)
          go_wp2
          exact ⟨⟨j + 1, by push_cast; rfl, by omega, BJ.out.trans ⟨rfl, rfl, rfl, Nat.le_refl _, fun _ _ => rfl⟩⟩, by simp [intOf]; omega⟩
        · have b3 : decide ((j : Int) < (r2' : Int)) = false := by simp; omega
          go_wp2
          exact ⟨⟨i + 1, by push_cast; rfl, by omega, HBW.out.trans (Joins.below_le BJ.out HBW.out.size)⟩, by simp [intOf]; omega⟩
    · have b1 : decide ((i : Int) < (n : Int)) = false := by simp; omega
      go_wp2
      all_goals go_ret
      all_goals refine ⟨rfl, ?_⟩
      rw [← HXE.out]
      exact HB.out.trans (Joins.below_le BK.out (by omega))
end Go.Proofs.Ytodpmmlfdkdemaa
/- HELPERS: the document's Run of layer 12, asked wrongly. -/
namespace Go.Proofs.Ytodpmmlfdkdemaa
open Go.RowKit Go.Lk
set_option linter.unusedVariables false
set_option linter.unusedSimpArgs false
set_option maxRecDepth 100000 in
set_option maxHeartbeats 8000000 in
theorem run6_long {w : World} {ad tad : Option Addr} {n c tn tc : Nat} {s k a : Int} {anch : Bool} {l : List In} (hP : PI w w.heap.size ad n l) (hl : 4194304 < tn) :
    Calls Try.prog 6 #[pv ad n c s k, .slice tad tn tc, .int .i64 a, .bool anch] w (FE 2 w) := by
  obtain ⟨U, hU⟩ : ∃ U, U = (w.alloc (.cells #[.slice ad n c, .int .i64 s, .int .i64 k] 24)).alloc (.cells #[.bool false, .slice none 0 0, .int .i64 0, .int .i64 0] 30) := ⟨_, rfl⟩
  have hb : Below w.heap.size w U := by rw [hU]; exact below_two' w _ _
  have hX : U.heap[w.heap.size]? = some (.cells #[.slice ad n c, .int .i64 s, .int .i64 k] 24 (0, 0)) := by rw [hU]; exact (heap_alloc_old _ _ (by simp)).trans (heap_alloc_new w _)
  have hY : U.heap[w.heap.size + 1]? = some (.cells #[.bool false, .slice none 0 0, .int .i64 0, .int .i64 0] 30 (0, 0)) := by rw [hU]; exact two_new w _ _ _
  obtain ⟨x, hx⟩ : ∃ x, x = w.heap.size := ⟨_, rfl⟩
  obtain ⟨y, hy⟩ : ∃ y, y = w.heap.size + 1 := ⟨_, rfl⟩
  have hyU : w.heap.size + 1 < U.heap.size := (Array.getElem?_eq_some_iff.1 hY).1
  have hPU := hP.kept hb hb.size
  have HCK := rcheck9 (c := c) (s := s) (k := k) hPU
  rw [← hx] at hX hb
  rw [← hy] at hY hyU
  obtain ⟨c0, c1, c2⟩ := three_cells hX
  have HB := hid hb
  have HX := hid hX
  have HY := hid hY
  have HXE := hid hx
  have hxy : x < y := by omega
  have b1 : decide ((4194304 : Int) < (tn : Int)) = true := by simp; omega
  have b1' : decide ((tn : Int) > (4194304 : Int)) = true := by simp; omega
  have s0 := Joins.unfrozen_of_block hY 0
  have s1 := Joins.unfrozen_of_block hY 1
  have s2 := Joins.unfrozen_of_block hY 2
  have s3 := Joins.unfrozen_of_block hY 3
  have y0 := Joins.cell_of_block hY 0
  have y1 := Joins.cell_of_block hY 1
  have y2 := Joins.cell_of_block hY 2
  have y3 := Joins.cell_of_block hY 3
  clear hP hPU hb hX hY
  go_enter Try.func6, Try.ntmps6
  go_upto_region 1 with fail
  rw [← hU, ← hy, ← hx]
  clear hU hx hy
  go_wp2
  refine bodyPost_ret (results_cell_tmp rfl _ _ y 30 _ (0, 0) _ rfl (Joins.block_setCell (i := 3) (Joins.block_setCell (i := 2) (Joins.block_setCell (i := 1) (Joins.block_setCell (i := 0) HY.out _) _) _) _) Try.underlying30 rfl (by kernel_rfl)) rfl ?_
  refine ⟨?_, rfl⟩
  rw [← HXE.out]
  exact (((HB.out.setCell (p := ⟨y, 0, none⟩) (by show x ≤ y; omega) _).setCell (p := ⟨y, 1, none⟩) (by show x ≤ y; omega) _).setCell (p := ⟨y, 2, none⟩) (by show x ≤ y; omega) _).setCell (p := ⟨y, 3, none⟩) (by show x ≤ y; omega) _
set_option maxRecDepth 100000 in
set_option maxHeartbeats 8000000 in
theorem run6_prog {w : World} {ad tad : Option Addr} {n c tn tc : Nat} {s k a : Int} {anch : Bool} {l : List In} (hP : PI w w.heap.size ad n l) (hl : tn ≤ 4194304) (hmay : mayB l s k = false) :
    Calls Try.prog 6 #[pv ad n c s k, .slice tad tn tc, .int .i64 a, .bool anch] w (FE 90 w) := by
  obtain ⟨U, hU⟩ : ∃ U, U = (w.alloc (.cells #[.slice ad n c, .int .i64 s, .int .i64 k] 24)).alloc (.cells #[.bool false, .slice none 0 0, .int .i64 0, .int .i64 0] 30) := ⟨_, rfl⟩
  have hb : Below w.heap.size w U := by rw [hU]; exact below_two' w _ _
  have hX : U.heap[w.heap.size]? = some (.cells #[.slice ad n c, .int .i64 s, .int .i64 k] 24 (0, 0)) := by rw [hU]; exact (heap_alloc_old _ _ (by simp)).trans (heap_alloc_new w _)
  have hY : U.heap[w.heap.size + 1]? = some (.cells #[.bool false, .slice none 0 0, .int .i64 0, .int .i64 0] 30 (0, 0)) := by rw [hU]; exact two_new w _ _ _
  obtain ⟨x, hx⟩ : ∃ x, x = w.heap.size := ⟨_, rfl⟩
  obtain ⟨y, hy⟩ : ∃ y, y = w.heap.size + 1 := ⟨_, rfl⟩
  have hyU : w.heap.size + 1 < U.heap.size := (Array.getElem?_eq_some_iff.1 hY).1
  have hPU := hP.kept hb hb.size
  have HCK := rcheck9 (c := c) (s := s) (k := k) hPU
  rw [← hx] at hX hb
  rw [← hy] at hY hyU
  obtain ⟨c0, c1, c2⟩ := three_cells hX
  have HB := hid hb
  have HX := hid hX
  have HY := hid hY
  have HXE := hid hx
  have hxy : x < y := by omega
  have b1 : decide ((4194304 : Int) < (tn : Int)) = false := by simp; omega
  have b1' : decide ((tn : Int) > (4194304 : Int)) = false := by simp; omega
  rw [hmay] at HCK
  clear hmay
  clear hP hPU hb hX hY
  go_enter Try.func6, Try.ntmps6
  go_upto_region 1 with fail
  rw [← hU, ← hy, ← hx]
  clear hU hx hy
  go_upto_region 5 with (go_at_call 17; (with_reducible refine HCK.mono ?_); rintro e w2 ⟨rfl, hb2⟩; have HB2 := hid hb2; have hY2 := (hb2.block y hyU).trans HY.out; have HY2 := hid hY2; clear hb2 HCK c0 c1 c2 hY2)
  have s0 := Joins.unfrozen_of_block HY2.out 0
  have s1 := Joins.unfrozen_of_block HY2.out 1
  have s2 := Joins.unfrozen_of_block HY2.out 2
  have s3 := Joins.unfrozen_of_block HY2.out 3
  have y0 := Joins.cell_of_block HY2.out 0
  have y1 := Joins.cell_of_block HY2.out 1
  have y2 := Joins.cell_of_block HY2.out 2
  have y3 := Joins.cell_of_block HY2.out 3
  have HBW : Hid (Below x w w2) := HB.out.trans (Joins.below_le HB2.out (by omega))
  go_wp2
  refine bodyPost_ret (results_cell_tmp rfl _ _ y 30 _ (0, 0) _ rfl (Joins.block_setCell (i := 3) (Joins.block_setCell (i := 2) (Joins.block_setCell (i := 1) (Joins.block_setCell (i := 0) HY2.out _) _) _) _) Try.underlying30 rfl (by kernel_rfl)) rfl ?_
  refine ⟨?_, rfl⟩
  rw [← HXE.out]
  exact (((HBW.out.setCell (p := ⟨y, 0, none⟩) (by show x ≤ y; omega) _).setCell (p := ⟨y, 1, none⟩) (by show x ≤ y; omega) _).setCell (p := ⟨y, 2, none⟩) (by show x ≤ y; omega) _).setCell (p := ⟨y, 3, none⟩) (by show x ≤ y; omega) _
set_option maxRecDepth 100000 in
set_option maxHeartbeats 8000000 in
theorem run6_neg {w : World} {ad tad : Option Addr} {n c tn tc : Nat} {s k a : Int} {anch : Bool} {l : List In} (hP : PI w w.heap.size ad n l) (hl : tn ≤ 4194304) (hmay : mayB l s k = true) (ha : a < 0) :
    Calls Try.prog 6 #[pv ad n c s k, .slice tad tn tc, .int .i64 a, .bool anch] w (FE 1 w) := by
  obtain ⟨U, hU⟩ : ∃ U, U = (w.alloc (.cells #[.slice ad n c, .int .i64 s, .int .i64 k] 24)).alloc (.cells #[.bool false, .slice none 0 0, .int .i64 0, .int .i64 0] 30) := ⟨_, rfl⟩
  have hb : Below w.heap.size w U := by rw [hU]; exact below_two' w _ _
  have hX : U.heap[w.heap.size]? = some (.cells #[.slice ad n c, .int .i64 s, .int .i64 k] 24 (0, 0)) := by rw [hU]; exact (heap_alloc_old _ _ (by simp)).trans (heap_alloc_new w _)
  have hY : U.heap[w.heap.size + 1]? = some (.cells #[.bool false, .slice none 0 0, .int .i64 0, .int .i64 0] 30 (0, 0)) := by rw [hU]; exact two_new w _ _ _
  obtain ⟨x, hx⟩ : ∃ x, x = w.heap.size := ⟨_, rfl⟩
  obtain ⟨y, hy⟩ : ∃ y, y = w.heap.size + 1 := ⟨_, rfl⟩
  have hyU : w.heap.size + 1 < U.heap.size := (Array.getElem?_eq_some_iff.1 hY).1
  have hPU := hP.kept hb hb.size
  have HCK := rcheck9 (c := c) (s := s) (k := k) hPU
  rw [← hx] at hX hb
  rw [← hy] at hY hyU
  obtain ⟨c0, c1, c2⟩ := three_cells hX
  have HB := hid hb
  have HX := hid hX
  have HY := hid hY
  have HXE := hid hx
  have hxy : x < y := by omega
  have b1 : decide ((4194304 : Int) < (tn : Int)) = false := by simp; omega
  have b1' : decide ((tn : Int) > (4194304 : Int)) = false := by simp; omega
  rw [hmay] at HCK
  clear hmay
  have b2 : decide (a < 0) = true := by simp [ha]
  clear hP hPU hb hX hY
  go_enter Try.func6, Try.ntmps6
  go_upto_region 1 with fail
  rw [← hU, ← hy, ← hx]
  clear hU hx hy
  go_upto_region 7 with (go_at_call 17; (with_reducible refine HCK.mono ?_); rintro e w2 ⟨rfl, hb2⟩; have HB2 := hid hb2; have hY2 := (hb2.block y hyU).trans HY.out; have HY2 := hid hY2; clear hb2 HCK c0 c1 c2 hY2)
  have s0 := Joins.unfrozen_of_block HY2.out 0
  have s1 := Joins.unfrozen_of_block HY2.out 1
  have s2 := Joins.unfrozen_of_block HY2.out 2
  have s3 := Joins.unfrozen_of_block HY2.out 3
  have y0 := Joins.cell_of_block HY2.out 0
  have y1 := Joins.cell_of_block HY2.out 1
  have y2 := Joins.cell_of_block HY2.out 2
  have y3 := Joins.cell_of_block HY2.out 3
  have HBW : Hid (Below x w w2) := HB.out.trans (Joins.below_le HB2.out (by omega))
  go_wp2
  refine bodyPost_ret (results_cell_tmp rfl _ _ y 30 _ (0, 0) _ rfl (Joins.block_setCell (i := 3) (Joins.block_setCell (i := 2) (Joins.block_setCell (i := 1) (Joins.block_setCell (i := 0) HY2.out _) _) _) _) Try.underlying30 rfl (by kernel_rfl)) rfl ?_
  refine ⟨?_, rfl⟩
  rw [← HXE.out]
  exact (((HBW.out.setCell (p := ⟨y, 0, none⟩) (by show x ≤ y; omega) _).setCell (p := ⟨y, 1, none⟩) (by show x ≤ y; omega) _).setCell (p := ⟨y, 2, none⟩) (by show x ≤ y; omega) _).setCell (p := ⟨y, 3, none⟩) (by show x ≤ y; omega) _
set_option maxRecDepth 100000 in
set_option maxHeartbeats 8000000 in
theorem run6_far {w : World} {ad tad : Option Addr} {n c tn tc : Nat} {s k a : Int} {anch : Bool} {l : List In} (hP : PI w w.heap.size ad n l) (hl : tn ≤ 4194304) (hmay : mayB l s k = true) (ha0 : ¬ a < 0) (ha : (tn : Int) < a) :
    Calls Try.prog 6 #[pv ad n c s k, .slice tad tn tc, .int .i64 a, .bool anch] w (FE 1 w) := by
  obtain ⟨U, hU⟩ : ∃ U, U = (w.alloc (.cells #[.slice ad n c, .int .i64 s, .int .i64 k] 24)).alloc (.cells #[.bool false, .slice none 0 0, .int .i64 0, .int .i64 0] 30) := ⟨_, rfl⟩
  have hb : Below w.heap.size w U := by rw [hU]; exact below_two' w _ _
  have hX : U.heap[w.heap.size]? = some (.cells #[.slice ad n c, .int .i64 s, .int .i64 k] 24 (0, 0)) := by rw [hU]; exact (heap_alloc_old _ _ (by simp)).trans (heap_alloc_new w _)
  have hY : U.heap[w.heap.size + 1]? = some (.cells #[.bool false, .slice none 0 0, .int .i64 0, .int .i64 0] 30 (0, 0)) := by rw [hU]; exact two_new w _ _ _
  obtain ⟨x, hx⟩ : ∃ x, x = w.heap.size := ⟨_, rfl⟩
  obtain ⟨y, hy⟩ : ∃ y, y = w.heap.size + 1 := ⟨_, rfl⟩
  have hyU : w.heap.size + 1 < U.heap.size := (Array.getElem?_eq_some_iff.1 hY).1
  have hPU := hP.kept hb hb.size
  have HCK := rcheck9 (c := c) (s := s) (k := k) hPU
  rw [← hx] at hX hb
  rw [← hy] at hY hyU
  obtain ⟨c0, c1, c2⟩ := three_cells hX
  have HB := hid hb
  have HX := hid hX
  have HY := hid hY
  have HXE := hid hx
  have hxy : x < y := by omega
  have b1 : decide ((4194304 : Int) < (tn : Int)) = false := by simp; omega
  have b1' : decide ((tn : Int) > (4194304 : Int)) = false := by simp; omega
  rw [hmay] at HCK
  clear hmay
  have b2 : decide (a < 0) = false := by simp [ha0]
  have b3 : decide (a > (tn : Int)) = true := by simp; omega
  have b3' : decide ((tn : Int) < a) = true := by simp; omega
  clear hP hPU hb hX hY
  go_enter Try.func6, Try.ntmps6
  go_upto_region 1 with fail
  rw [← hU, ← hy, ← hx]
  clear hU hx hy
  go_upto_region 7 with (go_at_call 17; (with_reducible refine HCK.mono ?_); rintro e w2 ⟨rfl, hb2⟩; have HB2 := hid hb2; have hY2 := (hb2.block y hyU).trans HY.out; have HY2 := hid hY2; clear hb2 HCK c0 c1 c2 hY2)
  have s0 := Joins.unfrozen_of_block HY2.out 0
  have s1 := Joins.unfrozen_of_block HY2.out 1
  have s2 := Joins.unfrozen_of_block HY2.out 2
  have s3 := Joins.unfrozen_of_block HY2.out 3
  have y0 := Joins.cell_of_block HY2.out 0
  have y1 := Joins.cell_of_block HY2.out 1
  have y2 := Joins.cell_of_block HY2.out 2
  have y3 := Joins.cell_of_block HY2.out 3
  have HBW : Hid (Below x w w2) := HB.out.trans (Joins.below_le HB2.out (by omega))
  go_wp2
  refine bodyPost_ret (results_cell_tmp rfl _ _ y 30 _ (0, 0) _ rfl (Joins.block_setCell (i := 3) (Joins.block_setCell (i := 2) (Joins.block_setCell (i := 1) (Joins.block_setCell (i := 0) HY2.out _) _) _) _) Try.underlying30 rfl (by kernel_rfl)) rfl ?_
  refine ⟨?_, rfl⟩
  rw [← HXE.out]
  exact (((HBW.out.setCell (p := ⟨y, 0, none⟩) (by show x ≤ y; omega) _).setCell (p := ⟨y, 1, none⟩) (by show x ≤ y; omega) _).setCell (p := ⟨y, 2, none⟩) (by show x ≤ y; omega) _).setCell (p := ⟨y, 3, none⟩) (by show x ≤ y; omega) _
set_option maxRecDepth 100000 in
set_option maxHeartbeats 8000000 in
theorem run6_big {w : World} {ad tad : Option Addr} {n c tn tc a : Nat} {s k : Int} {anch : Bool} {l : List In} (hP : PI w w.heap.size ad n l) (hl : tn ≤ 4194304) (hmay : mayB l s k = true) (ha : a ≤ tn) (hbig : 16777216 < n * (tn - a + 1)) :
    Calls Try.prog 6 #[pv ad n c s k, .slice tad tn tc,   .int .i64 (a : Int), .bool anch] w (FE 3 w) := by
  obtain ⟨U, hU⟩ : ∃ U, U = (w.alloc (.cells #[.slice ad n c, .int .i64 s, .int .i64 k] 24)).alloc (.cells #[.bool false, .slice none 0 0, .int .i64 0, .int .i64 0] 30) := ⟨_, rfl⟩
  have hb : Below w.heap.size w U := by rw [hU]; exact below_two' w _ _
  have hX : U.heap[w.heap.size]? = some (.cells #[.slice ad n c, .int .i64 s, .int .i64 k] 24 (0, 0)) := by rw [hU]; exact (heap_alloc_old _ _ (by simp)).trans (heap_alloc_new w _)
  have hY : U.heap[w.heap.size + 1]? = some (.cells #[.bool false, .slice none 0 0, .int .i64 0, .int .i64 0] 30 (0, 0)) := by rw [hU]; exact two_new w _ _ _
  obtain ⟨x, hx⟩ : ∃ x, x = w.heap.size := ⟨_, rfl⟩
  obtain ⟨y, hy⟩ : ∃ y, y = w.heap.size + 1 := ⟨_, rfl⟩
  have hyU : w.heap.size + 1 < U.heap.size := (Array.getElem?_eq_some_iff.1 hY).1
  have hPU := hP.kept hb hb.size
  have HCK := rcheck9 (c := c) (s := s) (k := k) hPU
  rw [← hx] at hX hb
  rw [← hy] at hY hyU
  obtain ⟨c0, c1, c2⟩ := three_cells hX
  have HB := hid hb
  have HX := hid hX
  have HY := hid hY
  have HXE := hid hx
  have hxy : x < y := by omega
  have b1 : decide ((4194304 : Int) < (tn : Int)) = false := by simp; omega
  have b1' : decide ((tn : Int) > (4194304 : Int)) = false := by simp; omega
  rw [hmay] at HCK
  have hmo := may_ok hmay
  have hln := hP.len
  have hnp : 0 < n := by omega
  have hn2 : n ≤ 20000 := by omega
  clear hmay hmo hln
  have b2 : decide ((a : Int) < 0) = false := by simp
  have b3 : decide ((a : Int) > (tn : Int)) = false := by simp; omega
  have b3' : decide ((tn : Int) < (a : Int)) = false := by simp; omega
  obtain ⟨q, hq⟩ : ∃ q, q = tn - a + 1 := ⟨_, rfl⟩
  have a1 : IntKind.i64.wrap ((tn : Int) - (a : Int)) = ((tn - a : Nat) : Int) := by rw [wrap_ok _ (by omega) (by omega)]; omega
  have a2 : IntKind.i64.wrap (((tn - a : Nat) : Int) + 1) = (q : Int) := by rw [wrap_ok _ (by omega) (by omega)]; omega
  obtain ⟨d, hd⟩ : ∃ d, d = tn - a := ⟨_, rfl⟩
  rw [← hd] at a1 a2
  obtain ⟨M, hM⟩ : ∃ M, M = n * q := ⟨_, rfl⟩
  have hMb : M ≤ 20000 * 4194305 := by rw [hM]; exact Nat.mul_le_mul hn2 (by omega)
  have hMg : 16777216 < M := by rw [hM, hq]; exact hbig
  have a3 : IntKind.i64.wrap ((n : Int) * (q : Int)) = (M : Int) := by
    have : (n : Int) * (q : Int) = (M : Int) := by rw [hM]; push_cast; rfl
    rw [this]; exact wrap_ok _ (by omega) (by omega)
  have b4 : decide ((M : Int) > 16777216) = true := by simp; omega
  have b4' : decide ((16777216 : Int) < (M : Int)) = true := by simp; omega
  clear hM
  clear hd hq
  clear hP hPU hb hX hY
  go_enter Try.func6, Try.ntmps6
  go_upto_region 1 with fail
  rw [← hU, ← hy, ← hx]
  clear hU hx hy
  go_upto_region 10 with (first | (go_at_call 17; (with_reducible refine HCK.mono ?_); rintro e w2 ⟨rfl, hb2⟩; have HB2 := hid hb2; have hY2 := (hb2.block y hyU).trans HY.out; have HY2 := hid hY2; have hx2 := (hb2.block x (by omega)).trans HX.out; obtain ⟨e0, e1, e2⟩ := three_cells hx2; clear hb2 HCK c0 c1 c2 hY2 hx2))
  have s0 := Joins.unfrozen_of_block HY2.out 0
  have s1 := Joins.unfrozen_of_block HY2.out 1
  have s2 := Joins.unfrozen_of_block HY2.out 2
  have s3 := Joins.unfrozen_of_block HY2.out 3
  have y0 := Joins.cell_of_block HY2.out 0
  have y1 := Joins.cell_of_block HY2.out 1
  have y2 := Joins.cell_of_block HY2.out 2
  have y3 := Joins.cell_of_block HY2.out 3
  have HBW : Hid (Below x w w2) := HB.out.trans (Joins.below_le HB2.out (by omega))
  go_wp2
  refine bodyPost_ret (results_cell_tmp rfl _ _ y 30 _ (0, 0) _ rfl (Joins.block_setCell (i := 3) (Joins.block_setCell (i := 2) (Joins.block_setCell (i := 1) (Joins.block_setCell (i := 0) HY2.out _) _) _) _) Try.underlying30 rfl (by kernel_rfl)) rfl ?_
  refine ⟨?_, rfl⟩
  rw [← HXE.out]
  exact (((HBW.out.setCell (p := ⟨y, 0, none⟩) (by show x ≤ y; omega) _).setCell (p := ⟨y, 1, none⟩) (by show x ≤ y; omega) _).setCell (p := ⟨y, 2, none⟩) (by show x ≤ y; omega) _).setCell (p := ⟨y, 3, none⟩) (by show x ≤ y; omega) _
end Go.Proofs.Ytodpmmlfdkdemaa
/- HELPERS: the document's Run of layer 12, asked rightly. -/
namespace Go.Proofs.Ytodpmmlfdkdemaa
open Go.RowKit Go.Lk
set_option linter.unusedVariables false
set_option linter.unusedSimpArgs false
theorem info4 : (Try.prog.info? 4).map (fun i => (i.zero, i.size, i.bytes)) = some (some (.bool false), 1, 1) := by kernel_rfl
theorem makeB46 (c : Nat) (hc : c ≤ 100000000) (w : World) : (Instr.makeSlice 46 (.int .i64 (c : Int)) (.int .i64 (c : Int))).run Try.prog w = .ok (.slice (some ⟨w.heap.size, 0, none⟩) c c) (w.alloc (.cells (madeCells #[.bool false] c) 4)) := by
  obtain ⟨i0, hi0, hz0, hz1, hz2⟩ := info_parts info4
  have h := run_make (P := Try.prog) w 46 4 i0 (.bool false) Try.underlying46 hi0 hz0 .i64 .i64 c c (by omega) (by omega) (by rw [hz2]; omega) (by omega)
  simp only [Int.toNat_natCast, hz1, Nat.mul_one] at h
  exact h
def dcst (ad : Option Addr) (n c S K : Nat) (tad : Option Addr) (tn tc a gm M : Nat) : Ck := ⟨ad, n, c, S, K, tad, tn, tc, a, gm, M⟩
def dvar0 : Cv := ⟨none, 0, 0, 0, 0, none, 0, 0⟩
theorem mets_new {w : World} {C : Ck} (hM : C.M = C.n * (C.tn - C.a + 1)) (hg : w.heap[C.gm]? = some (.cells (madeCells #[.bool false] C.M) 4 (0, 0))) : Mets w C [] := by
  refine ⟨_, hg, size_madeCells _ _, fun i j hi ha hj => ?_⟩
  have hlt : i * (C.tn - C.a + 1) + (j - C.a) < C.M := by
    rw [hM]
    calc i * (C.tn - C.a + 1) + (j - C.a) < i * (C.tn - C.a + 1) + (C.tn - C.a + 1) := by omega
      _ = (i + 1) * (C.tn - C.a + 1) := by rw [Nat.succ_mul]
      _ ≤ C.n * (C.tn - C.a + 1) := Nat.mul_le_mul_right _ hi
  rw [← Array.getElem?_toList, toList_madeCells_one, List.getElem?_replicate, if_pos hlt]
  simp
/-- the document's new machine -/
theorem di_new {w w3 : World} {ad tad : Option Addr} {n c S K tn tc a gm M b : Nat} {l : List In} {tx : List Int} (hP : PI w w.heap.size ad n l) (hT : TextAt w.heap.size w tad tn tx) (hM : M = n * (tn - a + 1)) (hg : w3.heap[gm]? = some (.cells (madeCells #[.bool false] M) 4 (0, 0))) (hb : w3.heap[b]? = some (.cells (dcs (dcst ad n c S K tad tn tc a gm M) dvar0) 49 (0, 0))) (hgl : w.heap.size ≤ gm) (hbl : w.heap.size ≤ b) (hw : Below w.heap.size w w3) :
    DI w3 w.heap.size b l tx (dcst ad n c S K tad tn tc a gm M) dvar0 [] [] [] :=
  ⟨hb, hbl, hgl, hP.kept hw (Nat.le_refl _), hT.below hw, World.ownsRow_nil _ _ _ _, World.ownsRow_nil _ _ _ _, mets_new hM hg, rfl, OkP.nil _ _ _, by simp, by simp⟩
/-- between two beginnings -/
def DR (w0 w : World) (B b : Nat) (l : List In) (tx : List Int) (C : Ck) (anch : Bool) (r : Fd) (m' : List Pt) (p : Nat) : Prop :=
  ∃ V m cp, DI w B b l tx C V [] m cp ∧ V.st = m.length ∧ Below B w0 w ∧ Da (act l tx) m (bgs (prOf l tx C.S C.K) C.a anch none (C.tn + 1 - p) p) m' r
set_option maxRecDepth 100000 in
set_option maxHeartbeats 16000000 in
theorem run6_ok {w : World} {ad tad : Option Addr} {n c S K tn tc a : Nat} {anch : Bool} {l : List In} {tx : List Int} (hP : PI w w.heap.size ad n l) (hmay : mayB l (S : Int) (K : Int) = true) (hT : TextAt w.heap.size w tad tn tx) (hl : tn ≤ 4194304) (ha : a ≤ tn) (hbig : n * (tn - a + 1) ≤ 16777216) {r : Fd} {m' : List Pt} (hda : Da (act l tx) [] (bgs (prOf l tx S K) a anch none (tn + 1 - a) a) m' r) :
    Calls Try.prog 6 #[pv ad n c (S : Int) (K : Int), .slice tad tn tc, .int .i64 (a : Int), .bool anch] w (FR K (r, m'.length) w) := by
  obtain ⟨U, hU⟩ : ∃ U, U = (w.alloc (.cells #[.slice ad n c, .int .i64 (S : Int), .int .i64 (K : Int)] 24)).alloc (.cells #[.bool false, .slice none 0 0, .int .i64 0, .int .i64 0] 30) := ⟨_, rfl⟩
  have hb : Below w.heap.size w U := by rw [hU]; exact below_two' w _ _
  have hX : U.heap[w.heap.size]? = some (.cells #[.slice ad n c, .int .i64 (S : Int), .int .i64 (K : Int)] 24 (0, 0)) := by rw [hU]; exact (heap_alloc_old _ _ (by simp)).trans (heap_alloc_new w _)
  have hY : U.heap[w.heap.size + 1]? = some (.cells #[.bool false, .slice none 0 0, .int .i64 0, .int .i64 0] 30 (0, 0)) := by rw [hU]; exact two_new w _ _ _
  obtain ⟨x, hx⟩ : ∃ x, x = w.heap.size := ⟨_, rfl⟩
  obtain ⟨y, hy⟩ : ∃ y, y = w.heap.size + 1 := ⟨_, rfl⟩
  have hyU : w.heap.size + 1 < U.heap.size := (Array.getElem?_eq_some_iff.1 hY).1
  have hPU := hP.kept hb hb.size
  have hTU : TextAt U.heap.size U tad tn tx := (hT.below hb).mono hb.size
  have HCK := rcheck9 (c := c) (s := (S : Int)) (k := (K : Int)) hPU
  rw [hmay] at HCK
  have htl : tn = tx.length := hT.1
  rw [← hx] at hX hb
  rw [← hy] at hY hyU
  obtain ⟨c0, c1, c2⟩ := three_cells hX
  have HB := hid hb
  have HX := hid hX
  have HY := hid hY
  have HXE := hid hx
  have hxy : x < y := by omega
  have hmo := may_ok hmay
  have hln := hP.len
  obtain ⟨q, hq⟩ : ∃ q, q = tn - a + 1 := ⟨_, rfl⟩
  obtain ⟨d, hd⟩ : ∃ d, d = tn - a := ⟨_, rfl⟩
  obtain ⟨M, hM⟩ : ∃ M, M = n * q := ⟨_, rfl⟩
  have hMb : M ≤ 16777216 := by rw [hM, hq]; exact hbig
  have HMQ : Hid (M = n * (tn - a + 1)) := by show M = _; rw [hM, hq]
  have HC : Hid (∀ gm, DC l tx (dcst ad n c S K tad tn tc a gm M)) := fun gm => ⟨hln, hmay, htl, hl, ha, HMQ.out, hMb⟩
  have HDA := hid hda
  have a1 : IntKind.i64.wrap ((tn : Int) - (a : Int)) = (d : Int) := by rw [wrap_ok _ (by omega) (by omega)]; omega
  have a2 : IntKind.i64.wrap ((d : Int) + 1) = (q : Int) := by rw [wrap_ok _ (by omega) (by omega)]; omega
  have a3 : IntKind.i64.wrap ((n : Int) * (q : Int)) = (M : Int) := by
    have : (n : Int) * (q : Int) = (M : Int) := by rw [hM]; push_cast; rfl
    rw [this]; exact wrap_ok _ (by omega) (by omega)
  have b4 : decide ((M : Int) > 16777216) = false := by simp; omega
  have b4' : decide ((16777216 : Int) < (M : Int)) = false := by simp; omega
  have hS : S < n := by omega
  have hK : 2 ≤ K ∧ K ≤ 1002 := by omega
  clear hq hd hM hmo hln hda
  have HMAY := hid hmay
  have HTL := hid htl
  have HPU := hid hPU
  have HTU := hid hTU
  have b1 : decide ((4194304 : Int) < (tn : Int)) = false := by simp; omega
  have b1' : decide ((tn : Int) > (4194304 : Int)) = false := by simp; omega
  have b2 : decide ((a : Int) < 0) = false := by simp
  have b3 : decide ((a : Int) > (tn : Int)) = false := by simp; omega
  have b3' : decide ((tn : Int) < (a : Int)) = false := by simp; omega
  clear hP hT hPU hTU hb hX hY hmay htl
  go_enter Try.func6, Try.ntmps6
  go_upto_region 1 with fail
  rw [← hU, ← hy, ← hx]
  clear hU hx hy
  go_upto_region 11 with (go_at_call 17; (with_reducible refine HCK.mono ?_); rintro e w2 ⟨rfl, hb2⟩; have HB2 := hid hb2; have hx2 := (hb2.block x (by omega)).trans HX.out; obtain ⟨e0, e1, e2⟩ := three_cells hx2; clear hb2 hx2 HCK c0 c1 c2)
  have HMK : Hid (∀ W, (Instr.makeSlice 46 (.int .i64 (M : Int)) (.int .i64 (M : Int))).run Try.prog W = .ok (.slice (some ⟨W.heap.size, 0, none⟩) M M) (W.alloc (.cells (madeCells #[.bool false] M) 4))) := fun W => makeB46 M (by omega) W
  have hmk := HMK.out
  clear a1 a2 a3 b1 b1' b2 b3 b3' b4 b4'
  have hx2 : x < w2.heap.size := by have := HB2.out.size; omega
  go_region
  obtain ⟨gm, hgm⟩ : ∃ gm, gm = w2.heap.size := ⟨_, rfl⟩
  obtain ⟨b, hbE⟩ : ∃ b, b = w2.heap.size + 1 := ⟨_, rfl⟩
  obtain ⟨W3, hW3⟩ : ∃ W3, W3 = ((w2.alloc (.cells (madeCells #[.bool false] M) 4)).alloc (.cells #[.slice ad n c, .int .i64 (S : Int), .int .i64 (K : Int), .slice tad tn tc, .int .i64 (a : Int), .slice (some ⟨gm, 0, none⟩) M M, .slice none 0 0, .int .i64 0, .int .i64 0, .slice none 0 0] 49)).drew := ⟨_, rfl⟩
  have hbw3 : Below w2.heap.size w2 W3 := by rw [hW3]; exact (below_two' w2 _ _).trans ((Eqw.drew _).below _)
  have hg3 : W3.heap[gm]? = some (.cells (madeCells #[.bool false] M) 4 (0, 0)) := by rw [hW3, hgm]; exact (heap_alloc_old _ _ (by simp)).trans (heap_alloc_new w2 _)
  have hb3 : W3.heap[b]? = some (.cells #[.slice ad n c, .int .i64 (S : Int), .int .i64 (K : Int), .slice tad tn tc, .int .i64 (a : Int), .slice (some ⟨gm, 0, none⟩) M M, .slice none 0 0, .int .i64 0, .int .i64 0, .slice none 0 0] 49 (0, 0)) := by rw [hW3, hbE]; exact two_new w2 _ _ _
  have hdi := di_new (w := w2) (c := c) (S := S) (K := K) (tc := tc) (HPU.out.kept HB2.out HB2.out.size) ((HTU.out.below HB2.out).mono HB2.out.size) HMQ.out hg3 hb3 (by omega) (by omega) hbw3
  obtain ⟨C, hC⟩ : ∃ C, C = dcst ad n c S K tad tn tc a gm M := ⟨_, rfl⟩
  have hDC := HC.out gm
  have hcs : C.S = S ∧ C.K = K ∧ C.a = a ∧ C.tn = tn := by rw [hC]; exact ⟨rfl, rfl, rfl, rfl⟩
  rw [← hC] at hdi hDC
  rw [← hgm] at hdi hbw3
  obtain ⟨hcS, hcK, hca, hct⟩ := hcs
  have HCS := hid hcS
  have HCK := hid hcK
  have HCA' := hid hca
  have HCT := hid hct
  have HFRM : Hid (∀ (V : Cv) m cp (W : World) (p : Nat) (r1 : Fd) (m1 : List Pt), DI W gm b l tx C V [] m cp → V.st = m.length → a ≤ p → p ≤ tn → Df (act l tx) m S p (List.replicate K (-1)) m1 r1 → Calls Try.prog 18 #[.pointer (some ⟨b, 0, none⟩), .int .i64 (p : Int)] W fun e w' => e = .returned (.bool r1.isSome) ∧ ∃ V' st cp', DI w' gm b l tx C V' st m1 cp' ∧ V'.st = m1.length ∧ DF C V' st cp' r1 ∧ Below gm W w') := fun V m cp W p r1 m1 h hf h1 h2 hdf => by
    obtain ⟨N, hev⟩ := df_ev1 hdf
    exact from18 h hDC hf (by omega) (by omega) (by rw [hcS, hcK]; exact hev)
  have HDR : Hid (DR W3 W3 gm b l tx C anch r m' a) := ⟨_, _, _, hdi, rfl, Below.refl _ _, by rw [hcS, hcK, hca, hct]; exact HDA.out⟩
  have HY3 : Hid (W3.heap[y]? = some (.cells #[.bool false, .slice none 0 0, .int .i64 0, .int .i64 0] 30 (0, 0))) := (hbw3.block y (by have := HB2.out.size; omega)).trans ((HB2.out.block y hyU).trans HY.out)
  have hyg : y < gm := by have := HB2.out.size; omega
  have hxg : x ≤ gm := by omega
  have HBW3 : Hid (Below x w W3) := HB.out.trans (Joins.below_le (HB2.out.trans (Joins.below_le hbw3 (by have := HB2.out.size; omega))) (by omega))
  rw [← hbE, ← hgm, ← hW3]
  have hdta : decide (tn < a) = false := by simp; omega
  simp only [hdta]
  clear hdta
  clear hmk HMK e0 e1 e2 hdi hbw3 hg3 hb3 hDC hC hcS hcK hca hct hW3 hgm hbE HDA HMQ HC HPU HTU HMAY HTL HX HY HB HB2 hx2 hbig
  go_wp2_with fail
  go_loopg [13] (tn + 1 - a) (fun k s13 wr => ∃ p : Nat, s13 = .int .i64 (p : Int) ∧ k = tn + 1 - p ∧ a ≤ p ∧ p ≤ tn + 1 ∧ Hid (anch = true → p ≤ a ∨ tn < p) ∧ Hid (DR W3 wr gm b l tx C anch r m' p))
  case atStart => exact ⟨a, rfl, rfl, Nat.le_refl _, by omega, fun _ => .inl (Nat.le_refl _), HDR⟩
  case round =>
    clear HDR
    obtain ⟨p, rfl, hgk, hap, hpt, HAN, HDR⟩ := hrel
    have HGK := hid hgk
    clear hgk
    obtain ⟨V1, m1, cp1, hdi, hfs, hbw, hda⟩ := HDR.out
    clear HDR
    rw [HCS.out, HCK.out, HCA'.out, HCT.out] at hda
    have HDI := hid hdi
    have HFS := hid hfs
    have HBW := hid hbw
    by_cases hpl : p ≤ tn
    · have b1 : decide ((p : Int) ≤ (tn : Int)) = true := by simp; omega
      have b1' : (p : Int) ≤ (tn : Int) := by omega
      have hlp : p ≤ lastP anch a tn := by
        unfold lastP
        split
        · rename_i hq; have := HAN.out hq; omega
        · omega
      rw [bgs_in _ hap hlp ha] at hda
      have ap : IntKind.i64.wrap ((p : Int) + 1) = ((p + 1 : Nat) : Int) := by rw [wrap_ok _ (by omega) (by omega)]; omega
      cases hda with
      | hit _ _ _ _ _ _ z hdf =>
        have HCA := HFRM.out _ _ _ _ p _ _ hdi hfs hap hpl hdf
        rw [show (some z : Fd).isSome = true from rfl] at HCA
        clear hdi hfs hbw hdf HFRM HAN hlp ap
        go_upto_region 17 with (go_at_call 18; (with_reducible refine HCA.mono ?_); rintro e w5 ⟨rfl, V2, st2, cp2, hd2, hf2, hdf2, hbw2⟩; have HD2 := hid hd2; have HF2 := hid hf2; have HDF2 := hid hdf2; have HBW2 := hid hbw2; clear hd2 hf2 hdf2 hbw2 HCA)
        obtain ⟨g1, g2, ub, g3, g4, g5⟩ := HDF2.out
        rw [HCK.out] at g4 g5
        have hcap := HD2.out.cap
        rw [g3, g4, g5, g2] at hcap
        have HBX0 : Hid (Below gm W3 w5) := HBW.out.trans HBW2.out
        have hY5 : w5.heap[y]? = _ := (HBX0.out.block y hyg).trans HY3.out
        have s0 := Joins.unfrozen_of_block hY5 0
        have s1 := Joins.unfrozen_of_block hY5 1
        have s2 := Joins.unfrozen_of_block hY5 2
        have s3 := Joins.unfrozen_of_block hY5 3
        have y0 := Joins.cell_of_block hY5 0
        have y1 := Joins.cell_of_block hY5 1
        have y2 := Joins.cell_of_block hY5 2
        have y3 := Joins.cell_of_block hY5 3
        have k6 := HD2.out.mb.c 6
        have k7 := HD2.out.mb.c 7
        have k8 := HD2.out.mb.c 8
        simp at k6 k7 k8
        rw [g3, g4, g5] at k6
        rw [HF2.out] at k7
        rw [g1] at k8
        have HY5 := hid hY5
        have HROW := hid hcap
        have HBX : Hid (Below x w w5) := HBW3.out.trans (Joins.below_le HBX0.out hxg)
        clear hY5 g1 g2 g3 g4 g5 hcap
        go_region
        all_goals go_wp2
        refine bodyPost_ret (results_cell_tmp rfl _ _ y 30 _ (0, 0) _ rfl (Joins.block_setCell (i := 3) (Joins.block_setCell (i := 2) (Joins.block_setCell (i := 1) (Joins.block_setCell (i := 0) HY5.out _) _) _) _) Try.underlying30 rfl (by kernel_rfl)) rfl ?_
        refine ⟨?_, ?_⟩
        · rw [← HXE.out]
          exact ((((HBX.out.setCell (p := ⟨y, 0, none⟩) (by show x ≤ y; omega) _).setCell (p := ⟨y, 1, none⟩) (by show x ≤ y; omega) _).setCell (p := ⟨y, 2, none⟩) (by show x ≤ y; omega) _).setCell (p := ⟨y, 3, none⟩) (by show x ≤ y; omega) _).trans ((Eqw.drew _).below _)
        · have hgy : (Value.slice (some ⟨ub, 0, none⟩) K K).ownBlock ≠ some y := own_ne HROW.out HY5.out (by decide)
          refine ⟨ub, rfl, ?_⟩
          have t := own_setCell (a := ⟨y, 3, none⟩) (u := .int .i64 (m'.length : Int)) (own_setCell (a := ⟨y, 2, none⟩) (u := .int .i64 z.1) (own_setCell (a := ⟨y, 1, none⟩) (u := .slice (some ⟨ub, 0, none⟩) K K) (own_setCell (a := ⟨y, 0, none⟩) (u := .bool true) HROW.out hgy) hgy) hgy) hgy
          exact t.mono (by have := HXE.out; omega)
      | miss _ _ _ _ _ m2 _ _ hdf hda =>
        have HCA := HFRM.out _ _ _ _ p _ _ hdi hfs hap hpl hdf
        rw [show (none : Fd).isSome = false from rfl] at HCA
        have HDA2 := hid hda
        clear hdi hfs hbw hdf HFRM hda hlp
        cases anch with
        | true =>
          have hpa : a = p := by have := HAN.out rfl; omega
          subst hpa
          have hda2 := HDA2.out
          rw [bgs_out _ (by omega) (by unfold lastP; simp)] at hda2
          cases hda2 with
          | nil =>
          clear HDA2 HAN ap
          go_upto_region 19 with (go_at_call 18; (with_reducible refine HCA.mono ?_); rintro e w5 ⟨rfl, V2, st2, cp2, hd2, hf2, hdf2, hbw2⟩; have HD2 := hid hd2; have HF2 := hid hf2; have HDF2 := hid hdf2; have HBW2 := hid hbw2; clear hd2 hf2 hdf2 hbw2 HCA)
          have HBX0 : Hid (Below gm W3 w5) := HBW.out.trans HBW2.out
          have hY5 : w5.heap[y]? = _ := (HBX0.out.block y hyg).trans HY3.out
          have s0 := Joins.unfrozen_of_block hY5 0
          have s1 := Joins.unfrozen_of_block hY5 1
          have s2 := Joins.unfrozen_of_block hY5 2
          have s3 := Joins.unfrozen_of_block hY5 3
          have y0 := Joins.cell_of_block hY5 0
          have y1 := Joins.cell_of_block hY5 1
          have y2 := Joins.cell_of_block hY5 2
          have y3 := Joins.cell_of_block hY5 3
          have k7 := HD2.out.mb.c 7
          simp at k7
          rw [HF2.out] at k7
          have HY5 := hid hY5
          have HBX : Hid (Below x w w5) := HBW3.out.trans (Joins.below_le HBX0.out hxg)
          clear hY5
          go_wp2
          refine bodyPost_ret (results_cell_tmp rfl _ _ y 30 _ (0, 0) _ rfl (Joins.block_setCell (i := 3) (Joins.block_setCell (i := 2) (Joins.block_setCell (i := 1) (Joins.block_setCell (i := 0) HY5.out _) _) _) _) Try.underlying30 rfl (by kernel_rfl)) rfl ?_
          refine ⟨?_, rfl⟩
          rw [← HXE.out]
          exact (((HBX.out.setCell (p := ⟨y, 0, none⟩) (by show x ≤ y; omega) _).setCell (p := ⟨y, 1, none⟩) (by show x ≤ y; omega) _).setCell (p := ⟨y, 2, none⟩) (by show x ≤ y; omega) _).setCell (p := ⟨y, 3, none⟩) (by show x ≤ y; omega) _
        | false =>
          go_wp2_with (go_at_call 18; (with_reducible refine HCA.mono ?_); rintro e w5 ⟨rfl, V2, st2, cp2, hd2, hf2, hdf2, hbw2⟩; have HD2 := hid hd2; have HF2 := hid hf2; have HDF2 := hid hdf2; have HBW2 := hid hbw2; clear hd2 hf2 hdf2 hbw2 HCA)
          have hst : st2 = [] := HDF2.out
          subst hst
          go_roundg (tn + 1 - (p + 1))
          case measure => have := HGK.out; omega
          case rel => exact ⟨p + 1, (by first | rfl | (push_cast; rfl) | (simp; done)), rfl, by omega, by omega, fun h => (by cases h), _, _, _, HD2.out, HF2.out, HBW.out.trans HBW2.out, by rw [HCS.out, HCK.out, HCA'.out, HCT.out]; exact HDA2.out⟩
    · have b1 : decide ((p : Int) ≤ (tn : Int)) = false := by simp; omega
      have b1' : ¬ ((p : Int) ≤ (tn : Int)) := by omega
      rw [show tn + 1 - p = 0 by omega] at hda
      cases hda with
      | nil =>
      clear hdi hfs hbw HFRM HAN
      go_upto_region 19 with fail
      have hY5 : wr.heap[y]? = _ := (HBW.out.block y hyg).trans HY3.out
      have s0 := Joins.unfrozen_of_block hY5 0
      have s1 := Joins.unfrozen_of_block hY5 1
      have s2 := Joins.unfrozen_of_block hY5 2
      have s3 := Joins.unfrozen_of_block hY5 3
      have y0 := Joins.cell_of_block hY5 0
      have y1 := Joins.cell_of_block hY5 1
      have y2 := Joins.cell_of_block hY5 2
      have y3 := Joins.cell_of_block hY5 3
      have k7 := HDI.out.mb.c 7
      simp at k7
      rw [HFS.out] at k7
      have HY5 := hid hY5
      have HBX : Hid (Below x w wr) := HBW3.out.trans (Joins.below_le HBW.out hxg)
      clear hY5
      go_wp2
      refine bodyPost_ret (results_cell_tmp rfl _ _ y 30 _ (0, 0) _ rfl (Joins.block_setCell (i := 3) (Joins.block_setCell (i := 2) (Joins.block_setCell (i := 1) (Joins.block_setCell (i := 0) HY5.out _) _) _) _) Try.underlying30 rfl (by kernel_rfl)) rfl ?_
      refine ⟨?_, rfl⟩
      rw [← HXE.out]
      exact (((HBX.out.setCell (p := ⟨y, 0, none⟩) (by show x ≤ y; omega) _).setCell (p := ⟨y, 1, none⟩) (by show x ≤ y; omega) _).setCell (p := ⟨y, 2, none⟩) (by show x ≤ y; omega) _).setCell (p := ⟨y, 3, none⟩) (by show x ≤ y; omega) _
end Go.Proofs.Ytodpmmlfdkdemaa
/- HELPERS: the document's Run of layer 12 of any program, text and place. -/
namespace Go.Proofs.Ytodpmmlfdkdemaa
open Go.RowKit Go.Lk
set_option linter.unusedVariables false
set_option linter.unusedSimpArgs false
theorem run6 {w : World} {ad tad : Option Addr} {n c tn tc : Nat} {s k a : Int} {anch : Bool} {l : List In} {tx : List Int} {r : Fd} {m' : List Pt} (hP : PI w w.heap.size ad n l) (hT : TextAt w.heap.size w tad tn tx) (hda : errR l s k tx.length a = 0 → BitA l tx s k a anch r m') :
    Calls Try.prog 6 #[pv ad n c s k, .slice tad tn tc, .int .i64 a, .bool anch] w (RunC l tx s k a r m' w) := by
  have htl : tn = tx.length := hT.1
  have hln := hP.len
  have hE : ∀ c : Int, errR l s k tx.length a = c → c ≠ 0 → errB l s k tx.length a = c := fun c h h0 => by unfold errB; rw [if_pos (by rw [h]; exact h0)]; exact h
  by_cases h1 : 4194304 < tn
  · have e := hE 2 (by unfold errR; rw [if_pos (by omega)]) (by decide)
    refine (run6_long hP h1).mono fun e' w' h => ?_
    exact .inr (by rw [e]; exact ⟨by decide, h⟩)
  · cases hm : mayB l s k
    · have e := hE 90 (by unfold errR; rw [if_neg (by omega), if_pos hm]) (by decide)
      refine (run6_prog hP (by omega) hm).mono fun e' w' h => ?_
      exact .inr (by rw [e]; exact ⟨by decide, h⟩)
    · by_cases h2 : a < 0
      · have e := hE 1 (by unfold errR; rw [if_neg (by omega), if_neg (by rw [hm]; decide), if_pos (.inl h2)]) (by decide)
        refine (run6_neg hP (by omega) hm h2).mono fun e' w' h => ?_
        exact .inr (by rw [e]; exact ⟨by decide, h⟩)
      · by_cases h3 : (tn : Int) < a
        · have e := hE 1 (by unfold errR; rw [if_neg (by omega), if_neg (by rw [hm]; decide), if_pos (.inr (by omega))]) (by decide)
          refine (run6_far hP (by omega) hm h2 h3).mono fun e' w' h => ?_
          exact .inr (by rw [e]; exact ⟨by decide, h⟩)
        · have e0 : errR l s k tx.length a = 0 := by unfold errR; rw [if_neg (by omega), if_neg (by rw [hm]; decide), if_neg (by omega)]
          have hmo := may_ok hm
          have hd := hda e0
          obtain ⟨S, rfl⟩ := Int.eq_ofNat_of_zero_le hmo.2.1
          obtain ⟨K, rfl⟩ := Int.eq_ofNat_of_zero_le (show 0 ≤ k by omega)
          obtain ⟨A, rfl⟩ := Int.eq_ofNat_of_zero_le (show 0 ≤ a by omega)
          by_cases h4 : 16777216 < l.length * (tx.length - A + 1)
          · have e : errB l (S : Int) (K : Int) tx.length (A : Int) = 3 := by unfold errB; rw [if_neg (by simp [e0]), if_pos (by simpa using h4)]
            refine (run6_big hP (by omega) hm (by omega) (by rw [hln, htl]; exact h4)).mono fun e' w' h => ?_
            exact .inr (by rw [e]; exact ⟨by decide, h⟩)
          · have e : errB l (S : Int) (K : Int) tx.length (A : Int) = 0 := by unfold errB; rw [if_neg (by simp [e0]), if_neg (by simpa using h4)]
            refine (run6_ok hP hm hT (by omega) (by omega) (by rw [hln, htl]; omega) (r := r) (m' := m') (by rw [htl]; exact hd)).mono fun e' w' h => ?_
            exact .inl ⟨e, h⟩
end Go.Proofs.Ytodpmmlfdkdemaa
/- HELPERS: a program that is lent: one mark behind each list. -/
namespace Go.Proofs.Ytodpmmlfdkdemaa
open Go.RowKit Go.Lk
set_option linter.unusedVariables false
set_option linter.unusedSimpArgs false
abbrev MkR : List (Int × Int) := [(-77, 0)]
abbrev mkI (k : Int) : Iv := ⟨k, 0, 0, 0, none, 0, 0⟩
/-- an instruction whose ranges, with two marks behind them, lie in a block by themselves, apart from a row -/
structure LO (w : World) (base : Nat) (z : Value) (N : Iv) (I : In) : Prop where
  op : N.op = I.op
  x : N.x = I.x
  y : N.y = I.y
  a : N.a = I.a
  len : N.r2 = I.R.length
  sm : N.r2 * 16 ≤ 140737488351232
  rr : w.ownsRow base 55 2 (.slice N.r1 (I.R.length + 1) N.r3) (I.R.length + 1) (O2 (I.R ++ MkR))
  ne : ∀ b, N.rv.ownBlock = some b → z.ownBlock ≠ some b
/-- a program that is lent -/
structure PL (w : World) (base : Nat) (ad : Option Addr) (n c : Nat) (l : List In) (MS : List Iv) : Prop where
  len : n = l.length
  lms : MS.length = n
  row : w.ownsRow base 53 5 (.slice ad (n + 1) c) (n + 1) ((MS ++ [mkI (-77)]).flatMap Iv.cs)
  lo : ∀ j (hj : j < l.length), LO w base (.slice ad (n + 1) c) (MS.getD j default) l[j]
  pw : ∀ j j' b, j < n → j' < n → j ≠ j' → (MS.getD j default).rv.ownBlock = some b → (MS.getD j' default).rv.ownBlock ≠ some b
theorem O2_marks (R : List (Int × Int)) : (O2 (R ++ MkR))[R.length * 2]? = some (.int .i64 (-77)) := by
  have h0 := (O2_at (R ++ MkR) R.length (by simp)).1
  simp at h0
  simpa using h0
theorem insts_marks (MS : List Iv) : ((MS ++ [mkI (-77)]).flatMap Iv.cs)[MS.length * 5]? = some (.int .i64 (-77)) := by
  have h0 := flat5 (MS ++ [mkI (-77)]) MS.length 0 (by simp) (by omega)
  rw [Nat.add_zero] at h0
  rw [h0]
  simp
/-- what is read of the i-th instruction of a lent program -/
theorem PL.at5 {w : World} {base n c gz : Nat} {l : List In} {MS : List Iv} (h : PL w base (some ⟨gz, 0, none⟩) n c l MS) (i : Nat) (hi : i < n) : I5 w gz 0 i (MS.getD i default) := by
  have hjl : i < MS.length := by have := h.lms; omega
  have hg : MS.getD i default = MS[i] := by simp [List.getD_eq_getElem?_getD, List.getElem?_eq_getElem hjl]
  have f : ∀ q, q < 5 → w.cell? ⟨gz, i * 5 + q, none⟩ = (Iv.cs MS[i])[q]? := fun q hq => by
    rw [h.row.cellAt (i * 5 + q) (by omega), flat5 (MS ++ [mkI (-77)]) i q (by simp; omega) hq, List.getElem_append_left hjl]
  have f0 := f 0 (by omega)
  rw [Nat.add_zero] at f0
  rw [hg]
  unfold I5
  rw [Nat.zero_add]
  exact ⟨f0, f 1 (by omega), f 2 (by omega), f 3 (by omega), f 4 (by omega)⟩
theorem PL.blk {w : World} {base n c : Nat} {ad : Option Addr} {l : List In} {MS : List Iv} (h : PL w base ad n c l MS) : ∃ gz, ad = some ⟨gz, 0, none⟩ ∧ n + 1 ≤ c ∧ c ≤ maxLen := by
  obtain ⟨a, c', e, h1, h2⟩ := row_shape h.row
  simp only [Value.slice.injEq] at e
  obtain ⟨_, _, rfl⟩ := e
  rcases h.row.2 with ⟨_, e⟩ | ⟨g, cap, cur, e, _⟩
  · omega
  · simp only [Value.slice.injEq] at e; exact ⟨g, e.1, h1, h2⟩
theorem LO.blk {w : World} {base : Nat} {z : Value} {N : Iv} {I : In} (h : LO w base z N I) : ∃ g, N.r1 = some ⟨g, 0, none⟩ ∧ I.R.length + 1 ≤ N.r3 ∧ N.r3 ≤ maxLen := by
  obtain ⟨a, c', e, h1, h2⟩ := row_shape h.rr
  simp only [Value.slice.injEq] at e
  obtain ⟨_, _, rfl⟩ := e
  rcases h.rr.2 with ⟨_, e⟩ | ⟨g, cap, cur, e, _⟩
  · omega
  · simp only [Value.slice.injEq] at e; exact ⟨g, e.1, h1, h2⟩
theorem PL.below {w w' : World} {base n c : Nat} {ad : Option Addr} {l : List In} {MS : List Iv} (h : PL w base ad n c l MS) (hb : Below w.heap.size w w') : PL w' base ad n c l MS :=
  ⟨h.len, h.lms, row_kept h.row (fun b hb' => hb.block b (h.row.lt b hb').2), fun j hj => by
    have hO := h.lo j hj
    exact ⟨hO.op, hO.x, hO.y, hO.a, hO.len, hO.sm, row_kept hO.rr (fun b hb' => hb.block b (hO.rr.lt b hb').2), hO.ne⟩, h.pw⟩
/-- a lent program can be read -/
theorem PL.pi {w : World} {base n c : Nat} {ad : Option Addr} {l : List In} {MS : List Iv} (h : PL w base ad n c l MS) : PI w w.heap.size ad n l := by
  obtain ⟨gz, rfl, _, _⟩ := h.blk
  refine ⟨h.len, fun hp => ⟨gz, 0, fun j => MS.getD j default, rfl, (h.row.lt gz rfl).2, fun i hi => ⟨h.at5 i (by have := h.len; omega), ?_⟩⟩⟩
  have hO := h.lo i hi
  refine ⟨hO.op, hO.x, hO.y, hO.a, hO.len, hO.sm, ?_⟩
  obtain ⟨g, e, _, _⟩ := hO.blk
  have hrr := hO.rr
  rw [e] at hrr
  refine ⟨_, _, by rw [hO.len], ?_⟩
  right
  refine ⟨g, 0, e, (hrr.lt g rfl).2, fun k hk => ?_, fun k hk => ?_⟩
  · rw [Nat.zero_add, hrr.cellAt (k * 2) (by omega), (O2_at (l[i].R ++ MkR) k (by simp; omega)).1, List.getElem_append_left hk]
    simp [List.getD_eq_getElem?_getD, List.getElem?_eq_getElem hk]
  · rw [Nat.zero_add, hrr.cellAt (k * 2 + 1) (by omega), (O2_at (l[i].R ++ MkR) k (by simp; omega)).2, List.getElem_append_left hk]
    simp [List.getD_eq_getElem?_getD, List.getElem?_eq_getElem hk]
theorem LO.kept {w w' : World} {base : Nat} {z : Value} {N : Iv} {I : In} (h : LO w base z N I) (hk : ∀ b, N.rv.ownBlock = some b → w'.heap[b]? = w.heap[b]?) : LO w' base z N I :=
  ⟨h.op, h.x, h.y, h.a, h.len, h.sm, row_kept h.rr (fun b hb => hk b ((ob_len _ _ _ _ _).trans hb)), h.ne⟩
theorem O2_set : ∀ (L : List (Int × Int)) (i : Nat) (x y : Int), ((O2 L).set (i * 2) (.int .i64 x)).set (i * 2 + 1) (.int .i64 y) = O2 (L.set i (x, y)) := by
  intro L
  induction L with
  | nil => intro i x y; simp [O2]
  | cons a L ih =>
    intro i x y
    cases i with
    | zero => simp [O2]
    | succ i =>
      have h := ih i x y
      have e : O2 (a :: L) = .int .i64 a.1 :: .int .i64 a.2 :: O2 L := by simp [O2]
      have e2 : O2 ((a :: L).set (i + 1) (x, y)) = .int .i64 a.1 :: .int .i64 a.2 :: O2 (L.set i (x, y)) := by simp [O2]
      rw [e, e2, ← h, show (i + 1) * 2 = i * 2 + 1 + 1 by omega]
      simp
theorem size49 : (Try.prog.info? 55).map (·.size) = some 2 := by kernel_rfl
theorem store49 {ops : Array Oper} {rest : List Oper} {op : Oper} {a : Act} {w : World} {Q : Exit → Act → World → Prop} (hgd : op.guard = none) (x y : Operand) (ho : op.op = .store 55 x y)
    (b i : Nat) (p q : Int) (hx : a.eval x = .pointer (some ⟨b, i * 2, none⟩)) (hy : a.eval y = .agg #[.int .i64 p, .int .i64 q]) (ht : w.there b (i * 2) 2)
    (h : wpList Try.prog ops Q rest (a.put op.dst undef) ((w.setCell ⟨b, i * 2, none⟩ (.int .i64 p)).setCell ⟨b, i * 2 + 1, none⟩ (.int .i64 q))) : wpList Try.prog ops Q (op :: rest) a w :=
  wpList_store_mid hgd 55 x y ho b (i * 2) #[.int .i64 p, .int .i64 q] hx hy ht size49 (by simp [Value.oneCell']) h
theorem run_copy_two (w : World) (dT sT ty elem : TypeId) (b o dLen dCap : Nat) (a : Addr) (sLen sCap : Nat) (cs : List Value)
    (hu : Try.prog.underlying dT = some (.slice elem)) (hs : (Try.prog.info? elem).map (·.size) = some 2) (hn : cs.length = Nat.min sLen dLen * 2)
    (hsrc : ∀ j v, cs[j]? = some v → w.cell? (a.add j) = some v) (hc : ∀ j, j < cs.length → (w.cell? ⟨b, o + j, none⟩).isSome = true) (hf : ∀ j, j < cs.length → w.frozen? ⟨b, o + j, none⟩ = false) (h1 : ∀ v ∈ cs, v.oneCell' = true) :
    (Builtin.copy_ #[dT, sT] ty #[.slice (some ⟨b, o, none⟩) dLen dCap, .slice (some a) sLen sCap]).run Try.prog w = .ok (goInt (Nat.min sLen dLen)) (w.setCells b o cs) := by
  have hl := run_loadCells_list (P := Try.prog) w a cs hsrc
  have hst := run_storeCells_cells (P := Try.prog) b o cs 0 w (by simpa using hc) (by simpa using hf) h1
  cases hq : Try.prog.info? elem with
  | none => simp [hq] at hs
  | some i =>
    have hi : i.size = 2 := by simpa [hq] using hs
    rw [hn] at hl
    simp [Builtin.copy_, run_underlying hu, Builtin.lenOf, Builtin.firstCells, sizeOf, typeInfo, hq, hi, hl]
    have hst' : Sem.run Try.prog (storeCells { block := b, off := o } cs) w = Result.ok () (w.setCells b o cs) := by simpa using hst
    rw [hst']
    rfl
theorem run_copy_two0 (w : World) (dT sT ty elem : TypeId) (d a : Option Addr) (dLen dCap sLen sCap : Nat) (hu : Try.prog.underlying dT = some (.slice elem)) (hs : (Try.prog.info? elem).map (·.size) = some 2) (hn : Nat.min sLen dLen = 0) :
    (Builtin.copy_ #[dT, sT] ty #[.slice d dLen dCap, .slice a sLen sCap]).run Try.prog w = .ok (goInt 0) w := by
  cases hq : Try.prog.info? elem with
  | none => simp [hq] at hs
  | some i =>
    have hl : ∀ (x : Addr), (loadCells x 0).run Try.prog w = .ok #[] w := fun x => by simpa using run_loadCells_list (P := Try.prog) w x [] (by simp)
    cases d <;> cases a <;> simp [Builtin.copy_, run_underlying hu, Builtin.lenOf, Builtin.firstCells, sizeOf, typeInfo, hq, hn, storeCells, hl]
theorem makeR (c : Nat) (hc : c * 16 ≤ 140737488355328) (w : World) : (Instr.makeSlice 51 (.int .i64 (c : Int)) (.int .i64 (c : Int))).run Try.prog w = .ok (.slice (some ⟨w.heap.size, 0, none⟩) c c) (w.alloc (.cells (madeCells (Value.agg #[.int .i64 0, .int .i64 0]).cells (c * 2)) 55)) := by
  obtain ⟨i0, hi0, hz0, hz1, hz2⟩ := info_parts info49
  have h := run_make (P := Try.prog) w 51 55 i0 (.agg #[.int .i64 0, .int .i64 0]) Try.underlying51 hi0 hz0 .i64 .i64 c c (by omega) (by omega) (by rw [hz2]; omega) (by omega)
  simp only [Int.toNat_natCast, hz1] at h
  exact h
theorem makeI (c : Nat) (hc : c * 56 ≤ 140737488355328) (w : World) : (Instr.makeSlice 22 (.int .i64 (c : Int)) (.int .i64 (c : Int))).run Try.prog w = .ok (.slice (some ⟨w.heap.size, 0, none⟩) c c) (w.alloc (.cells (madeCells Z5.cells (c * 5)) 53)) := by
  obtain ⟨i0, hi0, hz0, hz1, hz2⟩ := info_parts info51
  have h := run_make (P := Try.prog) w 22 53 i0 Z5 Try.underlying22 hi0 hz0 .i64 .i64 c c (by omega) (by omega) (by rw [hz2]; omega) (by omega)
  simp only [Int.toNat_natCast, hz1] at h
  exact h
theorem made_rep (z : Array Value) (hz : 0 < z.size) : ∀ c : Nat, (madeCells z (c * z.size)).toList = (List.replicate c z.toList).flatten := by
  intro c
  apply List.ext_getElem?
  intro i
  have key : ∀ (c i : Nat), i < c * z.size → (List.replicate c z.toList).flatten[i]? = z[i % z.size]? := by
    intro c
    induction c with
    | zero => intro i h; simp at h
    | succ c ih =>
      intro i h
      rw [List.replicate_succ, List.flatten_cons]
      by_cases hi : i < z.size
      · rw [List.getElem?_append_left (by simpa using hi), Nat.mod_eq_of_lt hi]; simp
      · rw [List.getElem?_append_right (by simpa using Nat.le_of_not_lt hi)]
        have h2 : i - z.size < c * z.size := by rw [Nat.add_mul] at h; omega
        have := ih (i - z.size) h2
        rw [show i - z.toList.length = i - z.size by simp, this]
        rw [← Nat.mod_eq_sub_mod (by omega)]
  by_cases hi : i < c * z.size
  · rw [key c i hi]
    have hm : i % z.size < z.size := Nat.mod_lt _ hz
    simp [madeCells, hi, hm]
  · rw [List.getElem?_eq_none (by simp [madeCells]; omega), List.getElem?_eq_none (by simp; omega)]
theorem made_rowI (c N : Nat) (w : World) (hN : N ≤ w.heap.size) (hc : c ≤ maxLen) : (w.alloc (.cells (madeCells Z5.cells (c * 5)) 53)).ownsRow N 53 5 (.slice (some ⟨w.heap.size, 0, none⟩) c c) c ((List.replicate c (mkI 0)).flatMap Iv.cs) := by
  have h := World.ownsRow_lit (base := N) (e := 53) (size := 5) w (madeCells Z5.cells (c * 5)) c hN hc (by rw [size_madeCells])
  have e := made_rep Z5.cells (by decide) c
  rw [show Z5.cells.size = 5 from rfl] at e
  rw [e] at h
  have e2 : (List.replicate c Z5.cells.toList).flatten = (List.replicate c (mkI 0)).flatMap Iv.cs := by
    rw [List.flatMap_def, List.map_replicate]; rfl
  rw [e2] at h
  exact h
theorem made_rowR (c N : Nat) (w : World) (hN : N ≤ w.heap.size) (hc : c ≤ maxLen) : (w.alloc (.cells (madeCells (Value.agg #[.int .i64 0, .int .i64 0]).cells (c * 2)) 55)).ownsRow N 55 2 (.slice (some ⟨w.heap.size, 0, none⟩) c c) c (O2 (List.replicate c (0, 0))) := by
  have h := World.ownsRow_lit (base := N) (e := 55) (size := 2) w (madeCells (Value.agg #[.int .i64 0, .int .i64 0]).cells (c * 2)) c hN hc (by rw [size_madeCells])
  have e := made_rep (Value.agg #[.int .i64 0, .int .i64 0]).cells (by decide) c
  rw [show (Value.agg #[.int .i64 0, .int .i64 0]).cells.size = 2 from rfl] at e
  rw [e] at h
  have e2 : (List.replicate c (Value.agg #[.int .i64 0, .int .i64 0]).cells.toList).flatten = O2 (List.replicate c (0, 0)) := by
    unfold O2
    rw [List.flatMap_def, List.map_replicate]; rfl
  rw [e2] at h
  exact h
theorem copy_src {W : World} {lb lof : Nat} {R : List (Int × Int)} (h0 : ∀ k, k < R.length → W.cell? ⟨lb, lof + k * 2, none⟩ = some (.int .i64 (R.getD k (0, 0)).1)) (h1 : ∀ k, k < R.length → W.cell? ⟨lb, lof + (k * 2 + 1), none⟩ = some (.int .i64 (R.getD k (0, 0)).2)) : ∀ j v, (O2 R)[j]? = some v → W.cell? ((⟨lb, lof, none⟩ : Addr).add j) = some v := by
  intro j v hj
  have hjl := (List.getElem?_eq_some_iff.1 hj).1
  rw [O2_len] at hjl
  rw [Addr.add_mid, ← hj]
  by_cases e : j % 2 = 0
  · obtain ⟨k, rfl⟩ : ∃ k, j = k * 2 := ⟨j / 2, by omega⟩
    have hk : k < R.length := by omega
    rw [(O2_at R k hk).1, h0 k hk]
    simp [List.getD_eq_getElem?_getD, hk]
  · obtain ⟨k, rfl⟩ : ∃ k, j = k * 2 + 1 := ⟨j / 2, by omega⟩
    have hk : k < R.length := by omega
    rw [(O2_at R k hk).2, h1 k hk]
    simp [List.getD_eq_getElem?_getD, hk]
theorem O2_app (a b : List (Int × Int)) : O2 (a ++ b) = O2 a ++ O2 b := by simp [O2]
theorem copyR {W : World} {N B gr m r3 : Nat} {r1 : Option Addr} {R : List (Int × Int)} (hm : m = R.length) (hrow : W.ownsRow N 55 2 (.slice (some ⟨gr, 0, none⟩) (m + 1) (m + 1)) (m + 1) (O2 (List.replicate (m + 1) (0, 0)))) (hs : RowAt B W (.slice r1 m r3) R) :
    ∃ W', (Builtin.copy_ #[51, 51] 3 #[.slice (some ⟨gr, 0, none⟩) (m + 1) (m + 1), .slice r1 m r3]).run Try.prog W = .ok (.int .i64 (m : Int)) W' ∧ W'.ownsRow N 55 2 (.slice (some ⟨gr, 0, none⟩) (m + 1) (m + 1)) (m + 1) (O2 (R ++ [(0, 0)])) ∧ (∀ k, k ≠ gr → W'.heap[k]? = W.heap[k]?) ∧ W'.heap.size = W.heap.size ∧ W'.os = W.os ∧ W'.tape = W.tape ∧ W'.output = W.output := by
  obtain ⟨ad', cap', he, h0 | ⟨lb, lof, hr1, hlb, hc0, hc1⟩⟩ := hs
  · have hR : R = [] := List.length_eq_zero_iff.1 h0
    subst hR
    have hm0 : m = 0 := hm
    subst hm0
    refine ⟨W, ?_, by simpa using hrow, fun _ _ => rfl, rfl, rfl, rfl, rfl⟩
    have := run_copy_two0 W 51 51 3 55 (some ⟨gr, 0, none⟩) r1 (0 + 1) (0 + 1) 0 r3 Try.underlying51 size49 (by simp)
    simpa [goInt] using this
  · simp only [Value.slice.injEq] at he
    obtain ⟨e1, e2, e3⟩ := he
    rw [hr1] at e1
    subst e1
    have hl : (O2 R).length = m * 2 := by rw [O2_len, hm]
    have hrun := run_copy_two W 51 51 3 55 gr 0 (m + 1) (m + 1) ⟨lb, lof, none⟩ m r3 (O2 R) Try.underlying51 size49 (by rw [hl]; simp) (copy_src (fun k hk => hc0 k hk) (fun k hk => hc1 k hk)) (fun j hj => by
      rw [Nat.zero_add, hrow.cellAt j (by omega), List.getElem?_eq_getElem (by rw [O2_len]; simp; omega)]; rfl) (fun j hj => by rw [Nat.zero_add]; exact hrow.frozenAt j) (fun v hv => by
      simp only [O2, List.mem_flatMap, List.mem_cons, List.not_mem_nil, or_false] at hv
      obtain ⟨x, _, rfl | rfl⟩ := hv <;> rfl)
    refine ⟨W.setCells gr 0 (O2 R), by simpa [goInt] using hrun, ?_, fun k hk => setCells_old gr _ _ _ k hk, setCells_size gr _ _ _, ?_, ?_, ?_⟩
    · have h1 := row_setCells (O2 R) 0 W _ hrow (by rw [O2_len, O2_len]; simp; omega)
      rw [Nat.zero_add, List.take_zero, List.nil_append, hl, show List.replicate (m + 1) ((0 : Int), (0 : Int)) = List.replicate m (0, 0) ++ [(0, 0)] by rw [List.replicate_succ'], O2_app, List.drop_left' (by rw [O2_len]; simp), ← O2_app] at h1
      exact h1
    · exact (Below.setCells (B := 0) (Nat.zero_le _) (O2 R) 0 W W (Below.refl _ _)).os
    · exact (Below.setCells (B := 0) (Nat.zero_le _) (O2 R) 0 W W (Below.refl _ _)).tape
    · exact (Below.setCells (B := 0) (Nat.zero_le _) (O2 R) 0 W W (Below.refl _ _)).output
/-- the mark is laid -/
theorem marksR {W : World} {N gr m : Nat} {R : List (Int × Int)} (hm : m = R.length) (hrow : W.ownsRow N 55 2 (.slice (some ⟨gr, 0, none⟩) (m + 1) (m + 1)) (m + 1) (O2 (R ++ [(0, 0)]))) :
    ((W.setCell ⟨gr, m * 2, none⟩ (.int .i64 (-77))).setCell ⟨gr, m * 2 + 1, none⟩ (.int .i64 0)).ownsRow N 55 2 (.slice (some ⟨gr, 0, none⟩) (m + 1) (m + 1)) (m + 1) (O2 (R ++ MkR)) := by
  have h1 := row_setC (row_setC hrow (m * 2) (.int .i64 (-77))) (m * 2 + 1) (.int .i64 0)
  rw [O2_set] at h1
  have e : (R ++ [(0, 0)]).set m (-77, 0) = R ++ MkR := by
    subst hm
    rw [List.set_append_right _ _ (Nat.le_refl _)]
    simp
  rw [e] at h1
  exact h1
theorem size5 : (Try.prog.info? 53).map (·.size) = some 5 := by kernel_rfl
theorem store5 {ops : Array Oper} {rest : List Oper} {op : Oper} {a : Act} {w : World} {Q : Exit → Act → World → Prop} (hgd : op.guard = none) (x y : Operand) (ho : op.op = .store 53 x y)
    (b i : Nat) (N : Iv) (hx : a.eval x = .pointer (some ⟨b, i * 5, none⟩)) (hy : a.eval y = .agg #[.int .i64 N.op, .int .i64 N.x, .int .i64 N.y, .int .i64 N.a, .slice N.r1 N.r2 N.r3]) (ht : w.there b (i * 5) 5)
    (h : wpList Try.prog ops Q rest (a.put op.dst undef) (w.setCells b (i * 5) (Iv.cs N))) : wpList Try.prog ops Q (op :: rest) a w :=
  wpList_store_mid hgd 53 x y ho b (i * 5) #[.int .i64 N.op, .int .i64 N.x, .int .i64 N.y, .int .i64 N.a, .slice N.r1 N.r2 N.r3] hx hy ht size5 (by simp [Value.oneCell']) h
theorem flat5_set : ∀ (L : List Iv) (i : Nat) (M : Iv), i < L.length → (L.flatMap Iv.cs).take (i * 5) ++ Iv.cs M ++ (L.flatMap Iv.cs).drop (i * 5 + (Iv.cs M).length) = (L.set i M).flatMap Iv.cs := by
  intro L
  induction L with
  | nil => intro i M h; simp at h
  | cons a L ih =>
    intro i M h
    cases i with
    | zero => simp [List.flatMap_cons]
    | succ i =>
      have h1 := ih i M (by simpa using h)
      rw [List.set_cons_succ, List.flatMap_cons, List.flatMap_cons, ← h1]
      rw [show (i + 1) * 5 = (Iv.cs a).length + i * 5 by simp; omega, List.take_length_add_append, show (Iv.cs a).length + i * 5 + (Iv.cs M).length = (Iv.cs a).length + (i * 5 + (Iv.cs M).length) by omega, List.drop_length_add_append]
      simp
theorem getD_snoc (MS : List Iv) (N : Iv) (j : Nat) : (MS ++ [N]).getD j default = if j < MS.length then MS.getD j default else if j = MS.length then N else default := by
  by_cases h : j < MS.length
  · rw [if_pos h]; simp [List.getD_eq_getElem?_getD, List.getElem?_append_left h]
  · rw [if_neg h]
    by_cases e : j = MS.length
    · rw [if_pos e, e]; simp [List.getD_eq_getElem?_getD]
    · rw [if_neg e]; simp only [List.getD_eq_getElem?_getD]; rw [List.getElem?_eq_none (by simp; omega)]; rfl
theorem flat5_r (MS rest : List Iv) (op x y a : Int) (r1 r1' : Option Addr) (r2 r3 r2' r3' i : Nat) (h : MS.length = i) : ((MS ++ ⟨op, x, y, a, r1, r2, r3⟩ :: rest).flatMap Iv.cs).set (i * 5 + 4) (.slice r1' r2' r3') = ((MS ++ [(⟨op, x, y, a, r1', r2', r3'⟩ : Iv)]) ++ rest).flatMap Iv.cs := by
  have hl := flat5_len MS
  rw [List.flatMap_append, List.flatMap_cons, List.set_append_right _ _ (by omega), show i * 5 + 4 - (MS.flatMap Iv.cs).length = 4 by omega]
  simp [Iv.cs]
/-- a round of Lent -/
theorem lent_step {wr V3 : World} {x gz gr n i r2 r3 : Nat} {r1 : Option Addr} {op xx yy aa : Int} {l : List In} {MS : List Iv} (hil : i < l.length) (hin : i < n) (hML : MS.length = i) (hRZ : V3.ownsRow x 53 5 (.slice (some ⟨gz, 0, none⟩) (n + 1) (n + 1)) (n + 1) ((MS ++ ⟨op, xx, yy, aa, r1, r2, r3⟩ :: List.replicate (n + 1 - (i + 1)) (mkI 0)).flatMap Iv.cs))
    (hLO : ∀ j (hj : j < l.length), j < i → LO wr x (.slice (some ⟨gz, 0, none⟩) (n + 1) (n + 1)) (MS.getD j default) l[j]) (hPW : ∀ j j' b, j < i → j' < i → j ≠ j' → (MS.getD j default).rv.ownBlock = some b → (MS.getD j' default).rv.ownBlock ≠ some b)
    (hW3 : ∀ q, q < wr.heap.size → q ≠ gz → V3.heap[q]? = wr.heap[q]?) (hgz : gz < wr.heap.size) (hgr : wr.heap.size ≤ gr) (hO : LO V3 x (.slice (some ⟨gz, 0, none⟩) (n + 1) (n + 1)) ⟨op, xx, yy, aa, some ⟨gr, 0, none⟩, r2, r2 + 1⟩ l[i]) :
    (V3.setCell ⟨gz, i * 5 + 4, none⟩ (.slice (some ⟨gr, 0, none⟩) r2 (r2 + 1))).ownsRow x 53 5 (.slice (some ⟨gz, 0, none⟩) (n + 1) (n + 1)) (n + 1) (((MS ++ [(⟨op, xx, yy, aa, some ⟨gr, 0, none⟩, r2, r2 + 1⟩ : Iv)]) ++ List.replicate (n + 1 - (i + 1)) (mkI 0)).flatMap Iv.cs) ∧
    (∀ j (hj : j < l.length), j < i + 1 → LO (V3.setCell ⟨gz, i * 5 + 4, none⟩ (.slice (some ⟨gr, 0, none⟩) r2 (r2 + 1))) x (.slice (some ⟨gz, 0, none⟩) (n + 1) (n + 1)) ((MS ++ [(⟨op, xx, yy, aa, some ⟨gr, 0, none⟩, r2, r2 + 1⟩ : Iv)]).getD j default) l[j]) ∧
    (∀ j j' b, j < i + 1 → j' < i + 1 → j ≠ j' → ((MS ++ [(⟨op, xx, yy, aa, some ⟨gr, 0, none⟩, r2, r2 + 1⟩ : Iv)]).getD j default).rv.ownBlock = some b → ((MS ++ [(⟨op, xx, yy, aa, some ⟨gr, 0, none⟩, r2, r2 + 1⟩ : Iv)]).getD j' default).rv.ownBlock ≠ some b) := by
  have hset := row_setC hRZ (i * 5 + 4) (.slice (some ⟨gr, 0, none⟩) r2 (r2 + 1))
  rw [flat5_r _ _ _ _ _ _ _ _ _ _ _ _ _ hML] at hset
  have hNb : (Iv.rv ⟨op, xx, yy, aa, some ⟨gr, 0, none⟩, r2, r2 + 1⟩).ownBlock = some gr := rfl
  have hlow : ∀ j (hj : j < l.length), j < i → ∀ b, (MS.getD j default).rv.ownBlock = some b → b < wr.heap.size := fun j hj hji b hb => ((hLO j hj hji).rr.lt b ((ob_len _ _ _ _ _).trans hb)).2
  refine ⟨hset, fun j hj hji => ?_, fun j j' b hj hj' hne h1 h2 => ?_⟩
  · rw [getD_snoc]
    by_cases h : j < MS.length
    · rw [if_pos h]
      refine (hLO j hj (by omega)).kept (fun b hb => ?_)
      have hbg : b ≠ gz := fun e' => (hLO j hj (by omega)).ne b hb (by rw [e']; rfl)
      exact (Below.heap_setCell _ _ _ _ hbg).trans (hW3 b (hlow j hj (by omega) b hb) hbg)
    · have ej : j = i := by omega
      subst ej
      rw [if_neg h, if_pos hML.symm]
      exact hO.kept (fun b hb => Below.heap_setCell _ _ _ _ (fun e' => hO.ne b hb (by rw [e']; rfl)))
  · rw [getD_snoc] at h1 h2
    by_cases h : j < MS.length
    · rw [if_pos h] at h1
      by_cases h' : j' < MS.length
      · rw [if_pos h'] at h2; exact hPW j j' b (by omega) (by omega) hne h1 h2
      · rw [if_neg h', if_pos (by omega), hNb] at h2
        have := hlow j (by omega) (by omega) b h1
        simp at h2
        omega
    · rw [if_neg h, if_pos (by omega), hNb] at h1
      simp at h1
      rw [if_pos (by omega)] at h2
      have := hlow j' (by omega) (by omega) b h2
      omega
end Go.Proofs.Ytodpmmlfdkdemaa
/- HELPERS: a program that is lent. -/
namespace Go.Proofs.Ytodpmmlfdkdemaa
open Go.RowKit Go.Lk
set_option linter.unusedVariables false
set_option linter.unusedSimpArgs false
set_option maxRecDepth 100000 in
set_option maxHeartbeats 8000000 in
theorem lent7 {w : World} {ad : Option Addr} {n c : Nat} {l : List In} {s k : Int} (h : PI w w.heap.size ad n l) (hn : n * 56 ≤ 140737488351232) :
    Calls Try.prog 7 #[pv ad n c s k] w fun e w' => ∃ gz MS, e = .returned (pv (some ⟨gz, 0, none⟩) n (n + 1) s k) ∧ PL w' w.heap.size (some ⟨gz, 0, none⟩) n (n + 1) l MS ∧ Below w.heap.size w w' := by
  have HL := hid h.len
  obtain ⟨U, hU⟩ : ∃ U, U = (w.alloc (.cells #[.slice ad n c, .int .i64 s, .int .i64 k] 24)).alloc (.cells #[.slice none 0 0, .int .i64 0, .int .i64 0] 24) := ⟨_, rfl⟩
  have hb : Below w.heap.size w U := by rw [hU]; exact below_two' w _ _
  have hX : U.heap[w.heap.size]? = some (.cells #[.slice ad n c, .int .i64 s, .int .i64 k] 24 (0, 0)) := by rw [hU]; exact (heap_alloc_old _ _ (by simp)).trans (heap_alloc_new w _)
  have hY : U.heap[w.heap.size + 1]? = some (.cells #[.slice none 0 0, .int .i64 0, .int .i64 0] 24 (0, 0)) := by rw [hU]; exact two_new w _ _ _
  have hyU : w.heap.size + 1 < U.heap.size := (Array.getElem?_eq_some_iff.1 hY).1
  obtain ⟨x, hx⟩ : ∃ x, x = w.heap.size := ⟨_, rfl⟩
  obtain ⟨y, hy⟩ : ∃ y, y = w.heap.size + 1 := ⟨_, rfl⟩
  have hmk := makeI (n + 1) (by omega) U
  have HROW0 := hid (made_rowI (n + 1) x U (by omega) (by unfold maxLen; omega))
  obtain ⟨A, hA⟩ : ∃ A, A = U.alloc (.cells (madeCells Z5.cells ((n + 1) * 5)) 53) := ⟨_, rfl⟩
  obtain ⟨gz, hgz⟩ : ∃ gz, gz = U.heap.size := ⟨_, rfl⟩
  have hbA : Below U.heap.size U A := by rw [hA]; exact Joins.below_alloc1 U _
  rw [← hA, ← hgz] at hmk HROW0
  rw [show ((n + 1 : Nat) : Int) = (n : Int) + 1 by omega] at hmk
  rw [← hx] at hX hb h
  rw [← hy] at hY hyU
  have a2 : IntKind.i64.wrap ((n : Int) + 1) = (n : Int) + 1 := wrap_ok _ (by omega) (by omega)
  obtain ⟨c0, c1, c2⟩ := three_cells hX
  have hxy : x < y := by omega
  have hygz : y < gz := by omega
  have HX := hid ((hbA.block x (by omega)).trans hX)
  have HY := hid ((hbA.block y hyU).trans hY)
  have HB : Hid (Below x w A) := hb.trans (Joins.below_le hbA (by omega))
  have hgA : gz < A.heap.size := by rw [hA]; simp; omega
  have HXE := hid hx
  have HP := hid h
  clear h hb hX hY hbA hA hgz hyU
  go_enter Try.func7, Try.ntmps7
  go_upto_region 1 with fail
  rw [← hU, ← hy, ← hx]
  clear hU hy hx
  go_wp2_with fail
  clear hmk a2 c0 c1 c2
  go_loopw [4] (fun v wq => ∃ (i : Nat) (MS : List Iv), v = .int .i64 (i : Int) ∧ i ≤ n ∧ Hid (MS.length = i) ∧ Hid (wq.ownsRow x 53 5 (.slice (some ⟨gz, 0, none⟩) (n + 1) (n + 1)) (n + 1) ((MS ++ List.replicate (n + 1 - i) (mkI 0)).flatMap Iv.cs)) ∧ Hid (∀ j (hj : j < l.length), j < i → LO wq x (.slice (some ⟨gz, 0, none⟩) (n + 1) (n + 1)) (MS.getD j default) l[j]) ∧ Hid (∀ j j' b, j < i → j' < i → j ≠ j' → (MS.getD j default).rv.ownBlock = some b → (MS.getD j' default).rv.ownBlock ≠ some b) ∧ Hid (Below x w wq) ∧ Hid (wq.heap[x]? = some (.cells #[.slice ad n c, .int .i64 s, .int .i64 k] 24 (0, 0))) ∧ Hid (wq.heap[y]? = some (.cells #[.slice none 0 0, .int .i64 0, .int .i64 0] 24 (0, 0))) ∧ gz < wq.heap.size) (fun v _ => n - (intOf v).toNat)
  case atStart => exact ⟨0, [], rfl, by omega, rfl, hid (by simpa using HROW0.out), hid (fun j hj h => by omega), hid (fun j j' b h => by omega), HB.out, HX.out, HY.out, hgA⟩
  case round =>
    clear HROW0 HB HX HY hgA
    obtain ⟨i, MS, rfl, hi, HML, HROW, HLO, HPW, HB, HX, HY, hgw⟩ := hrel
    obtain ⟨p0, p1, p2⟩ := three_cells HX.out
    by_cases hil : i < n
    · have b1 : decide ((i : Int) < (n : Int)) = true := by simp; omega
      have b2 : (i : Int) < (n : Int) := by omega
      have ad1 : IntKind.i64.wrap ((i : Int) + 1) = (i : Int) + 1 := wrap_ok _ (by omega) (by omega)
      have hill : i < l.length := by have := HL.out; omega
      obtain ⟨pb, po, ND, hpa, hpb, hcs⟩ := HP.out.mem (by omega)
      subst hpa
      obtain ⟨h5, hIM⟩ := hcs i hill
      have h5' := h5.kept (HB.out.block pb hpb)
      have hIM' := hIM.kept HB.out (Nat.le_refl _)
      obtain ⟨N0, hN0⟩ : ∃ N0, N0 = ND i := ⟨_, rfl⟩
      rw [← hN0] at h5' hIM'
      obtain ⟨op, xx, yy, aa, r1, r2, r3⟩ := N0
      unfold I5 at h5'
      obtain ⟨m0, m1, m2, m3, m4⟩ := h5'
      have hsm : r2 * 16 ≤ 140737488351232 := hIM'.sm
      have hlen : r2 = l[i].R.length := hIM'.len
      have HIM := hid hIM'
      have hbs := HB.out.size
      have hxr := (Array.getElem?_eq_some_iff.1 HX.out).1
      have hyr := (Array.getElem?_eq_some_iff.1 HY.out).1
      have ht5 : wr.there gz (i * 5) 5 := row_there HROW.out (by omega)
      have hrow0 := row_setCells (Iv.cs ⟨op, xx, yy, aa, r1, r2, r3⟩) (i * 5) wr _ HROW.out (by rw [flat5_len]; simp; have := HML.out; omega)
      rw [flat5_set _ i ⟨op, xx, yy, aa, r1, r2, r3⟩ (by simp; have := HML.out; omega), show (MS ++ List.replicate (n + 1 - i) (mkI 0)).set i ⟨op, xx, yy, aa, r1, r2, r3⟩ = MS ++ ⟨op, xx, yy, aa, r1, r2, r3⟩ :: List.replicate (n + 1 - (i + 1)) (mkI 0) by
        rw [List.set_append_right _ _ (by have := HML.out; omega), show n + 1 - i = (n + 1 - (i + 1)) + 1 by omega, List.replicate_succ, HML.out, Nat.sub_self, List.set_cons_zero]] at hrow0
      obtain ⟨V0, hV0⟩ : ∃ V0, V0 = wr.setCells gz (i * 5) (Iv.cs ⟨op, xx, yy, aa, r1, r2, r3⟩) := ⟨_, rfl⟩
      rw [← hV0] at hrow0
      have hk0 : ∀ q, q ≠ gz → V0.heap[q]? = wr.heap[q]? := fun q hq => by rw [hV0]; exact setCells_old gz _ _ _ q hq
      have hs0 : V0.heap.size = wr.heap.size := by rw [hV0, setCells_size]
      have hen0 := Below.setCells (B := 0) (Nat.zero_le gz) (Iv.cs ⟨op, xx, yy, aa, r1, r2, r3⟩) (i * 5) wr wr (Below.refl _ _)
      rw [← hV0] at hen0
      have hbl0 : Below x wr V0 := ⟨hen0.os, hen0.tape, hen0.output, by omega, fun q hq => hk0 q (by omega)⟩
      have hmkR := makeR (r2 + 1) (by omega) V0
      have hrow1 := made_rowR (r2 + 1) x V0 (by omega) (by unfold maxLen; omega)
      obtain ⟨V1, hV1⟩ : ∃ V1, V1 = V0.alloc (.cells (madeCells (Value.agg #[.int .i64 0, .int .i64 0]).cells ((r2 + 1) * 2)) 55) := ⟨_, rfl⟩
      obtain ⟨gr, hgr⟩ : ∃ gr, gr = V0.heap.size := ⟨_, rfl⟩
      have hbV1 : Below V0.heap.size V0 V1 := by rw [hV1]; exact Joins.below_alloc1 V0 _
      have hs1 : V1.heap.size = gr + 1 := by rw [hV1, hgr]; simp
      rw [← hV1, ← hgr] at hmkR hrow1
      rw [show ((r2 + 1 : Nat) : Int) = (r2 : Int) + 1 by omega] at hmkR
      have hbl1 : Below x wr V1 := hbl0.trans (hbV1.mono (by omega))
      obtain ⟨V2, hcp, hrow2, hk2, hs2, ho2, ht2, hu2⟩ := copyR (B := x) hlen hrow1 (HIM.out.row.below hbl1 (Nat.le_refl _) (Nat.le_refl _))
      obtain ⟨V3, hV3⟩ : ∃ V3, V3 = (V2.setCell ⟨gr, r2 * 2, none⟩ (.int .i64 (-77))).setCell ⟨gr, r2 * 2 + 1, none⟩ (.int .i64 0) := ⟨_, rfl⟩
      have hrow3 : V3.ownsRow x 55 2 (.slice (some ⟨gr, 0, none⟩) (r2 + 1) (r2 + 1)) (r2 + 1) (O2 (l[i].R ++ MkR)) := by rw [hV3]; exact marksR hlen hrow2
      have hk3 : ∀ q, q ≠ gr → V3.heap[q]? = V2.heap[q]? := fun q hq => by rw [hV3]; exact (Below.heap_setCell _ _ _ _ hq).trans (Below.heap_setCell _ _ _ _ hq)
      have hs3 : V3.heap.size = gr + 1 := by rw [hV3]; simp [World.setCell]; omega
      have ht1 : V2.there gr (r2 * 2) 2 := row_there hrow2 (by omega)
      have hgq : gr = wr.heap.size := by omega
      have hq1 : ∀ q, q < wr.heap.size → V1.heap[q]? = V0.heap[q]? := fun q hq => hbV1.block q (by omega)
      have hq3 : ∀ q, q < wr.heap.size → q ≠ gz → V3.heap[q]? = wr.heap[q]? := fun q hq hne => (hk3 q (by omega)).trans ((hk2 q (by omega)).trans ((hq1 q hq).trans (hk0 q hne)))
      have hrz3 := row_kept hrow0 (w' := V3) (fun q hq => by simp [Value.ownBlock] at hq; subst hq; exact (hk3 _ (by omega)).trans ((hk2 _ (by omega)).trans (hq1 _ hgw)))
      have hth := row_there hrz3 (j := i * 5) (m := 5) (by omega) 4 (by omega)
      obtain ⟨vv, hvv⟩ := Option.isSome_iff_exists.1 hth.1
      have fz := hth.2
      have hpg : pb ≠ gz := by omega
      have hpr : pb ≠ gr := by omega
      have hpw : pb < wr.heap.size := by omega
      have hxg : x ≠ gz := by omega
      have hxgr : x ≠ gr := by omega
      have j0 := (cell_eq (hk0 x hxg) 0).trans p0
      have j4 : V0.cell? ⟨pb, po + i * 5 + 4, none⟩ = some (.slice r1 r2 r3) := (cell_eq (hk0 pb hpg) _).trans m4
      have k0 := (cell_eq (hq1 x hxr) 0).trans j0
      have k4 : V1.cell? ⟨pb, po + i * 5 + 4, none⟩ = some (.slice r1 r2 r3) := (cell_eq (hq1 pb hpw) _).trans j4
      have l0 := (cell_eq (hk2 x hxgr) 0).trans k0
      have l4 : V2.cell? ⟨pb, po + i * 5 + 4, none⟩ = some (.slice r1 r2 r3) := (cell_eq (hk2 pb hpr) _).trans k4
      have n0 := (cell_eq (hk3 x hxgr) 0).trans l0
      have n4 : V3.cell? ⟨pb, po + i * 5 + 4, none⟩ = some (.slice r1 r2 r3) := (cell_eq (hk3 pb hpr) _).trans l4
      have aR1 : IntKind.i64.wrap ((r2 : Int) + 1) = (r2 : Int) + 1 := wrap_ok _ (by omega) (by omega)
      have z1 : (r2 : Int) < (r2 : Int) + 1 := by omega
      have z3 : (r2 : Int) ≤ (r2 : Int) + 1 := by omega
      have z4 : (0 : Int) ≤ (r2 : Int) := by omega
      have z5 : (i : Int) < (n : Int) + 1 := by omega
      have HV0 := hid hV0
      have HV3 := hid hV3
      have HQ3 := hid hq3
      have HR3 := hid hrow3
      have HRZ := hid hrz3
      have HLEN := hid hlen
      have HSZ := hid hs3
      have HGQ := hid hgq
      have hen : V3.os = w.os ∧ V3.tape = w.tape ∧ V3.output = w.output := by
        rw [hV3]
        exact ⟨ho2.trans (hbl1.os.trans HB.out.os), ht2.trans (hbl1.tape.trans HB.out.tape), hu2.trans (hbl1.output.trans HB.out.output)⟩
      have HEN := hid hen
      clear hcs h5 hIM hN0 hV0 hk0 hs0 hen0 hbl0 hrow0 hrow1 hV1 hgr hbV1 hs1 hbl1 hrow2 hk2 hs2 ho2 ht2 hu2 hV3 hrow3 hk3 hs3 hq1 hq3 hrz3 hth hlen hIM' hen hgq
      go_upto_region 6 with ((with_reducible refine store5 rfl (.tmp 25) (.tmp 24) rfl gz i ⟨op, xx, yy, aa, r1, r2, r3⟩ ?_ ?_ ht5 ?_); (rfl); (rfl))
      rw [← HV0.out]
      clear m0 m1 m2 m3 m4 ht5 p0 p1 p2
      go_upto_region 7 with fail
      clear hmkR j0 j4
      go_upto_region 8 with fail
      clear hcp k0 k4
      go_upto_region 9 with ((with_reducible refine store49 rfl (.tmp 52) (.tmp 51) rfl gr r2 (-77) 0 ?_ ?_ ht1 ?_); (rfl); (rfl))
      rw [← HV3.out]
      clear ht1 l0 l4
      go_wp2_with fail
      obtain ⟨s1, s2, s3⟩ := lent_step (gr := gr) (r1 := r1) (r3 := r3) hill hil HML.out HRZ.out HLO.out HPW.out HQ3.out hgw (by have := HGQ.out; omega) ⟨HIM.out.op, HIM.out.x, HIM.out.y, HIM.out.a, HLEN.out, hsm, by rw [← HLEN.out]; exact HR3.out, fun b hb => by simp [Value.ownBlock] at hb ⊢; have := HGQ.out; omega⟩
      have hold : ∀ q, q < wr.heap.size → q ≠ gz → (V3.setCell ⟨gz, i * 5 + 4, none⟩ (.slice (some ⟨gr, 0, none⟩) r2 (r2 + 1))).heap[q]? = wr.heap[q]? := fun q hq hne => (Below.heap_setCell _ _ _ _ hne).trans (HQ3.out q hq hne)
      have hsz : (V3.setCell ⟨gz, i * 5 + 4, none⟩ (.slice (some ⟨gr, 0, none⟩) r2 (r2 + 1))).heap.size = gr + 1 := by simp [World.setCell]; exact HSZ.out
      refine ⟨⟨i + 1, MS ++ [⟨op, xx, yy, aa, some ⟨gr, 0, none⟩, r2, r2 + 1⟩], by push_cast; rfl, by omega, hid (by rw [List.length_append, HML.out]; rfl), hid s1, hid s2, hid s3, ⟨HEN.out.1, HEN.out.2.1, HEN.out.2.2, by rw [hsz]; have := HGQ.out; omega, fun q hq => (hold q (by omega) (by omega)).trans (HB.out.block q hq)⟩, (hold x hxr (by omega)).trans HX.out, (hold y hyr (by omega)).trans HY.out, by rw [hsz]; have := HGQ.out; omega⟩, by simp [intOf]; omega⟩
    · have b1 : decide ((i : Int) < (n : Int)) = false := by simp; omega
      obtain rfl : n = i := by omega
      have z1 : (n : Int) < (n : Int) + 1 := by omega
      have z3 : (n : Int) ≤ (n : Int) + 1 := by omega
      have z4 : (0 : Int) ≤ (n : Int) := by omega
      have ht1 : wr.there gz (n * 5) 5 := row_there HROW.out (by omega)
      have h2 := row_setCells (Iv.cs (mkI (-77))) (n * 5) wr _ HROW.out (by rw [flat5_len]; simp; have := HML.out; omega)
      rw [flat5_set _ n (mkI (-77)) (by simp; have := HML.out; omega)] at h2
      obtain ⟨W2, hW2⟩ : ∃ W2, W2 = wr.setCells gz (n * 5) (Iv.cs (mkI (-77))) := ⟨_, rfl⟩
      rw [← hW2] at h2
      have e : (MS ++ List.replicate (n + 1 - n) (mkI 0)).set n (mkI (-77)) = MS ++ [mkI (-77)] := by
        have := HML.out
        rw [show n + 1 - n = 1 by omega, List.set_append_right _ _ (by omega), this, Nat.sub_self]
        rfl
      rw [e] at h2
      have hxr := (Array.getElem?_eq_some_iff.1 HX.out).1
      have hyr := (Array.getElem?_eq_some_iff.1 HY.out).1
      have hbs := HB.out.size
      have hk2 : ∀ q, q ≠ gz → W2.heap[q]? = wr.heap[q]? := fun q hq => by rw [hW2]; exact setCells_old gz _ _ _ q hq
      have hx2 : W2.heap[x]? = _ := (hk2 x (by omega)).trans HX.out
      have hy2 := (hk2 y (by omega)).trans HY.out
      obtain ⟨W3, hW3⟩ : ∃ W3, W3 = W2.setCell ⟨x, 0, none⟩ (.slice (some ⟨gz, 0, none⟩) n (n + 1)) := ⟨_, rfl⟩
      have hx3 : W3.heap[x]? = some (.cells #[.slice (some ⟨gz, 0, none⟩) n (n + 1), .int .i64 s, .int .i64 k] 24 (0, 0)) := by rw [hW3]; exact Joins.block_setCell (i := 0) hx2 _
      have hy3 := (show W3.heap[y]? = W2.heap[y]? by rw [hW3]; exact Below.heap_setCell _ _ _ _ (by show y ≠ x; omega)).trans hy2
      obtain ⟨e0, e1, e2⟩ := three_cells hx2
      obtain ⟨f0, f1, f2⟩ := three_cells hx3
      have u0 := Joins.unfrozen_of_block hx2 0
      have s0 := Joins.unfrozen_of_block hy3 0
      have s1 := Joins.unfrozen_of_block hy3 1
      have s2 := Joins.unfrozen_of_block hy3 2
      have y0 := Joins.cell_of_block hy3 0
      have y1 := Joins.cell_of_block hy3 1
      have y2 := Joins.cell_of_block hy3 2
      have hE2 : W2.heap.size = wr.heap.size ∧ W2.os = wr.os ∧ W2.tape = wr.tape ∧ W2.output = wr.output := by
        have hb0 := Below.setCells (B := 0) (Nat.zero_le gz) (Iv.cs (mkI (-77))) (n * 5) wr wr (Below.refl _ _)
        rw [← hW2] at hb0
        refine ⟨?_, hb0.os, hb0.tape, hb0.output⟩
        rw [hW2, setCells_size]
      have HE2 := hid hE2
      have HK2 := hid hk2
      have HH2 := hid h2
      have HY3 := hid hy3
      have HW2 := hid hW2
      have HW3 := hid hW3
      clear h2 e hW2 hW3 hx2 hx3 hy2 hy3 hk2 hE2
      go_upto_region 11 with ((with_reducible refine store5 rfl (.tmp 71) (.tmp 70) rfl gz n (mkI (-77)) ?_ ?_ ht1 ?_); (rfl); (rfl))
      rw [← HW2.out]
      clear ht1 p0 p1 p2
      go_upto_region 12 with fail
      rw [← HW3.out]
      clear e0 e1 e2 u0
      go_wp2
      obtain ⟨F, hF⟩ : ∃ F, F = ((W3.setCell ⟨y, 0, none⟩ (.slice (some ⟨gz, 0, none⟩) n (n + 1))).setCell ⟨y, 1, none⟩ (.int .i64 s)).setCell ⟨y, 2, none⟩ (.int .i64 k) := ⟨_, rfl⟩
      rw [← hF]
      have hyF : F.heap[y]? = some (.cells #[.slice (some ⟨gz, 0, none⟩) n (n + 1), .int .i64 s, .int .i64 k] 24 (0, 0)) := by rw [hF]; exact Joins.block_setCell (i := 2) (Joins.block_setCell (i := 1) (Joins.block_setCell (i := 0) HY3.out _) _) _
      have hkF : ∀ q, q ≠ x → q ≠ y → F.heap[q]? = W2.heap[q]? := fun q h1 h2 => by rw [hF, HW3.out]; exact (Below.heap_setCell _ _ _ _ h2).trans ((Below.heap_setCell _ _ _ _ h2).trans ((Below.heap_setCell _ _ _ _ h2).trans (Below.heap_setCell _ _ _ _ h1)))
      have hsF : F.heap.size = wr.heap.size := by rw [hF, HW3.out]; simp [World.setCell]; exact HE2.out.1
      refine bodyPost_ret (results_cell_row rfl _ _ y 24 _ (0, 0) _ rfl hyF Try.underlying24 rfl (by kernel_rfl)) rfl ?_
      refine ⟨gz, MS, rfl, ?_, ?_⟩
      · rw [← HXE.out]
        refine ⟨HL.out, HML.out, row_kept HH2.out (fun q hq => hkF q (by simp [Value.ownBlock] at hq; omega) (by simp [Value.ownBlock] at hq; omega)), fun j hj => ?_, HPW.out⟩
        have hO := HLO.out j hj (by have := HL.out; omega)
        refine hO.kept (fun q hq => ?_)
        have hlt := hO.rr.lt q ((ob_len _ _ _ _ _).trans hq)
        have hne := hO.ne q hq
        have hqx : q ≠ x := fun e' => own_ne hO.rr HX.out (by decide) ((ob_len _ _ _ _ _).trans (e' ▸ hq))
        have hqy : q ≠ y := fun e' => own_ne hO.rr HY.out (by decide) ((ob_len _ _ _ _ _).trans (e' ▸ hq))
        exact (hkF q hqx hqy).trans (HK2.out q (fun e' => hne (by rw [e']; rfl)))
      · rw [← HXE.out]
        refine ⟨?_, ?_, ?_, by omega, fun q hq => (hkF q (by omega) (by omega)).trans ((HK2.out q (by omega)).trans (HB.out.block q hq))⟩
        · rw [hF, HW3.out]; exact HE2.out.2.1.trans HB.out.os
        · rw [hF, HW3.out]; exact HE2.out.2.2.1.trans HB.out.tape
        · rw [hF, HW3.out]; exact HE2.out.2.2.2.trans HB.out.output
end Go.Proofs.Ytodpmmlfdkdemaa
/- HELPERS: what was lent stands; a text that is lent. -/
namespace Go.Proofs.Ytodpmmlfdkdemaa
open Go.RowKit Go.Lk
set_option linter.unusedVariables false
set_option linter.unusedSimpArgs false
theorem makeT (c : Nat) (hc : c * 8 ≤ 140737488355325) (w : World) : (Instr.makeSlice 25 (.int .i64 (c : Int)) (.int .i64 (c : Int))).run Try.prog w = .ok (.slice (some ⟨w.heap.size, 0, none⟩) c c) (w.alloc (.cells (madeCells #[.int .i64 0] c) 3)) := by
  obtain ⟨i0, hi0, hz0, hz1, hz2⟩ := info_parts info3
  have h := run_make (P := Try.prog) w 25 3 i0 (.int .i64 0) Try.underlying25 hi0 hz0 .i64 .i64 c c (by omega) (by omega) (by rw [hz2]; omega) (by omega)
  simp only [Int.toNat_natCast, hz1, Nat.mul_one] at h
  exact h
theorem madeT (c N : Nat) (w : World) (hN : N ≤ w.heap.size) (hc : c ≤ 35184372088832) : (w.alloc (.cells (madeCells #[.int .i64 0] c) 3)).ownsRow N 3 1 (.slice (some ⟨w.heap.size, 0, none⟩) c c) c (I64 (List.replicate c 0)) := by
  have h := World.ownsRow_lit (base := N) (e := 3) (size := 1) w (madeCells #[.int .i64 0] c) c hN (by unfold maxLen; omega) (by rw [size_madeCells]; omega)
  rw [toList_madeCells_one] at h
  simpa [I64] using h
theorem mark71 {tx : List Int} {tn : Nat} (h : tn = tx.length) : (I64 (tx ++ [-71, -72]))[tn]? = some (.int .i64 (-71)) := by
  subst h; simp [I64]
theorem mark72 {tx : List Int} {tn : Nat} (h : tn = tx.length) : (I64 (tx ++ [-71, -72]))[tn + 1]? = some (.int .i64 (-72)) := by
  subst h; simp [I64]
theorem marks2 {tx : List Int} {tn : Nat} (h : tn = tx.length) : ((I64 (tx ++ [0, 0])).set tn (.int .i64 (-71))).set (tn + 1) (.int .i64 (-72)) = I64 (tx ++ [-71, -72]) := by
  subst h
  simp only [I64, List.map_append]
  rw [List.set_append_right _ _ (by simp), List.set_append_right _ _ (by simp)]
  simp
/-- the lent text can be read -/
theorem row_text {w : World} {N n c tb : Nat} {l : List Int} {y : List Int} (hn : n = l.length) (h : w.ownsRow N 3 1 (.slice (some ⟨tb, 0, none⟩) (n + 2) c) (n + 2) (I64 (l ++ y))) (hl : n ≤ 17592186043904) : TextAt w.heap.size w (some ⟨tb, 0, none⟩) n l := by
  refine ⟨hn, by omega, .inr ⟨tb, 0, rfl, (h.lt tb rfl).2, fun k hk => ?_⟩⟩
  rw [Nat.zero_add, h.cellAt k (by omega)]
  simp only [I64, List.map_append]
  rw [List.getElem?_append_left (by simp; omega)]
  simp [List.getD_eq_getElem?_getD, show k < l.length by omega]
theorem run_copy_one0 (w : World) (dT sT ty elem : TypeId) (d a : Option Addr) (dLen dCap sLen sCap : Nat) (hu : Try.prog.underlying dT = some (.slice elem)) (hs : (Try.prog.info? elem).map (·.size) = some 1) (hn : Nat.min sLen dLen = 0) :
    (Builtin.copy_ #[dT, sT] ty #[.slice d dLen dCap, .slice a sLen sCap]).run Try.prog w = .ok (goInt 0) w := by
  cases hq : Try.prog.info? elem with
  | none => simp [hq] at hs
  | some i =>
    have hl : ∀ (x : Addr), (loadCells x 0).run Try.prog w = .ok #[] w := fun x => by simpa using run_loadCells_list (P := Try.prog) w x [] (by simp)
    cases d <;> cases a <;> simp [Builtin.copy_, run_underlying hu, Builtin.lenOf, Builtin.firstCells, sizeOf, typeInfo, hq, hn, storeCells, hl]
theorem copyT {W : World} {N tb tn tc : Nat} {tad : Option Addr} {tx : List Int} (hT : TextAt W.heap.size W tad tn tx) (ho : W.ownsRow N 3 1 (.slice (some ⟨tb, 0, none⟩) (tn + 2) (tn + 2)) (tn + 2) (I64 (List.replicate (tn + 2) 0))) :
    ∃ W2, (Builtin.copy_ #[25, 25] 3 #[.slice (some ⟨tb, 0, none⟩) (tn + 2) (tn + 2), .slice tad tn tc]).run Try.prog W = .ok (.int .i64 (tn : Int)) W2 ∧ W2.ownsRow N 3 1 (.slice (some ⟨tb, 0, none⟩) (tn + 2) (tn + 2)) (tn + 2) (I64 (tx ++ [0, 0])) ∧ Chg W W2 [tb] [tb] := by
  obtain ⟨h1, h2, h0 | ⟨b, o, rfl, hb, hc⟩⟩ := hT
  · have htx : tx = [] := List.length_eq_zero_iff.1 (by omega)
    subst htx
    subst h0
    refine ⟨W, ?_, by simpa using ho, Chg.refl _ _⟩
    have := run_copy_one0 W 25 25 3 3 (some ⟨tb, 0, none⟩) tad (0 + 2) (0 + 2) 0 tc Try.underlying25 size3 (by simp)
    simpa [goInt] using this
  · have hl : (I64 tx).length = tn := by simp [I64]; omega
    have h := run_copy_cells (P := Try.prog) W 25 25 3 3 tb 0 (tn + 2) (tn + 2) ⟨b, o, none⟩ tn tc (I64 tx) Try.underlying25 size3 (by rw [hl]; simp) (fun j v hj => by
      have hjl := (List.getElem?_eq_some_iff.1 hj).1
      rw [Addr.add_mid, hc j (by omega), ← hj]
      simp [I64, List.getD_eq_getElem?_getD, show j < tx.length by omega]) (fun j hj => by
      rw [Nat.zero_add, ho.cellAt j (by omega), List.getElem?_eq_getElem (by simp [I64]; omega)]; rfl) (fun j hj => by rw [Nat.zero_add]; exact ho.frozenAt j) (one_cell_ints tx)
    rw [hl] at h
    refine ⟨W.setCells tb 0 (I64 tx), by simpa [goInt] using h, ?_, ?_⟩
    · have h3 := row_setCells (I64 tx) 0 W _ ho (by rw [hl]; simp [I64])
      rw [Nat.zero_add, List.take_zero, List.nil_append, hl] at h3
      have e : I64 tx ++ (I64 (List.replicate (tn + 2) 0)).drop tn = I64 (tx ++ [0, 0]) := by
        simp only [I64, List.map_append, List.map_replicate]
        rw [List.drop_replicate, show tn + 2 - tn = 2 by omega]
        rfl
      rw [e] at h3
      exact h3
    · exact setCells_chg (w' := W) tb (by simp) (I64 tx) 0 W (Chg.refl _ _)
set_option maxRecDepth 100000 in
set_option maxHeartbeats 8000000 in
theorem lentText8 {w : World} {tad : Option Addr} {tn tc : Nat} {tx : List Int} (hT : TextAt w.heap.size w tad tn tx) (htn : tn ≤ 17592186043904) :
    Calls Try.prog 8 #[.slice tad tn tc] w fun e w' => ∃ tb, e = .returned (.slice (some ⟨tb, 0, none⟩) tn (tn + 2)) ∧ w'.ownsRow w.heap.size 3 1 (.slice (some ⟨tb, 0, none⟩) (tn + 2) (tn + 2)) (tn + 2) (I64 (tx ++ [-71, -72])) ∧ Below w.heap.size w w' := by
  have htl : tn = tx.length := hT.1
  have hmk := makeT (tn + 2) (by omega) w
  have hr0 := madeT (tn + 2) w.heap.size w (Nat.le_refl _) (by omega)
  obtain ⟨M, hM⟩ : ∃ M, M = w.alloc (.cells (madeCells #[.int .i64 0] (tn + 2)) 3) := ⟨_, rfl⟩
  obtain ⟨tb, htb⟩ : ∃ tb, tb = w.heap.size := ⟨_, rfl⟩
  have hbM : Below w.heap.size w M := by rw [hM]; exact Joins.below_alloc1 w _
  rw [← hM, ← htb] at hmk hr0
  rw [show ((tn + 2 : Nat) : Int) = (tn : Int) + 2 by omega] at hmk
  obtain ⟨M2, hcp, hrow2, hch2⟩ := copyT (tc := tc) ((hT.below hbM).mono hbM.size) hr0
  have hst := row_setC (row_setC hrow2 tn (.int .i64 (-71))) (tn + 1) (.int .i64 (-72))
  rw [marks2 htl] at hst
  have d0 := (row_there hrow2 (j := tn) (m := 1) (by omega) 0 (by omega))
  rw [Nat.add_zero] at d0
  obtain ⟨v0, hv0⟩ := Option.isSome_iff_exists.1 d0.1
  have f0 := d0.2
  obtain ⟨M3, hM3⟩ : ∃ M3, M3 = M2.setCell ⟨tb, tn, none⟩ (.int .i64 (-71)) := ⟨_, rfl⟩
  obtain ⟨M4, hM4⟩ : ∃ M4, M4 = M3.setCell ⟨tb, tn + 1, none⟩ (.int .i64 (-72)) := ⟨_, rfl⟩
  have d1 := row_there (row_setC hrow2 tn (.int .i64 (-71))) (j := tn + 1) (m := 1) (by omega) 0 (by omega)
  rw [Nat.add_zero, ← hM3] at d1
  obtain ⟨v1, hv1⟩ := Option.isSome_iff_exists.1 d1.1
  have f1 := d1.2
  have hch4 : Chg M M4 [tb] [tb] := by rw [hM4, hM3]; exact (hch2.set (a := ⟨tb, tn, none⟩) _ (by simp)).set (a := ⟨tb, tn + 1, none⟩) _ (by simp)
  have hbT : Below w.heap.size M M4 := hch4.below hbM.size (by simp; omega)
  rw [← hM3, ← hM4] at hst
  have HST := hid hst
  have HB := hid (hbM.trans hbT)
  have HM3 := hid hM3
  have HM4 := hid hM4
  have HTB := hid htb
  have a2 : IntKind.i64.wrap ((tn : Int) + 2) = (tn : Int) + 2 := wrap_ok _ (by omega) (by omega)
  have a1 : IntKind.i64.wrap ((tn : Int) + 1) = (tn : Int) + 1 := wrap_ok _ (by omega) (by omega)
  have b1 : (tn : Int) < (tn : Int) + 2 := by omega
  have b2 : (tn : Int) + 1 < (tn : Int) + 2 := by omega
  have b3 : (tn : Int) ≤ (tn : Int) + 2 := by omega
  clear hT htl hr0 hM htb hbM hrow2 hch2 hst d0 d1 hch4 hbT hM3 hM4
  go_enter Try.func8, Try.ntmps8
  go_upto_region 2 with fail
  clear hmk
  go_upto_region 3 with fail
  clear hcp
  go_upto_region 4 with fail
  rw [← HM3.out]
  clear hv0 f0
  go_upto_region 5 with fail
  rw [← HM4.out]
  clear hv1 f1
  go_wp2
  go_ret
  exact ⟨tb, rfl, by rw [← HTB.out]; exact HST.out, HB.out⟩
set_option maxRecDepth 100000 in
set_option maxHeartbeats 8000000 in
theorem keptText12 {w : World} {tad : Option Addr} {tn tc tb : Nat} {N : Nat} {tx : List Int} (hR : w.ownsRow N 3 1 (.slice (some ⟨tb, 0, none⟩) (tn + 2) (tn + 2)) (tn + 2) (I64 (tx ++ [-71, -72]))) (hT : TextAt w.heap.size w tad tn tx) (htn : tn ≤ 17592186043904) :
    Calls Try.prog 12 #[.slice (some ⟨tb, 0, none⟩) tn (tn + 2), .slice tad tn tc] w fun e w' => e = .returned (.bool true) ∧ Below w.heap.size w w' := by
  have htl : tn = tx.length := hT.1
  have a2 : IntKind.i64.wrap ((tn : Int) + 2) = (tn : Int) + 2 := wrap_ok _ (by omega) (by omega)
  have a1 : IntKind.i64.wrap ((tn : Int) + 1) = (tn : Int) + 1 := wrap_ok _ (by omega) (by omega)
  have b1 : (tn : Int) < (tn : Int) + 2 := by omega
  have b2 : (tn : Int) + 1 < (tn : Int) + 2 := by omega
  have b3 : (0 : Int) ≤ (tn : Int) + 2 := by omega
  have b4 : (tn : Int) + 2 ≤ (tn : Int) + 2 := by omega
  have HR := hid hR
  have HT := hid hT
  have HTL := hid htl
  clear hR hT htl
  go_enter Try.func12, Try.ntmps12
  go_wp2_with fail
  go_loopw [6] (fun s6 wr => ∃ i : Nat, s6 = .int .i64 (i : Int) ∧ i ≤ tn ∧ Hid (Eqw w wr)) (fun s6 _ => tn - (intOf s6).toNat)
  case atStart => exact ⟨0, rfl, by omega, Eqw.refl' _⟩
  case round =>
    obtain ⟨i, rfl, hi, HE⟩ := hrel
    by_cases hil : i < tn
    · have c1 : decide ((i : Int) < (tn : Int)) = true := by simp; omega
      have c2 : (i : Int) < (tn : Int) := by omega
      have c3 : (i : Int) < (tn : Int) + 2 := by omega
      have ad1 : IntKind.i64.wrap ((i : Int) + 1) = (i : Int) + 1 := wrap_ok _ (by omega) (by omega)
      obtain ⟨h1, h2, h0 | ⟨b, o, rfl, hb, hc⟩⟩ := HT.out
      · omega
      · have k0 : wr.cell? ⟨b, o + i, none⟩ = some (.int .i64 (tx.getD i 0)) := (cell_eq (HE.out.blk b) _).trans (hc i (by omega))
        have k1 : wr.cell? ⟨tb, i, none⟩ = some (.int .i64 (tx.getD i 0)) := (cell_eq (HE.out.blk tb) _).trans ((HR.out.cellAt i (by omega)).trans (by
          simp only [I64, List.map_append]
          rw [List.getElem?_append_left (by simp; omega)]
          simp [List.getD_eq_getElem?_getD, show i < tx.length by omega]))
        obtain ⟨v, hv⟩ : ∃ v, v = tx.getD i 0 := ⟨_, rfl⟩
        rw [← hv] at k0 k1
        clear hv hc h1 h2 hb
        go_wp2_with (go_quiet (fail))
        exact ⟨⟨i + 1, by push_cast; rfl, by omega, HE.out.trans (Eqw.drewN _ _)⟩, by simp [intOf]; omega⟩
    · have c1 : decide ((i : Int) < (tn : Int)) = false := by simp; omega
      have c2 : ¬ ((i : Int) < (tn : Int)) := by omega
      have t71 : wr.cell? ⟨tb, tn, none⟩ = some (.int .i64 (-71)) := (cell_eq (HE.out.blk tb) _).trans ((HR.out.cellAt tn (by omega)).trans (mark71 HTL.out))
      have t72 : wr.cell? ⟨tb, tn + 1, none⟩ = some (.int .i64 (-72)) := (cell_eq (HE.out.blk tb) _).trans ((HR.out.cellAt (tn + 1) (by omega)).trans (mark72 HTL.out))
      go_wp2
      all_goals go_ret
      all_goals exact ⟨rfl, HE.out.below _⟩
set_option maxRecDepth 100000 in
set_option maxHeartbeats 8000000 in
theorem kept11 {w : World} {ad ad2 : Option Addr} {n c c2 : Nat} {l : List In} {MS : List Iv} {s k : Int} {base : Nat} (h : PL w base ad n c l MS) (hP2 : PI w w.heap.size ad2 n l) (hn : n * 56 ≤ 140737488351232) :
    Calls Try.prog 11 #[pv ad n c s k, pv ad2 n c2 s k] w fun e w' => e = .returned (.bool true) ∧ Below w.heap.size w w' := by
  obtain ⟨gz, rfl, hc1, hc2⟩ := h.blk
  obtain ⟨U, hU⟩ : ∃ U, U = (w.alloc (.cells #[.slice (some ⟨gz, 0, none⟩) n c, .int .i64 s, .int .i64 k] 24)).alloc (.cells #[.slice ad2 n c2, .int .i64 s, .int .i64 k] 24) := ⟨_, rfl⟩
  have hb : Below w.heap.size w U := by rw [hU]; exact below_two' w _ _
  have hX : U.heap[w.heap.size]? = some (.cells #[.slice (some ⟨gz, 0, none⟩) n c, .int .i64 s, .int .i64 k] 24 (0, 0)) := by rw [hU]; exact (heap_alloc_old _ _ (by simp)).trans (heap_alloc_new w _)
  have hY : U.heap[w.heap.size + 1]? = some (.cells #[.slice ad2 n c2, .int .i64 s, .int .i64 k] 24 (0, 0)) := by rw [hU]; exact two_new w _ _ _
  have hyU : w.heap.size + 1 < U.heap.size := (Array.getElem?_eq_some_iff.1 hY).1
  have hPU := h.below hb
  have hP2U := hP2.kept hb hb.size
  have HSA := same11 (c := c) (c' := c2) (s := s) (k := k) hPU.pi hP2U (by omega)
  have HL := hid h.len
  have HP := hid hPU
  have HB := hid hb
  have HP2 := hid hP2U
  have HMS := hid h.lms
  have ad3 : IntKind.i64.wrap ((n : Int) + 1) = (n : Int) + 1 := wrap_ok _ (by omega) (by omega)
  obtain ⟨x, hx⟩ : ∃ x, x = w.heap.size := ⟨_, rfl⟩
  obtain ⟨y, hy⟩ : ∃ y, y = w.heap.size + 1 := ⟨_, rfl⟩
  rw [← hx] at hX HB
  rw [← hy] at hY hyU
  have hxy : x < y := by omega
  have HX := hid hX
  have HY := hid hY
  obtain ⟨p0, p1, p2⟩ := three_cells hX
  obtain ⟨q0, q1, q2⟩ := three_cells hY
  have HXE := hid hx
  have u1 : (0 : Int) ≤ (n : Int) + 1 := by omega
  have u2 : (n : Int) + 1 ≤ (c : Int) := by omega
  have u3 : (n : Int) < (n : Int) + 1 := by omega
  clear h hP2 hb hPU hP2U hX hY
  go_enter Try.func11, Try.ntmps11
  go_upto_region 1 with fail
  rw [← hU, ← hy, ← hx]
  clear hU hy hx
  go_upto_region 4 with (go_at_call 23; (with_reducible refine HSA.mono ?_); rintro e w1 ⟨rfl, hb1⟩; have HB1 := hid hb1; obtain ⟨f0, f1, f2⟩ := three_cells ((hb1.block x (by omega)).trans HX.out); obtain ⟨g0, g1, g2⟩ := three_cells ((hb1.block y hyU).trans HY.out); clear hb1 HSA p0 p1 p2 q0 q1 q2)
  go_wp2_with fail
  clear f0 f1 f2 g0 g1 g2
  go_loopw [7] (fun s7 wq => ∃ i : Nat, s7 = .int .i64 (i : Int) ∧ i ≤ n ∧ Hid (Below U.heap.size U wq)) (fun s7 _ => n - (intOf s7).toNat)
  case atStart => exact ⟨0, rfl, by omega, HB1.out⟩
  case round =>
    clear HB1
    obtain ⟨i, rfl, hi, BK⟩ := hrel
    obtain ⟨g0, g1, g2⟩ := three_cells ((BK.out.block y hyU).trans HY.out)
    by_cases hil : i < n
    · have b1 : decide ((i : Int) < (n : Int)) = true := by simp; omega
      have b2 : (i : Int) < (n : Int) := by omega
      have b3 : (i : Int) < (n : Int) + 1 := by omega
      have ad1 : IntKind.i64.wrap ((i : Int) + 1) = (i : Int) + 1 := wrap_ok _ (by omega) (by omega)
      have hlt : i < l.length := by have := HL.out; omega
      have hPq := HP.out.below BK.out
      have hI5 := hPq.at5 i hil
      have hO := hPq.lo i hlt
      obtain ⟨N, hN⟩ : ∃ N, N = MS.getD i default := ⟨_, rfl⟩
      rw [← hN] at hI5 hO
      obtain ⟨g, e, h1, h2⟩ := hO.blk
      obtain ⟨op, xx, yy, aa, r1, r2, r3⟩ := N
      dsimp only at e h1 h2
      subst e
      have hlen : r2 = l[i].R.length := hO.len
      have hsm : r2 * 16 ≤ 140737488351232 := hO.sm
      have hrr := hO.rr
      dsimp only at hrr
      have hmm := O2_marks l[i].R
      rw [← hlen] at hrr hmm h1
      have k0 : wr.cell? ⟨g, r2 * 2, none⟩ = some (.int .i64 (-77)) := (hrr.cellAt (r2 * 2) (by omega)).trans hmm
      unfold I5 at hI5
      simp only [Nat.zero_add] at hI5
      obtain ⟨n0, n1, n2, n3, n4⟩ := hI5
      obtain ⟨pb, po, ND, hpa, hpb, hcs⟩ := HP2.out.mem (by omega)
      subst hpa
      obtain ⟨h5, hIM⟩ := hcs i hlt
      have h5' := h5.kept (BK.out.block pb hpb)
      obtain ⟨N0, hN0⟩ : ∃ N0, N0 = ND i := ⟨_, rfl⟩
      rw [← hN0] at h5' hIM
      obtain ⟨op', xx', yy', aa', r1', r2', r3'⟩ := N0
      have hl2 : r2' = l[i].R.length := hIM.len
      obtain rfl : r2' = r2 := by omega
      unfold I5 at h5'
      obtain ⟨m0, m1, m2, m3, m4⟩ := h5'
      have a2 : IntKind.i64.wrap ((r2' : Int) + 1) = (r2' : Int) + 1 := wrap_ok _ (by omega) (by omega)
      have u1 : (0 : Int) ≤ (r2' : Int) + 1 := by omega
      have u2 : (r2' : Int) + 1 ≤ (r3 : Int) := by omega
      have u3 : (r2' : Int) < (r2' : Int) + 1 := by omega
      clear hN hO hPq hrr hmm hlen hl2 hcs h5 hIM hN0
      go_wp2
      exact ⟨⟨i + 1, by push_cast; rfl, by omega, BK.out⟩, by simp [intOf]; omega⟩
    · have b1 : decide ((i : Int) < (n : Int)) = false := by simp; omega
      have hPq := HP.out.below BK.out
      have hm := insts_marks MS
      rw [HMS.out] at hm
      have m0 : wr.cell? ⟨gz, n * 5, none⟩ = some (.int .i64 (-77)) := (hPq.row.cellAt (n * 5) (by omega)).trans hm
      clear hPq hm
      go_wp2
      all_goals go_ret
      all_goals refine ⟨rfl, ?_⟩
      rw [← HXE.out]
      exact HB.out.trans (Joins.below_le BK.out (by omega))
end Go.Proofs.Ytodpmmlfdkdemaa
/- HELPERS: what a law's walk carries from world to world; answers as cells. -/
namespace Go.Proofs.Ytodpmmlfdkdemaa
open Go.RowKit Go.Lk
set_option linter.unusedVariables false
set_option linter.unusedSimpArgs false
/-- a box -/
def BX (W : World) (b : Nat) (cs : Array Value) (t : TypeId) : Prop := W.heap[b]? = some (.cells cs t (0, 0))
theorem BX.lt {W : World} {b : Nat} {cs : Array Value} {t : TypeId} (h : BX W b cs t) : b < W.heap.size := (Array.getElem?_eq_some_iff.1 h).1
theorem BX.kept {W W' : World} {b : Nat} {cs : Array Value} {t : TypeId} (h : BX W b cs t) (hb : Below W.heap.size W W') : BX W' b cs t := (hb.block b h.lt).trans h
theorem BX.new (W : World) (cs : Array Value) (t : TypeId) : BX (W.alloc (.cells cs t)) W.heap.size cs t := heap_alloc_new W _
theorem own_b {W W' : World} {N e size n : Nat} {v : Value} {xs : List Value} (h : W.ownsRow N e size v n xs) (hb : Below W.heap.size W W') : W'.ownsRow N e size v n xs := row_kept h (fun b hb' => hb.block b (h.lt b hb').2)
theorem pi_b {W W' : World} {ad : Option Addr} {n : Nat} {l : List In} (h : PI W W.heap.size ad n l) (hb : Below W.heap.size W W') : PI W' W'.heap.size ad n l := h.kept hb hb.size
theorem tx_b {W W' : World} {ad : Option Addr} {n : Nat} {l : List Int} (h : TextAt W.heap.size W ad n l) (hb : Below W.heap.size W W') : TextAt W'.heap.size W' ad n l := (h.below hb).mono hb.size
/-- an answer -/
structure An where
  ok : Bool
  wh : Int
  st : Int
  cl : List Int
  co : Int
def anR (r : Fd × Nat) : An := ⟨r.1.isSome, whF r.1, r.2, capsF r.1, 0⟩
def anE (c : Int) : An := ⟨false, 0, 0, [], c⟩
def FW (A : An) (w : World) (e : Ending) (w' : World) : Prop :=
  ∃ a1 n1 c1, e = .returned (.tuple #[.agg #[.bool A.ok, .slice a1 n1 c1, .int .i64 A.wh, .int .i64 A.st], .int .i64 A.co]) ∧ n1 = A.cl.length ∧ w'.ownsRow w.heap.size 3 1 (.slice a1 n1 c1) n1 (I64 A.cl) ∧ Below w.heap.size w w'
theorem own_len {w : World} {N n : Nat} {v : Value} {l : List Int} (h : w.ownsRow N 3 1 v n (I64 l)) : n = l.length := by have := h.1; simp [I64] at this; omega
theorem FE.fw {c : Int} {w w' : World} {e : Ending} (h : FE c w e w') : FW (anE c) w e w' := ⟨none, 0, 0, h.2, rfl, World.ownsRow_nil _ _ _ _, h.1⟩
theorem FR.fw {K : Nat} {r : Fd × Nat} {w w' : World} {e : Ending} (h : FR K r w e w') : FW (anR r) w e w' := by
  obtain ⟨h1, h2⟩ := h
  obtain ⟨fd, n⟩ := r
  cases fd with
  | none => exact ⟨none, 0, 0, h2, rfl, World.ownsRow_nil _ _ _ _, h1⟩
  | some y =>
    obtain ⟨g, h2, h3⟩ := h2
    exact ⟨_, _, _, h2, own_len h3, h3, h1⟩
/-- what a run answers, by the program, the text and the place: the document's and bitstate's -/
theorem bit_ans (l : List In) (tx : List Int) (s k a : Int) (anch : Bool) : ∃ A : An, A.cl.length ≤ 1002 ∧
    (∀ (w : World) ad n c tad tn tc, PI w w.heap.size ad n l → TextAt w.heap.size w tad tn tx → Calls Try.prog 6 #[pv ad n c s k, .slice tad tn tc, .int .i64 a, .bool anch] w (FW A w)) ∧
    (∀ (w : World) ad n c tad tn tc, PI w w.heap.size ad n l → TextAt w.heap.size w tad tn tx → Calls Try.prog 9 #[pv ad n c s k, .slice tad tn tc, .int .i64 a, .bool anch] w (FW A w)) := by
  have key : ∀ (r : Fd) (m' : List Pt) (w : World) (e : Ending) (w' : World), RunC l tx s k a r m' w e w' → FW (if errB l s k tx.length a = 0 then anR (r, m'.length) else anE (errB l s k tx.length a)) w e w' := fun r m' w e w' h => by
    rcases h with ⟨h0, h⟩ | ⟨h0, h⟩
    · rw [if_pos h0]; exact h.fw
    · rw [if_neg h0]; exact h.fw
  by_cases he : errR l s k tx.length a = 0
  · obtain ⟨r, m', hd, hlk⟩ := bit_ex (tx := tx) anch he
    obtain ⟨h1, h2, h3, h4⟩ := errR_ok he
    have hmo := may_ok h2
    have hlen : (capsF r).length ≤ 1002 := by
      obtain ⟨S, rfl⟩ := Int.eq_ofNat_of_zero_le hmo.2.1
      obtain ⟨K, rfl⟩ := Int.eq_ofNat_of_zero_le (show 0 ≤ k by omega)
      have h5 := FA.len (K := K) (len := tx.length) (a := a.toNat) (anch := anch) (pr_ok (tx := tx) h2)
      rw [show (prOf l tx S K) = prOf l tx (S : Int).toNat (K : Int).toNat from rfl, hlk] at h5
      have : (prOf l tx (S : Int).toNat (K : Int).toNat).K = K := rfl
      omega
    refine ⟨_, ?_, fun w ad n c tad tn tc hP hT => (run6 hP hT (fun _ => hd)).mono (key r m' w), fun w ad n c tad tn tc hP hT => (run9 hP hT (fun _ => hd)).mono (key r m' w)⟩
    split
    · exact hlen
    · simp [anE]
  · refine ⟨_, ?_, fun w ad n c tad tn tc hP hT => (run6 hP hT (fun h => absurd h he)).mono (key none [] w), fun w ad n c tad tn tc hP hT => (run9 hP hT (fun h => absurd h he)).mono (key none [] w)⟩
    split
    · simp [anR, capsF]
    · simp [anE]
theorem same10' {w : World} {A : An} {a1 a2 : Option Addr} {n1 c1 n2 c2 : Nat} {N1 N2 : Nat} (h1 : w.ownsRow N1 3 1 (.slice a1 n1 c1) n1 (I64 A.cl)) (h2 : w.ownsRow N2 3 1 (.slice a2 n2 c2) n2 (I64 A.cl)) (hl : A.cl.length ≤ 1002) :
    Calls Try.prog 10 #[.agg #[.bool A.ok, .slice a1 n1 c1, .int .i64 A.wh, .int .i64 A.st], .agg #[.bool A.ok, .slice a2 n2 c2, .int .i64 A.wh, .int .i64 A.st]] w fun e w' => e = .returned (.bool true) ∧ Below w.heap.size w w' :=
  same10 (IR.row h1) (IR.row h2) (by omega)
theorem six_cells {w : World} {b : Nat} {v0 v1 v2 v3 v4 v5 : Value} {t : TypeId} {fr : Nat × Nat} (h : w.heap[b]? = some (.cells #[v0, v1, v2, v3, v4, v5] t fr)) : w.cell? ⟨b, 0, none⟩ = some v0 ∧ w.cell? ⟨b, 1, none⟩ = some v1 ∧ w.cell? ⟨b, 2, none⟩ = some v2 ∧ w.cell? ⟨b, 3, none⟩ = some v3 ∧ w.cell? ⟨b, 4, none⟩ = some v4 ∧ w.cell? ⟨b, 5, none⟩ = some v5 :=
  ⟨Joins.cell_of_block h 0, Joins.cell_of_block h 1, Joins.cell_of_block h 2, Joins.cell_of_block h 3, Joins.cell_of_block h 4, Joins.cell_of_block h 5⟩
theorem BX.chg {W W' : World} {N tb n : Nat} {v : Value} {xs : List Value} {b : Nat} {cs : Array Value} {t : TypeId} (h : BX W b cs t) (hc : Chg W W' [tb] [tb]) (ho : W.ownsRow N 3 1 v n xs) (hv : v.ownBlock = some tb) (ht : t ≠ 3) : BX W' b cs t := by
  refine (hc.block b h.lt ?_).trans h
  simp only [List.mem_singleton]
  intro e
  exact own_ne ho h ht (by rw [e]; exact hv)
theorem own_chg {W W' : World} {tb N n : Nat} {v : Value} {xs : List Value} (h : W.ownsRow N 3 1 v n xs) (hc : Chg W W' [tb] [tb]) (hN : tb < N) : W'.ownsRow N 3 1 v n xs := row_kept h (fun b hb => hc.block b (h.lt b hb).2 (by simp only [List.mem_singleton]; have := (h.lt b hb).1; omega))
theorem PL.chg {W W' : World} {tb NB n c N tn : Nat} {ad : Option Addr} {l : List In} {MS : List Iv} {v : Value} {xs : List Value} (h : PL W NB ad n c l MS) (hc : Chg W W' [tb] [tb]) (ho : W.ownsRow N 3 1 v tn xs) (hv : v.ownBlock = some tb) : PL W' NB ad n c l MS :=
  ⟨h.len, h.lms, row_kept h.row (fun b hb => hc.block b (h.row.lt b hb).2 (by simp only [List.mem_singleton]; intro e; exact own_apart h.row ho (by decide) hb (by rw [e]; exact hv))), fun j hj => by
    have hO := h.lo j hj
    exact ⟨hO.op, hO.x, hO.y, hO.a, hO.len, hO.sm, row_kept hO.rr (fun b hb => hc.block b (hO.rr.lt b hb).2 (by simp only [List.mem_singleton]; intro e; exact own_apart hO.rr ho (by decide) hb (by rw [e]; exact hv))), hO.ne⟩, h.pw⟩
/-- four rows that came out -/
def rows4 (a b c d : Value) : Nat → Value
  | 0 => a
  | 1 => b
  | 2 => c
  | _ => d
def lens4 (a b c d : Nat) : Nat → Nat
  | 0 => a
  | 1 => b
  | 2 => c
  | _ => d
theorem four_lt {p : Nat → Prop} (h0 : p 0) (h1 : p 1) (h2 : p 2) (h3 : p 3) : ∀ j, j < 4 → p j := fun j hj => by
  match j, hj with
  | 0, _ => exact h0
  | 1, _ => exact h1
  | 2, _ => exact h2
  | 3, _ => exact h3
theorem owned_four {W : World} {B N1 T1 N2 T2 N3 T3 N4 g : Nat} {va vb vc vd : Value} {na nb nc nd : Nat} {la lb lc ld : List Int} (hg : BX W g #[va, vb, vc, vd] 25) (hs : B ≤ W.heap.size) (hB : B ≤ N1) (h12 : T1 ≤ N2) (h23 : T2 ≤ N3) (h34 : T3 ≤ N4)
    (la' : ∀ b, va.ownBlock = some b → N1 ≤ b ∧ b < T1) (lb' : ∀ b, vb.ownBlock = some b → N2 ≤ b ∧ b < T2) (lc' : ∀ b, vc.ownBlock = some b → N3 ≤ b ∧ b < T3) (hN1 : N1 ≤ T1) (hN2 : N2 ≤ T2) (hN3 : N3 ≤ T3)
    (ra : W.ownsRow N1 3 1 va na (I64 la)) (rb : W.ownsRow N2 3 1 vb nb (I64 lb)) (rc : W.ownsRow N3 3 1 vc nc (I64 lc)) (rd : W.ownsRow N4 3 1 vd nd (I64 ld)) (hl : na ≤ 1002 ∧ nb ≤ 1002 ∧ nc ≤ 1002 ∧ nd ≤ 1002) :
    Calls Try.prog 13 #[.slice (some ⟨g, 0, none⟩) 4 4] W fun e w' => e = .returned (.bool true) ∧ Below B W w' := by
  have ld' : ∀ b, vd.ownBlock = some b → N4 ≤ b ∧ b < W.heap.size := fun b hb => rd.lt b hb
  have lgt : ∀ v : Value, ∀ N n (l : List Int), W.ownsRow N 3 1 v n (I64 l) → v.ownBlock ≠ some g := fun v N n l h => own_ne h hg (by decide)
  have lo4 : ∀ j, j < 4 → ∀ b, (rows4 va vb vc vd j).ownBlock = some b → B ≤ b ∧ b < W.heap.size := four_lt (fun b hb => ⟨by have := (la' b hb).1; omega, (ra.lt b hb).2⟩) (fun b hb => ⟨by have := (lb' b hb).1; omega, (rb.lt b hb).2⟩) (fun b hb => ⟨by have := (lc' b hb).1; omega, (rc.lt b hb).2⟩) (fun b hb => ⟨by have := (ld' b hb).1; omega, (ld' b hb).2⟩)
  refine owned13 B g 4 4 (rows4 va vb vc vd) (lens4 na nb nc nd) W (by omega) ⟨hg.lt, hs, ?_, ?_, lo4, fun j => rfl⟩ ?_ ?_ ?_
  · intro i j hi hj hij b hb hb'
    have key : ∀ i, i < 4 → ∀ b, (rows4 va vb vc vd i).ownBlock = some b → lens4 N1 N2 N3 N4 i ≤ b ∧ (i < 3 → b < lens4 N2 N3 N4 0 i) := four_lt (fun b hb => ⟨(la' b hb).1, fun _ => by have := (la' b hb).2; show b < N2; omega⟩) (fun b hb => ⟨(lb' b hb).1, fun _ => by have := (lb' b hb).2; show b < N3; omega⟩) (fun b hb => ⟨(lc' b hb).1, fun _ => by have := (lc' b hb).2; show b < N4; omega⟩) (fun b hb => ⟨(ld' b hb).1, fun h => by omega⟩)
    have mono : ∀ i, i < 4 → ∀ j, j < 4 → i < j → lens4 N2 N3 N4 0 i ≤ lens4 N1 N2 N3 N4 j := by
      intro i hi j hj hlt
      rcases (show i = 0 ∨ i = 1 ∨ i = 2 by omega) with rfl | rfl | rfl
      · rcases (show j = 1 ∨ j = 2 ∨ j = 3 by omega) with rfl | rfl | rfl <;> (simp only [lens4]; omega)
      · rcases (show j = 2 ∨ j = 3 by omega) with rfl | rfl <;> (simp only [lens4]; omega)
      · rcases (show j = 3 by omega) with rfl; simp only [lens4]; omega
    have h1 := key i hi b hb
    have h2 := key j hj b hb'
    rcases Nat.lt_or_gt_of_ne hij with h | h
    · have := mono i hi j hj h
      have := h1.2 (by omega)
      omega
    · have := mono j hj i hi h
      have := h2.2 (by omega)
      omega
  · exact four_lt (lgt _ _ _ _ ra) (lgt _ _ _ _ rb) (lgt _ _ _ _ rc) (lgt _ _ _ _ rd)
  · exact four_lt ⟨_, ra.mono hB⟩ ⟨_, rb.mono (by omega)⟩ ⟨_, rc.mono (by omega)⟩ ⟨_, rd.mono (by omega)⟩
  · exact four_lt (Joins.cell_of_block hg 0) (Joins.cell_of_block hg 1) (Joins.cell_of_block hg 2) (Joins.cell_of_block hg 3)
  · exact four_lt (by show na ≤ _; omega) (by show nb ≤ _; omega) (by show nc ≤ _; omega) (by show nd ≤ _; omega)
def swp (v : Int) : Int := if v = 97 then 98 else 97
theorem fillS {tx : List Int} {tn i : Nat} (h : tn = tx.length) (hi : i < tn) : (I64 ((tx.take i).map swp ++ (tx.drop i ++ [-71, -72]))).set i (.int .i64 (swp (tx.getD i 0))) = I64 ((tx.take (i + 1)).map swp ++ (tx.drop (i + 1) ++ [-71, -72])) := by
  have hd : tx.drop i = tx[i]'(by omega) :: tx.drop (i + 1) := List.drop_eq_getElem_cons (by omega)
  have ht : tx.take (i + 1) = tx.take i ++ [tx[i]'(by omega)] := (List.take_append_getElem (by omega)).symm
  have hg : tx.getD i 0 = tx[i]'(by omega) := by simp [List.getD_eq_getElem?_getD, show i < tx.length by omega]
  rw [hd, ht, hg]
  simp only [I64, List.map_append, List.map_cons, List.map_nil]
  rw [List.set_append_right _ _ (by simp; omega)]
  simp only [List.length_map, List.length_take, Nat.min_eq_left (show i ≤ tx.length by omega), Nat.sub_self, List.cons_append, List.set_cons_zero, List.append_assoc, List.nil_append]
end Go.Proofs.Ytodpmmlfdkdemaa
/- HELPERS: the law BitstateRuns. Made by tools/gen_brun.py. -/
namespace Go.Proofs.Ytodpmmlfdkdemaa
open Go.RowKit Go.Lk
set_option linter.unusedVariables false
set_option linter.unusedSimpArgs false
theorem readS {tx : List Int} {tn i : Nat} (h : tn = tx.length) (hi : i < tn) : (I64 ((tx.take i).map swp ++ (tx.drop i ++ [-71, -72])))[i]? = some (.int .i64 (tx.getD i 0)) := by
  have hd : tx.drop i = tx[i]'(by omega) :: tx.drop (i + 1) := List.drop_eq_getElem_cons (by omega)
  have hg : tx.getD i 0 = tx[i]'(by omega) := by simp [List.getD_eq_getElem?_getD, show i < tx.length by omega]
  rw [hd, hg]
  simp only [I64, List.map_append, List.map_cons]
  rw [List.getElem?_append_right (by simp; omega)]
  simp [Nat.min_eq_left (show i ≤ tx.length by omega)]
set_option maxRecDepth 100000 in
set_option maxHeartbeats 32000000 in
theorem runs3 {w : World} {ad ad2 tad tad2 : Option Addr} {n c n2 c2 tn tc tn2 tc2 : Nat} {s k s2 k2 a a2 : Int} {anch anch2 : Bool} {l l2 : List In} {tx tx2 : List Int} (hP : PI w w.heap.size ad n l) (hP2 : PI w w.heap.size ad2 n2 l2) (hT : TextAt w.heap.size w tad tn tx) (hT2 : TextAt w.heap.size w tad2 tn2 tx2) (hn : n * 56 ≤ 140737488351232) (htn : tn ≤ 17592186043904) :
    Calls Try.prog 3 #[kv ad n c s k tad tn tc a anch, kv ad2 n2 c2 s2 k2 tad2 tn2 tc2 a2 anch2] w fun e w' => e = .returned (.bool true) ∧ Below w.heap.size w w' := by
  obtain ⟨B, hB⟩ : ∃ B, B = w.heap.size := ⟨_, rfl⟩
  have htl : tn = tx.length := hT.1
  obtain ⟨U, hU⟩ : ∃ U, U = (w.alloc (.cells #[.slice ad n c, .int .i64 s, .int .i64 k, .slice tad tn tc, .int .i64 a, .bool anch] 27)).alloc (.cells #[.slice ad2 n2 c2, .int .i64 s2, .int .i64 k2, .slice tad2 tn2 tc2, .int .i64 a2, .bool anch2] 27) := ⟨_, rfl⟩
  have hbU : Below w.heap.size w U := by rw [hU]; exact below_two' w _ _
  have q0 : U.heap[w.heap.size]? = some (.cells #[.slice ad n c, .int .i64 s, .int .i64 k, .slice tad tn tc, .int .i64 a, .bool anch] 27 (0, 0)) := by rw [hU]; exact (heap_alloc_old _ _ (by simp)).trans (heap_alloc_new w _)
  have q1 : U.heap[w.heap.size + 1]? = some (.cells #[.slice ad2 n2 c2, .int .i64 s2, .int .i64 k2, .slice tad2 tn2 tc2, .int .i64 a2, .bool anch2] 27 (0, 0)) := by rw [hU]; exact two_new w _ _ _
  obtain ⟨x0, hx0⟩ : ∃ x0, x0 = w.heap.size := ⟨_, rfl⟩
  obtain ⟨x1, hx1⟩ : ∃ x1, x1 = w.heap.size + 1 := ⟨_, rfl⟩
  rw [← hx0] at q0
  rw [← hx1] at q1
  have B0 : Hid (BX U x0 #[.slice ad n c, .int .i64 s, .int .i64 k, .slice tad tn tc, .int .i64 a, .bool anch] 27) := q0
  have B1 : Hid (BX U x1 #[.slice ad2 n2 c2, .int .i64 s2, .int .i64 k2, .slice tad2 tn2 tc2, .int .i64 a2, .bool anch2] 27) := q1
  have HP0 : Hid (PI w B ad n l) := by show PI w B ad n l; rw [hB]; exact hP
  have HP2 : Hid (PI w B ad2 n2 l2) := by show PI w B ad2 n2 l2; rw [hB]; exact hP2
  have HT0 : Hid (TextAt B w tad tn tx) := by show TextAt B w tad tn tx; rw [hB]; exact hT
  have HT2 : Hid (TextAt B w tad2 tn2 tx2) := by show TextAt B w tad2 tn2 tx2; rw [hB]; exact hT2
  have HTOT : Hid (Below B w U) := by show Below _ _ _; rw [hB]; exact hbU
  have HBE := hid hB
  have HTL := hid htl
  have HAW := awake5 U
  obtain ⟨A1, lenA1, h6, h9⟩ := bit_ans l tx s k a anch
  have R6_1 := hid h6
  have R9_1 := hid h9
  clear h6 h9
  obtain ⟨A2, lenA2, h6, h9⟩ := bit_ans l2 tx2 s2 k2 a2 anch2
  have R6_2 := hid h6
  have R9_2 := hid h9
  clear h6 h9
  obtain ⟨A3, lenA3, h6, h9⟩ := bit_ans l (tx.map swp) s k a anch
  have R6_3 := hid h6
  have R9_3 := hid h9
  clear h6 h9
  clear hP hP2 hT hT2 q0 q1 hbU htl
  go_enter Try.func3, Try.ntmps3
  go_upto_region 1 with fail
  rw [← hU, ← hx1, ← hx0]
  clear hU hx0 hx1 hB
  go_upto_region 2 with (go_at_call 5; (with_reducible refine HAW.mono ?_); rintro e w1 ⟨rfl, hb⟩; have HB1 := hid hb; clear hb HAW)
  have hsU : B ≤ U.heap.size := by have := HTOT.out.size; have := HBE.out; omega
  replace B0 : Hid (BX w1 x0 #[.slice ad n c, .int .i64 s, .int .i64 k, .slice tad tn tc, .int .i64 a, .bool anch] 27) := BX.kept B0.out HB1.out
  replace B1 : Hid (BX w1 x1 #[.slice ad2 n2 c2, .int .i64 s2, .int .i64 k2, .slice tad2 tn2 tc2, .int .i64 a2, .bool anch2] 27) := BX.kept B1.out HB1.out
  replace HTOT : Hid (Below B w w1) := HTOT.out.trans (Joins.below_le HB1.out hsU)
  clear HB1 hsU
  have hsw1 : B ≤ w1.heap.size := by have := HTOT.out.size; have := HBE.out; omega
  have HC := R6_1.out w1 _ _ c _ _ tc (HP0.out.kept HTOT.out hsw1) ((HT0.out.below HTOT.out).mono hsw1)
  obtain ⟨Nxw, hNxw⟩ : ∃ Nxw, Nxw = w1.heap.size := ⟨_, rfl⟩
  have HNxw := hid hNxw
  have hlexw : B ≤ Nxw := by omega
  clear hNxw
  obtain ⟨e0, e1, e2, e3, e4, e5⟩ := six_cells B0.out
  go_upto_region 3 with (go_at_call 6; (with_reducible refine HC.mono ?_); rintro e w2 ⟨rxw, nxw, cxw, rfl, hnn, hro, hb⟩; have Rxw := hid hro; have HB := hid hb; clear hnn hro hb HC e0 e1 e2 e3 e4 e5)
  obtain ⟨U2, hU2⟩ : ∃ U2, U2 = w2.alloc (.cells #[.bool A1.ok, .slice rxw nxw cxw, .int .i64 A1.wh, .int .i64 A1.st] 30) := ⟨_, rfl⟩
  obtain ⟨xw, hxw⟩ : ∃ xw, xw = w2.heap.size := ⟨_, rfl⟩
  rw [← hU2, ← hxw]
  have hbb : Below w2.heap.size w2 U2 := by rw [hU2]; exact Joins.below_alloc1 w2 _
  have BXxw : Hid (BX U2 xw #[.bool A1.ok, .slice rxw nxw cxw, .int .i64 A1.wh, .int .i64 A1.st] 30) := by show BX _ _ _ _; rw [hU2, hxw]; exact BX.new w2 _ _
  have HBV : Hid (Below w1.heap.size w1 U2) := HB.out.trans (Joins.below_le hbb HB.out.size)
  have HBB := hid hbb
  clear hU2 hxw hbb
  replace B0 : Hid (BX U2 x0 #[.slice ad n c, .int .i64 s, .int .i64 k, .slice tad tn tc, .int .i64 a, .bool anch] 27) := BX.kept B0.out HBV.out
  replace B1 : Hid (BX U2 x1 #[.slice ad2 n2 c2, .int .i64 s2, .int .i64 k2, .slice tad2 tn2 tc2, .int .i64 a2, .bool anch2] 27) := BX.kept B1.out HBV.out
  replace HTOT : Hid (Below B w U2) := HTOT.out.trans (Joins.below_le HBV.out hsw1)
  replace Rxw : Hid (U2.ownsRow Nxw 3 1 (.slice rxw nxw cxw) nxw (I64 A1.cl)) := by show World.ownsRow _ _ _ _ _ _ _; rw [HNxw.out]; exact own_b Rxw.out HBB.out
  clear HB HBB HBV hsw1
  have hsU2 : B ≤ U2.heap.size := by have := HTOT.out.size; have := HBE.out; omega
  have HC := R6_2.out U2 _ _ c2 _ _ tc2 (HP2.out.kept HTOT.out hsU2) ((HT2.out.below HTOT.out).mono hsU2)
  obtain ⟨Nxs, hNxs⟩ : ∃ Nxs, Nxs = U2.heap.size := ⟨_, rfl⟩
  have HNxs := hid hNxs
  have hlexs : B ≤ Nxs := by omega
  clear hNxs
  obtain ⟨e0, e1, e2, e3, e4, e5⟩ := six_cells B1.out
  go_upto_region 4 with (go_at_call 6; (with_reducible refine HC.mono ?_); rintro e w3 ⟨rxs, nxs, cxs, rfl, hnn, hro, hb⟩; have Rxs := hid hro; have HB := hid hb; clear hnn hro hb HC e0 e1 e2 e3 e4 e5)
  obtain ⟨U3, hU3⟩ : ∃ U3, U3 = w3.alloc (.cells #[.bool A2.ok, .slice rxs nxs cxs, .int .i64 A2.wh, .int .i64 A2.st] 30) := ⟨_, rfl⟩
  obtain ⟨xs, hxs⟩ : ∃ xs, xs = w3.heap.size := ⟨_, rfl⟩
  rw [← hU3, ← hxs]
  have hbb : Below w3.heap.size w3 U3 := by rw [hU3]; exact Joins.below_alloc1 w3 _
  have BXxs : Hid (BX U3 xs #[.bool A2.ok, .slice rxs nxs cxs, .int .i64 A2.wh, .int .i64 A2.st] 30) := by show BX _ _ _ _; rw [hU3, hxs]; exact BX.new w3 _ _
  have HBV : Hid (Below U2.heap.size U2 U3) := HB.out.trans (Joins.below_le hbb HB.out.size)
  have HBB := hid hbb
  clear hU3 hxs hbb
  replace B0 : Hid (BX U3 x0 #[.slice ad n c, .int .i64 s, .int .i64 k, .slice tad tn tc, .int .i64 a, .bool anch] 27) := BX.kept B0.out HBV.out
  replace B1 : Hid (BX U3 x1 #[.slice ad2 n2 c2, .int .i64 s2, .int .i64 k2, .slice tad2 tn2 tc2, .int .i64 a2, .bool anch2] 27) := BX.kept B1.out HBV.out
  replace BXxw : Hid (BX U3 xw #[.bool A1.ok, .slice rxw nxw cxw, .int .i64 A1.wh, .int .i64 A1.st] 30) := BX.kept BXxw.out HBV.out
  replace Rxw : Hid (U3.ownsRow Nxw 3 1 (.slice rxw nxw cxw) nxw (I64 A1.cl)) := own_b Rxw.out HBV.out
  replace HTOT : Hid (Below B w U3) := HTOT.out.trans (Joins.below_le HBV.out hsU2)
  replace Rxs : Hid (U3.ownsRow Nxs 3 1 (.slice rxs nxs cxs) nxs (I64 A2.cl)) := by show World.ownsRow _ _ _ _ _ _ _; rw [HNxs.out]; exact own_b Rxs.out HBB.out
  clear HB HBB HBV hsU2
  have hsU3 : B ≤ U3.heap.size := by have := HTOT.out.size; have := HBE.out; omega
  have HC := lent7 (c := c) (s := s) (k := k) (HP0.out.kept HTOT.out hsU3) hn
  obtain ⟨NB, hNB⟩ : ∃ NB, NB = U3.heap.size := ⟨_, rfl⟩
  rw [← hNB] at HC
  have HNB := hid hNB
  clear hNB
  obtain ⟨e0, e1, e2, e3, e4, e5⟩ := six_cells B0.out
  go_upto_region 5 with (go_at_call 7; (with_reducible refine HC.mono ?_); rintro e w5 ⟨gz, MS, rfl, hpl, hb⟩; have PLQ := hid hpl; have HB := hid hb; clear hpl hb HC e0 e1 e2 e3 e4 e5)
  replace HB : Hid (Below U3.heap.size U3 w5) := by show Below _ _ _; rw [← HNB.out]; exact HB.out
  obtain ⟨U5, hU5⟩ : ∃ U5, U5 = w5.alloc (.cells #[.slice (some ⟨gz, 0, none⟩) n (n + 1), .int .i64 s, .int .i64 k] 24) := ⟨_, rfl⟩
  obtain ⟨xq, hxq⟩ : ∃ xq, xq = w5.heap.size := ⟨_, rfl⟩
  rw [← hU5, ← hxq]
  have hbb : Below w5.heap.size w5 U5 := by rw [hU5]; exact Joins.below_alloc1 w5 _
  have BXxq : Hid (BX U5 xq #[.slice (some ⟨gz, 0, none⟩) n (n + 1), .int .i64 s, .int .i64 k] 24) := by show BX _ _ _ _; rw [hU5, hxq]; exact BX.new w5 _ _
  have HBV : Hid (Below U3.heap.size U3 U5) := HB.out.trans (Joins.below_le hbb HB.out.size)
  have HBB := hid hbb
  clear hU5 hxq hbb
  replace B0 : Hid (BX U5 x0 #[.slice ad n c, .int .i64 s, .int .i64 k, .slice tad tn tc, .int .i64 a, .bool anch] 27) := BX.kept B0.out HBV.out
  replace B1 : Hid (BX U5 x1 #[.slice ad2 n2 c2, .int .i64 s2, .int .i64 k2, .slice tad2 tn2 tc2, .int .i64 a2, .bool anch2] 27) := BX.kept B1.out HBV.out
  replace BXxw : Hid (BX U5 xw #[.bool A1.ok, .slice rxw nxw cxw, .int .i64 A1.wh, .int .i64 A1.st] 30) := BX.kept BXxw.out HBV.out
  replace Rxw : Hid (U5.ownsRow Nxw 3 1 (.slice rxw nxw cxw) nxw (I64 A1.cl)) := own_b Rxw.out HBV.out
  replace BXxs : Hid (BX U5 xs #[.bool A2.ok, .slice rxs nxs cxs, .int .i64 A2.wh, .int .i64 A2.st] 30) := BX.kept BXxs.out HBV.out
  replace Rxs : Hid (U5.ownsRow Nxs 3 1 (.slice rxs nxs cxs) nxs (I64 A2.cl)) := own_b Rxs.out HBV.out
  replace HTOT : Hid (Below B w U5) := HTOT.out.trans (Joins.below_le HBV.out hsU3)
  replace PLQ : Hid (PL U5 NB (some ⟨gz, 0, none⟩) n (n + 1) l MS) := PL.below PLQ.out HBB.out
  clear HB HBB HBV hsU3
  have hsU5 : B ≤ U5.heap.size := by have := HTOT.out.size; have := HBE.out; omega
  have HC := lentText8 (tc := tc) ((HT0.out.below HTOT.out).mono hsU5) htn
  obtain ⟨e0, e1, e2, e3, e4, e5⟩ := six_cells B0.out
  go_upto_region 6 with (go_at_call 8; (with_reducible refine HC.mono ?_); rintro e w6 ⟨tb, rfl, hro, hb⟩; have TR0 := hid (hro.mono hsU5); have HB := hid hb; clear hro hb HC e0 e1 e2 e3 e4 e5)
  replace B0 : Hid (BX w6 x0 #[.slice ad n c, .int .i64 s, .int .i64 k, .slice tad tn tc, .int .i64 a, .bool anch] 27) := BX.kept B0.out HB.out
  replace B1 : Hid (BX w6 x1 #[.slice ad2 n2 c2, .int .i64 s2, .int .i64 k2, .slice tad2 tn2 tc2, .int .i64 a2, .bool anch2] 27) := BX.kept B1.out HB.out
  replace BXxw : Hid (BX w6 xw #[.bool A1.ok, .slice rxw nxw cxw, .int .i64 A1.wh, .int .i64 A1.st] 30) := BX.kept BXxw.out HB.out
  replace Rxw : Hid (w6.ownsRow Nxw 3 1 (.slice rxw nxw cxw) nxw (I64 A1.cl)) := own_b Rxw.out HB.out
  replace BXxs : Hid (BX w6 xs #[.bool A2.ok, .slice rxs nxs cxs, .int .i64 A2.wh, .int .i64 A2.st] 30) := BX.kept BXxs.out HB.out
  replace Rxs : Hid (w6.ownsRow Nxs 3 1 (.slice rxs nxs cxs) nxs (I64 A2.cl)) := own_b Rxs.out HB.out
  replace PLQ : Hid (PL w6 NB (some ⟨gz, 0, none⟩) n (n + 1) l MS) := PL.below PLQ.out HB.out
  replace BXxq : Hid (BX w6 xq #[.slice (some ⟨gz, 0, none⟩) n (n + 1), .int .i64 s, .int .i64 k] 24) := BX.kept BXxq.out HB.out
  replace HTOT : Hid (Below B w w6) := HTOT.out.trans (Joins.below_le HB.out hsU5)
  clear HB hsU5
  have TR : Hid (w6.ownsRow B 3 1 (.slice (some ⟨tb, 0, none⟩) (tn + 2) (tn + 2)) (tn + 2) (I64 (tx ++ [-71, -72]))) := TR0.out
  clear TR0
  have htbB : B ≤ tb := (TR.out.lt tb rfl).1
  have hsw6 : B ≤ w6.heap.size := by have := HTOT.out.size; have := HBE.out; omega
  have HC := R9_1.out w6 _ _ (n + 1) _ _ (tn + 2) PLQ.out.pi (row_text HTL.out TR.out (by omega))
  obtain ⟨Nxa, hNxa⟩ : ∃ Nxa, Nxa = w6.heap.size := ⟨_, rfl⟩
  have HNxa := hid hNxa
  have hlexa : B ≤ Nxa := by omega
  have htbxa : tb < Nxa := by have := (TR.out.lt tb rfl).2; omega
  clear hNxa
  obtain ⟨e0, e1, e2, e3, e4, e5⟩ := six_cells B0.out
  obtain ⟨g0, g1, g2⟩ := three_cells BXxq.out
  go_upto_region 7 with (go_at_call 9; (with_reducible refine HC.mono ?_); rintro e w7 ⟨rxa, nxa, cxa, rfl, hnn, hro, hb⟩; have Rxa := hid hro; have HB := hid hb; clear hnn hro hb HC e0 e1 e2 e3 e4 e5 g0 g1 g2)
  obtain ⟨U7, hU7⟩ : ∃ U7, U7 = w7.alloc (.cells #[.bool A1.ok, .slice rxa nxa cxa, .int .i64 A1.wh, .int .i64 A1.st] 30) := ⟨_, rfl⟩
  obtain ⟨xa, hxa⟩ : ∃ xa, xa = w7.heap.size := ⟨_, rfl⟩
  rw [← hU7, ← hxa]
  have hbb : Below w7.heap.size w7 U7 := by rw [hU7]; exact Joins.below_alloc1 w7 _
  have BXxa : Hid (BX U7 xa #[.bool A1.ok, .slice rxa nxa cxa, .int .i64 A1.wh, .int .i64 A1.st] 30) := by show BX _ _ _ _; rw [hU7, hxa]; exact BX.new w7 _ _
  have HBV : Hid (Below w6.heap.size w6 U7) := HB.out.trans (Joins.below_le hbb HB.out.size)
  have HBB := hid hbb
  clear hU7 hxa hbb
  replace B0 : Hid (BX U7 x0 #[.slice ad n c, .int .i64 s, .int .i64 k, .slice tad tn tc, .int .i64 a, .bool anch] 27) := BX.kept B0.out HBV.out
  replace B1 : Hid (BX U7 x1 #[.slice ad2 n2 c2, .int .i64 s2, .int .i64 k2, .slice tad2 tn2 tc2, .int .i64 a2, .bool anch2] 27) := BX.kept B1.out HBV.out
  replace BXxw : Hid (BX U7 xw #[.bool A1.ok, .slice rxw nxw cxw, .int .i64 A1.wh, .int .i64 A1.st] 30) := BX.kept BXxw.out HBV.out
  replace Rxw : Hid (U7.ownsRow Nxw 3 1 (.slice rxw nxw cxw) nxw (I64 A1.cl)) := own_b Rxw.out HBV.out
  replace BXxs : Hid (BX U7 xs #[.bool A2.ok, .slice rxs nxs cxs, .int .i64 A2.wh, .int .i64 A2.st] 30) := BX.kept BXxs.out HBV.out
  replace Rxs : Hid (U7.ownsRow Nxs 3 1 (.slice rxs nxs cxs) nxs (I64 A2.cl)) := own_b Rxs.out HBV.out
  replace PLQ : Hid (PL U7 NB (some ⟨gz, 0, none⟩) n (n + 1) l MS) := PL.below PLQ.out HBV.out
  replace BXxq : Hid (BX U7 xq #[.slice (some ⟨gz, 0, none⟩) n (n + 1), .int .i64 s, .int .i64 k] 24) := BX.kept BXxq.out HBV.out
  replace TR : Hid (U7.ownsRow B 3 1 (.slice (some ⟨tb, 0, none⟩) (tn + 2) (tn + 2)) (tn + 2) (I64 (tx ++ [-71, -72]))) := own_b TR.out HBV.out
  replace HTOT : Hid (Below B w U7) := HTOT.out.trans (Joins.below_le HBV.out hsw6)
  replace Rxa : Hid (U7.ownsRow Nxa 3 1 (.slice rxa nxa cxa) nxa (I64 A1.cl)) := by show World.ownsRow _ _ _ _ _ _ _; rw [HNxa.out]; exact own_b Rxa.out HBB.out
  obtain ⟨Txa, hTxa⟩ : ∃ Txa, Txa = U7.heap.size := ⟨_, rfl⟩
  have Lxa : Hid (∀ b, (Value.slice rxa nxa cxa).ownBlock = some b → Nxa ≤ b ∧ b < Txa) := fun b hb => by have := Rxa.out.lt b hb; rw [hTxa]; exact this
  have NTxa : Nxa ≤ Txa := by have := HBV.out.size; have := HNxa.out; omega
  have HTxa := hid hTxa
  clear hTxa
  clear HB HBB HBV hsw6
  have hsU7 : B ≤ U7.heap.size := by have := HTOT.out.size; have := HBE.out; omega
  have HC := R9_2.out U7 _ _ c2 _ _ tc2 (HP2.out.kept HTOT.out hsU7) ((HT2.out.below HTOT.out).mono hsU7)
  obtain ⟨Nxb, hNxb⟩ : ∃ Nxb, Nxb = U7.heap.size := ⟨_, rfl⟩
  have HNxb := hid hNxb
  have hlexb : B ≤ Nxb := by omega
  have htbxb : tb < Nxb := by have := (TR.out.lt tb rfl).2; omega
  clear hNxb
  obtain ⟨e0, e1, e2, e3, e4, e5⟩ := six_cells B1.out
  go_upto_region 8 with (go_at_call 9; (with_reducible refine HC.mono ?_); rintro e w8 ⟨rxb, nxb, cxb, rfl, hnn, hro, hb⟩; have Rxb := hid hro; have HB := hid hb; clear hnn hro hb HC e0 e1 e2 e3 e4 e5)
  obtain ⟨U8, hU8⟩ : ∃ U8, U8 = w8.alloc (.cells #[.bool A2.ok, .slice rxb nxb cxb, .int .i64 A2.wh, .int .i64 A2.st] 30) := ⟨_, rfl⟩
  obtain ⟨xb, hxb⟩ : ∃ xb, xb = w8.heap.size := ⟨_, rfl⟩
  rw [← hU8, ← hxb]
  have hbb : Below w8.heap.size w8 U8 := by rw [hU8]; exact Joins.below_alloc1 w8 _
  have BXxb : Hid (BX U8 xb #[.bool A2.ok, .slice rxb nxb cxb, .int .i64 A2.wh, .int .i64 A2.st] 30) := by show BX _ _ _ _; rw [hU8, hxb]; exact BX.new w8 _ _
  have HBV : Hid (Below U7.heap.size U7 U8) := HB.out.trans (Joins.below_le hbb HB.out.size)
  have HBB := hid hbb
  clear hU8 hxb hbb
  replace B0 : Hid (BX U8 x0 #[.slice ad n c, .int .i64 s, .int .i64 k, .slice tad tn tc, .int .i64 a, .bool anch] 27) := BX.kept B0.out HBV.out
  replace B1 : Hid (BX U8 x1 #[.slice ad2 n2 c2, .int .i64 s2, .int .i64 k2, .slice tad2 tn2 tc2, .int .i64 a2, .bool anch2] 27) := BX.kept B1.out HBV.out
  replace BXxw : Hid (BX U8 xw #[.bool A1.ok, .slice rxw nxw cxw, .int .i64 A1.wh, .int .i64 A1.st] 30) := BX.kept BXxw.out HBV.out
  replace Rxw : Hid (U8.ownsRow Nxw 3 1 (.slice rxw nxw cxw) nxw (I64 A1.cl)) := own_b Rxw.out HBV.out
  replace BXxs : Hid (BX U8 xs #[.bool A2.ok, .slice rxs nxs cxs, .int .i64 A2.wh, .int .i64 A2.st] 30) := BX.kept BXxs.out HBV.out
  replace Rxs : Hid (U8.ownsRow Nxs 3 1 (.slice rxs nxs cxs) nxs (I64 A2.cl)) := own_b Rxs.out HBV.out
  replace PLQ : Hid (PL U8 NB (some ⟨gz, 0, none⟩) n (n + 1) l MS) := PL.below PLQ.out HBV.out
  replace BXxq : Hid (BX U8 xq #[.slice (some ⟨gz, 0, none⟩) n (n + 1), .int .i64 s, .int .i64 k] 24) := BX.kept BXxq.out HBV.out
  replace TR : Hid (U8.ownsRow B 3 1 (.slice (some ⟨tb, 0, none⟩) (tn + 2) (tn + 2)) (tn + 2) (I64 (tx ++ [-71, -72]))) := own_b TR.out HBV.out
  replace BXxa : Hid (BX U8 xa #[.bool A1.ok, .slice rxa nxa cxa, .int .i64 A1.wh, .int .i64 A1.st] 30) := BX.kept BXxa.out HBV.out
  replace Rxa : Hid (U8.ownsRow Nxa 3 1 (.slice rxa nxa cxa) nxa (I64 A1.cl)) := own_b Rxa.out HBV.out
  replace HTOT : Hid (Below B w U8) := HTOT.out.trans (Joins.below_le HBV.out hsU7)
  replace Rxb : Hid (U8.ownsRow Nxb 3 1 (.slice rxb nxb cxb) nxb (I64 A2.cl)) := by show World.ownsRow _ _ _ _ _ _ _; rw [HNxb.out]; exact own_b Rxb.out HBB.out
  obtain ⟨Txb, hTxb⟩ : ∃ Txb, Txb = U8.heap.size := ⟨_, rfl⟩
  have Lxb : Hid (∀ b, (Value.slice rxb nxb cxb).ownBlock = some b → Nxb ≤ b ∧ b < Txb) := fun b hb => by have := Rxb.out.lt b hb; rw [hTxb]; exact this
  have NTxb : Nxb ≤ Txb := by have := HBV.out.size; have := HNxb.out; omega
  have HTxb := hid hTxb
  clear hTxb
  clear HB HBB HBV hsU7
  have hsU8 : B ≤ U8.heap.size := by have := HTOT.out.size; have := HBE.out; omega
  have HC := R9_1.out U8 _ _ (n + 1) _ _ (tn + 2) PLQ.out.pi (row_text HTL.out TR.out (by omega))
  obtain ⟨Nxc, hNxc⟩ : ∃ Nxc, Nxc = U8.heap.size := ⟨_, rfl⟩
  have HNxc := hid hNxc
  have hlexc : B ≤ Nxc := by omega
  have htbxc : tb < Nxc := by have := (TR.out.lt tb rfl).2; omega
  clear hNxc
  obtain ⟨e0, e1, e2, e3, e4, e5⟩ := six_cells B0.out
  obtain ⟨g0, g1, g2⟩ := three_cells BXxq.out
  go_upto_region 9 with (go_at_call 9; (with_reducible refine HC.mono ?_); rintro e w9 ⟨rxc, nxc, cxc, rfl, hnn, hro, hb⟩; have Rxc := hid hro; have HB := hid hb; clear hnn hro hb HC e0 e1 e2 e3 e4 e5 g0 g1 g2)
  obtain ⟨U9, hU9⟩ : ∃ U9, U9 = w9.alloc (.cells #[.bool A1.ok, .slice rxc nxc cxc, .int .i64 A1.wh, .int .i64 A1.st] 30) := ⟨_, rfl⟩
  obtain ⟨xc, hxc⟩ : ∃ xc, xc = w9.heap.size := ⟨_, rfl⟩
  rw [← hU9, ← hxc]
  have hbb : Below w9.heap.size w9 U9 := by rw [hU9]; exact Joins.below_alloc1 w9 _
  have BXxc : Hid (BX U9 xc #[.bool A1.ok, .slice rxc nxc cxc, .int .i64 A1.wh, .int .i64 A1.st] 30) := by show BX _ _ _ _; rw [hU9, hxc]; exact BX.new w9 _ _
  have HBV : Hid (Below U8.heap.size U8 U9) := HB.out.trans (Joins.below_le hbb HB.out.size)
  have HBB := hid hbb
  clear hU9 hxc hbb
  replace B0 : Hid (BX U9 x0 #[.slice ad n c, .int .i64 s, .int .i64 k, .slice tad tn tc, .int .i64 a, .bool anch] 27) := BX.kept B0.out HBV.out
  replace B1 : Hid (BX U9 x1 #[.slice ad2 n2 c2, .int .i64 s2, .int .i64 k2, .slice tad2 tn2 tc2, .int .i64 a2, .bool anch2] 27) := BX.kept B1.out HBV.out
  replace BXxw : Hid (BX U9 xw #[.bool A1.ok, .slice rxw nxw cxw, .int .i64 A1.wh, .int .i64 A1.st] 30) := BX.kept BXxw.out HBV.out
  replace Rxw : Hid (U9.ownsRow Nxw 3 1 (.slice rxw nxw cxw) nxw (I64 A1.cl)) := own_b Rxw.out HBV.out
  replace BXxs : Hid (BX U9 xs #[.bool A2.ok, .slice rxs nxs cxs, .int .i64 A2.wh, .int .i64 A2.st] 30) := BX.kept BXxs.out HBV.out
  replace Rxs : Hid (U9.ownsRow Nxs 3 1 (.slice rxs nxs cxs) nxs (I64 A2.cl)) := own_b Rxs.out HBV.out
  replace PLQ : Hid (PL U9 NB (some ⟨gz, 0, none⟩) n (n + 1) l MS) := PL.below PLQ.out HBV.out
  replace BXxq : Hid (BX U9 xq #[.slice (some ⟨gz, 0, none⟩) n (n + 1), .int .i64 s, .int .i64 k] 24) := BX.kept BXxq.out HBV.out
  replace TR : Hid (U9.ownsRow B 3 1 (.slice (some ⟨tb, 0, none⟩) (tn + 2) (tn + 2)) (tn + 2) (I64 (tx ++ [-71, -72]))) := own_b TR.out HBV.out
  replace BXxa : Hid (BX U9 xa #[.bool A1.ok, .slice rxa nxa cxa, .int .i64 A1.wh, .int .i64 A1.st] 30) := BX.kept BXxa.out HBV.out
  replace Rxa : Hid (U9.ownsRow Nxa 3 1 (.slice rxa nxa cxa) nxa (I64 A1.cl)) := own_b Rxa.out HBV.out
  replace BXxb : Hid (BX U9 xb #[.bool A2.ok, .slice rxb nxb cxb, .int .i64 A2.wh, .int .i64 A2.st] 30) := BX.kept BXxb.out HBV.out
  replace Rxb : Hid (U9.ownsRow Nxb 3 1 (.slice rxb nxb cxb) nxb (I64 A2.cl)) := own_b Rxb.out HBV.out
  replace HTOT : Hid (Below B w U9) := HTOT.out.trans (Joins.below_le HBV.out hsU8)
  replace Rxc : Hid (U9.ownsRow Nxc 3 1 (.slice rxc nxc cxc) nxc (I64 A1.cl)) := by show World.ownsRow _ _ _ _ _ _ _; rw [HNxc.out]; exact own_b Rxc.out HBB.out
  obtain ⟨Txc, hTxc⟩ : ∃ Txc, Txc = U9.heap.size := ⟨_, rfl⟩
  have Lxc : Hid (∀ b, (Value.slice rxc nxc cxc).ownBlock = some b → Nxc ≤ b ∧ b < Txc) := fun b hb => by have := Rxc.out.lt b hb; rw [hTxc]; exact this
  have NTxc : Nxc ≤ Txc := by have := HBV.out.size; have := HNxc.out; omega
  have HTxc := hid hTxc
  have SZC : Hid (Txc ≤ U9.heap.size) := by show Txc ≤ _; omega
  clear hTxc
  clear HB HBB HBV hsU8
  have hsU9 : B ≤ U9.heap.size := by have := HTOT.out.size; have := HBE.out; omega
  have HC := same10' Rxa.out Rxw.out lenA1
  obtain ⟨g0, g1, g2, g3⟩ := four_cells BXxa.out
  obtain ⟨e0, e1, e2, e3⟩ := four_cells BXxw.out
  go_upto_region 10 with (go_at_call 10; (with_reducible refine HC.mono ?_); rintro e wA ⟨rfl, hb⟩; have HB := hid hb; clear hb HC g0 g1 g2 g3 e0 e1 e2 e3)
  replace B0 : Hid (BX wA x0 #[.slice ad n c, .int .i64 s, .int .i64 k, .slice tad tn tc, .int .i64 a, .bool anch] 27) := BX.kept B0.out HB.out
  replace B1 : Hid (BX wA x1 #[.slice ad2 n2 c2, .int .i64 s2, .int .i64 k2, .slice tad2 tn2 tc2, .int .i64 a2, .bool anch2] 27) := BX.kept B1.out HB.out
  replace BXxw : Hid (BX wA xw #[.bool A1.ok, .slice rxw nxw cxw, .int .i64 A1.wh, .int .i64 A1.st] 30) := BX.kept BXxw.out HB.out
  replace Rxw : Hid (wA.ownsRow Nxw 3 1 (.slice rxw nxw cxw) nxw (I64 A1.cl)) := own_b Rxw.out HB.out
  replace BXxs : Hid (BX wA xs #[.bool A2.ok, .slice rxs nxs cxs, .int .i64 A2.wh, .int .i64 A2.st] 30) := BX.kept BXxs.out HB.out
  replace Rxs : Hid (wA.ownsRow Nxs 3 1 (.slice rxs nxs cxs) nxs (I64 A2.cl)) := own_b Rxs.out HB.out
  replace PLQ : Hid (PL wA NB (some ⟨gz, 0, none⟩) n (n + 1) l MS) := PL.below PLQ.out HB.out
  replace BXxq : Hid (BX wA xq #[.slice (some ⟨gz, 0, none⟩) n (n + 1), .int .i64 s, .int .i64 k] 24) := BX.kept BXxq.out HB.out
  replace TR : Hid (wA.ownsRow B 3 1 (.slice (some ⟨tb, 0, none⟩) (tn + 2) (tn + 2)) (tn + 2) (I64 (tx ++ [-71, -72]))) := own_b TR.out HB.out
  replace BXxa : Hid (BX wA xa #[.bool A1.ok, .slice rxa nxa cxa, .int .i64 A1.wh, .int .i64 A1.st] 30) := BX.kept BXxa.out HB.out
  replace Rxa : Hid (wA.ownsRow Nxa 3 1 (.slice rxa nxa cxa) nxa (I64 A1.cl)) := own_b Rxa.out HB.out
  replace BXxb : Hid (BX wA xb #[.bool A2.ok, .slice rxb nxb cxb, .int .i64 A2.wh, .int .i64 A2.st] 30) := BX.kept BXxb.out HB.out
  replace Rxb : Hid (wA.ownsRow Nxb 3 1 (.slice rxb nxb cxb) nxb (I64 A2.cl)) := own_b Rxb.out HB.out
  replace SZC : Hid (Txc ≤ wA.heap.size) := Nat.le_trans SZC.out (HB.out).size
  replace BXxc : Hid (BX wA xc #[.bool A1.ok, .slice rxc nxc cxc, .int .i64 A1.wh, .int .i64 A1.st] 30) := BX.kept BXxc.out HB.out
  replace Rxc : Hid (wA.ownsRow Nxc 3 1 (.slice rxc nxc cxc) nxc (I64 A1.cl)) := own_b Rxc.out HB.out
  replace HTOT : Hid (Below B w wA) := HTOT.out.trans (Joins.below_le HB.out hsU9)
  clear HB hsU9
  have hswA : B ≤ wA.heap.size := by have := HTOT.out.size; have := HBE.out; omega
  have HC := same10' Rxb.out Rxs.out lenA2
  obtain ⟨g0, g1, g2, g3⟩ := four_cells BXxb.out
  obtain ⟨e0, e1, e2, e3⟩ := four_cells BXxs.out
  go_upto_region 11 with (go_at_call 10; (with_reducible refine HC.mono ?_); rintro e wB ⟨rfl, hb⟩; have HB := hid hb; clear hb HC g0 g1 g2 g3 e0 e1 e2 e3)
  replace B0 : Hid (BX wB x0 #[.slice ad n c, .int .i64 s, .int .i64 k, .slice tad tn tc, .int .i64 a, .bool anch] 27) := BX.kept B0.out HB.out
  replace B1 : Hid (BX wB x1 #[.slice ad2 n2 c2, .int .i64 s2, .int .i64 k2, .slice tad2 tn2 tc2, .int .i64 a2, .bool anch2] 27) := BX.kept B1.out HB.out
  replace BXxw : Hid (BX wB xw #[.bool A1.ok, .slice rxw nxw cxw, .int .i64 A1.wh, .int .i64 A1.st] 30) := BX.kept BXxw.out HB.out
  replace Rxw : Hid (wB.ownsRow Nxw 3 1 (.slice rxw nxw cxw) nxw (I64 A1.cl)) := own_b Rxw.out HB.out
  replace BXxs : Hid (BX wB xs #[.bool A2.ok, .slice rxs nxs cxs, .int .i64 A2.wh, .int .i64 A2.st] 30) := BX.kept BXxs.out HB.out
  replace Rxs : Hid (wB.ownsRow Nxs 3 1 (.slice rxs nxs cxs) nxs (I64 A2.cl)) := own_b Rxs.out HB.out
  replace PLQ : Hid (PL wB NB (some ⟨gz, 0, none⟩) n (n + 1) l MS) := PL.below PLQ.out HB.out
  replace BXxq : Hid (BX wB xq #[.slice (some ⟨gz, 0, none⟩) n (n + 1), .int .i64 s, .int .i64 k] 24) := BX.kept BXxq.out HB.out
  replace TR : Hid (wB.ownsRow B 3 1 (.slice (some ⟨tb, 0, none⟩) (tn + 2) (tn + 2)) (tn + 2) (I64 (tx ++ [-71, -72]))) := own_b TR.out HB.out
  replace BXxa : Hid (BX wB xa #[.bool A1.ok, .slice rxa nxa cxa, .int .i64 A1.wh, .int .i64 A1.st] 30) := BX.kept BXxa.out HB.out
  replace Rxa : Hid (wB.ownsRow Nxa 3 1 (.slice rxa nxa cxa) nxa (I64 A1.cl)) := own_b Rxa.out HB.out
  replace BXxb : Hid (BX wB xb #[.bool A2.ok, .slice rxb nxb cxb, .int .i64 A2.wh, .int .i64 A2.st] 30) := BX.kept BXxb.out HB.out
  replace Rxb : Hid (wB.ownsRow Nxb 3 1 (.slice rxb nxb cxb) nxb (I64 A2.cl)) := own_b Rxb.out HB.out
  replace SZC : Hid (Txc ≤ wB.heap.size) := Nat.le_trans SZC.out (HB.out).size
  replace BXxc : Hid (BX wB xc #[.bool A1.ok, .slice rxc nxc cxc, .int .i64 A1.wh, .int .i64 A1.st] 30) := BX.kept BXxc.out HB.out
  replace Rxc : Hid (wB.ownsRow Nxc 3 1 (.slice rxc nxc cxc) nxc (I64 A1.cl)) := own_b Rxc.out HB.out
  replace HTOT : Hid (Below B w wB) := HTOT.out.trans (Joins.below_le HB.out hswA)
  clear HB hswA
  have hswB : B ≤ wB.heap.size := by have := HTOT.out.size; have := HBE.out; omega
  have HC := same10' Rxc.out Rxw.out lenA1
  obtain ⟨g0, g1, g2, g3⟩ := four_cells BXxc.out
  obtain ⟨e0, e1, e2, e3⟩ := four_cells BXxw.out
  go_upto_region 12 with (go_at_call 10; (with_reducible refine HC.mono ?_); rintro e wC ⟨rfl, hb⟩; have HB := hid hb; clear hb HC g0 g1 g2 g3 e0 e1 e2 e3)
  replace B0 : Hid (BX wC x0 #[.slice ad n c, .int .i64 s, .int .i64 k, .slice tad tn tc, .int .i64 a, .bool anch] 27) := BX.kept B0.out HB.out
  replace B1 : Hid (BX wC x1 #[.slice ad2 n2 c2, .int .i64 s2, .int .i64 k2, .slice tad2 tn2 tc2, .int .i64 a2, .bool anch2] 27) := BX.kept B1.out HB.out
  replace BXxw : Hid (BX wC xw #[.bool A1.ok, .slice rxw nxw cxw, .int .i64 A1.wh, .int .i64 A1.st] 30) := BX.kept BXxw.out HB.out
  replace Rxw : Hid (wC.ownsRow Nxw 3 1 (.slice rxw nxw cxw) nxw (I64 A1.cl)) := own_b Rxw.out HB.out
  replace BXxs : Hid (BX wC xs #[.bool A2.ok, .slice rxs nxs cxs, .int .i64 A2.wh, .int .i64 A2.st] 30) := BX.kept BXxs.out HB.out
  replace Rxs : Hid (wC.ownsRow Nxs 3 1 (.slice rxs nxs cxs) nxs (I64 A2.cl)) := own_b Rxs.out HB.out
  replace PLQ : Hid (PL wC NB (some ⟨gz, 0, none⟩) n (n + 1) l MS) := PL.below PLQ.out HB.out
  replace BXxq : Hid (BX wC xq #[.slice (some ⟨gz, 0, none⟩) n (n + 1), .int .i64 s, .int .i64 k] 24) := BX.kept BXxq.out HB.out
  replace TR : Hid (wC.ownsRow B 3 1 (.slice (some ⟨tb, 0, none⟩) (tn + 2) (tn + 2)) (tn + 2) (I64 (tx ++ [-71, -72]))) := own_b TR.out HB.out
  replace BXxa : Hid (BX wC xa #[.bool A1.ok, .slice rxa nxa cxa, .int .i64 A1.wh, .int .i64 A1.st] 30) := BX.kept BXxa.out HB.out
  replace Rxa : Hid (wC.ownsRow Nxa 3 1 (.slice rxa nxa cxa) nxa (I64 A1.cl)) := own_b Rxa.out HB.out
  replace BXxb : Hid (BX wC xb #[.bool A2.ok, .slice rxb nxb cxb, .int .i64 A2.wh, .int .i64 A2.st] 30) := BX.kept BXxb.out HB.out
  replace Rxb : Hid (wC.ownsRow Nxb 3 1 (.slice rxb nxb cxb) nxb (I64 A2.cl)) := own_b Rxb.out HB.out
  replace SZC : Hid (Txc ≤ wC.heap.size) := Nat.le_trans SZC.out (HB.out).size
  replace BXxc : Hid (BX wC xc #[.bool A1.ok, .slice rxc nxc cxc, .int .i64 A1.wh, .int .i64 A1.st] 30) := BX.kept BXxc.out HB.out
  replace Rxc : Hid (wC.ownsRow Nxc 3 1 (.slice rxc nxc cxc) nxc (I64 A1.cl)) := own_b Rxc.out HB.out
  replace HTOT : Hid (Below B w wC) := HTOT.out.trans (Joins.below_le HB.out hswB)
  clear HB hswB
  have hswC : B ≤ wC.heap.size := by have := HTOT.out.size; have := HBE.out; omega
  have HC := kept11 (c2 := c) (s := s) (k := k) PLQ.out (HP0.out.kept HTOT.out hswC) hn
  obtain ⟨g0, g1, g2⟩ := three_cells BXxq.out
  obtain ⟨e0, e1, e2, e3, e4, e5⟩ := six_cells B0.out
  go_upto_region 13 with (go_at_call 11; (with_reducible refine HC.mono ?_); rintro e wD ⟨rfl, hb⟩; have HB := hid hb; clear hb HC g0 g1 g2 e0 e1 e2 e3 e4 e5)
  replace B0 : Hid (BX wD x0 #[.slice ad n c, .int .i64 s, .int .i64 k, .slice tad tn tc, .int .i64 a, .bool anch] 27) := BX.kept B0.out HB.out
  replace B1 : Hid (BX wD x1 #[.slice ad2 n2 c2, .int .i64 s2, .int .i64 k2, .slice tad2 tn2 tc2, .int .i64 a2, .bool anch2] 27) := BX.kept B1.out HB.out
  replace BXxw : Hid (BX wD xw #[.bool A1.ok, .slice rxw nxw cxw, .int .i64 A1.wh, .int .i64 A1.st] 30) := BX.kept BXxw.out HB.out
  replace Rxw : Hid (wD.ownsRow Nxw 3 1 (.slice rxw nxw cxw) nxw (I64 A1.cl)) := own_b Rxw.out HB.out
  replace BXxs : Hid (BX wD xs #[.bool A2.ok, .slice rxs nxs cxs, .int .i64 A2.wh, .int .i64 A2.st] 30) := BX.kept BXxs.out HB.out
  replace Rxs : Hid (wD.ownsRow Nxs 3 1 (.slice rxs nxs cxs) nxs (I64 A2.cl)) := own_b Rxs.out HB.out
  replace PLQ : Hid (PL wD NB (some ⟨gz, 0, none⟩) n (n + 1) l MS) := PL.below PLQ.out HB.out
  replace BXxq : Hid (BX wD xq #[.slice (some ⟨gz, 0, none⟩) n (n + 1), .int .i64 s, .int .i64 k] 24) := BX.kept BXxq.out HB.out
  replace TR : Hid (wD.ownsRow B 3 1 (.slice (some ⟨tb, 0, none⟩) (tn + 2) (tn + 2)) (tn + 2) (I64 (tx ++ [-71, -72]))) := own_b TR.out HB.out
  replace BXxa : Hid (BX wD xa #[.bool A1.ok, .slice rxa nxa cxa, .int .i64 A1.wh, .int .i64 A1.st] 30) := BX.kept BXxa.out HB.out
  replace Rxa : Hid (wD.ownsRow Nxa 3 1 (.slice rxa nxa cxa) nxa (I64 A1.cl)) := own_b Rxa.out HB.out
  replace BXxb : Hid (BX wD xb #[.bool A2.ok, .slice rxb nxb cxb, .int .i64 A2.wh, .int .i64 A2.st] 30) := BX.kept BXxb.out HB.out
  replace Rxb : Hid (wD.ownsRow Nxb 3 1 (.slice rxb nxb cxb) nxb (I64 A2.cl)) := own_b Rxb.out HB.out
  replace SZC : Hid (Txc ≤ wD.heap.size) := Nat.le_trans SZC.out (HB.out).size
  replace BXxc : Hid (BX wD xc #[.bool A1.ok, .slice rxc nxc cxc, .int .i64 A1.wh, .int .i64 A1.st] 30) := BX.kept BXxc.out HB.out
  replace Rxc : Hid (wD.ownsRow Nxc 3 1 (.slice rxc nxc cxc) nxc (I64 A1.cl)) := own_b Rxc.out HB.out
  replace HTOT : Hid (Below B w wD) := HTOT.out.trans (Joins.below_le HB.out hswC)
  clear HB hswC
  have hswD : B ≤ wD.heap.size := by have := HTOT.out.size; have := HBE.out; omega
  have HC := keptText12 (tc := tc) TR.out ((HT0.out.below HTOT.out).mono hswD) htn
  obtain ⟨e0, e1, e2, e3, e4, e5⟩ := six_cells B0.out
  go_upto_region 14 with (go_at_call 12; (with_reducible refine HC.mono ?_); rintro e wG ⟨rfl, hb⟩; have HB := hid hb; clear hb HC e0 e1 e2 e3 e4 e5)
  replace B0 : Hid (BX wG x0 #[.slice ad n c, .int .i64 s, .int .i64 k, .slice tad tn tc, .int .i64 a, .bool anch] 27) := BX.kept B0.out HB.out
  replace B1 : Hid (BX wG x1 #[.slice ad2 n2 c2, .int .i64 s2, .int .i64 k2, .slice tad2 tn2 tc2, .int .i64 a2, .bool anch2] 27) := BX.kept B1.out HB.out
  replace BXxw : Hid (BX wG xw #[.bool A1.ok, .slice rxw nxw cxw, .int .i64 A1.wh, .int .i64 A1.st] 30) := BX.kept BXxw.out HB.out
  replace Rxw : Hid (wG.ownsRow Nxw 3 1 (.slice rxw nxw cxw) nxw (I64 A1.cl)) := own_b Rxw.out HB.out
  replace BXxs : Hid (BX wG xs #[.bool A2.ok, .slice rxs nxs cxs, .int .i64 A2.wh, .int .i64 A2.st] 30) := BX.kept BXxs.out HB.out
  replace Rxs : Hid (wG.ownsRow Nxs 3 1 (.slice rxs nxs cxs) nxs (I64 A2.cl)) := own_b Rxs.out HB.out
  replace PLQ : Hid (PL wG NB (some ⟨gz, 0, none⟩) n (n + 1) l MS) := PL.below PLQ.out HB.out
  replace BXxq : Hid (BX wG xq #[.slice (some ⟨gz, 0, none⟩) n (n + 1), .int .i64 s, .int .i64 k] 24) := BX.kept BXxq.out HB.out
  replace TR : Hid (wG.ownsRow B 3 1 (.slice (some ⟨tb, 0, none⟩) (tn + 2) (tn + 2)) (tn + 2) (I64 (tx ++ [-71, -72]))) := own_b TR.out HB.out
  replace BXxa : Hid (BX wG xa #[.bool A1.ok, .slice rxa nxa cxa, .int .i64 A1.wh, .int .i64 A1.st] 30) := BX.kept BXxa.out HB.out
  replace Rxa : Hid (wG.ownsRow Nxa 3 1 (.slice rxa nxa cxa) nxa (I64 A1.cl)) := own_b Rxa.out HB.out
  replace BXxb : Hid (BX wG xb #[.bool A2.ok, .slice rxb nxb cxb, .int .i64 A2.wh, .int .i64 A2.st] 30) := BX.kept BXxb.out HB.out
  replace Rxb : Hid (wG.ownsRow Nxb 3 1 (.slice rxb nxb cxb) nxb (I64 A2.cl)) := own_b Rxb.out HB.out
  replace SZC : Hid (Txc ≤ wG.heap.size) := Nat.le_trans SZC.out (HB.out).size
  replace BXxc : Hid (BX wG xc #[.bool A1.ok, .slice rxc nxc cxc, .int .i64 A1.wh, .int .i64 A1.st] 30) := BX.kept BXxc.out HB.out
  replace Rxc : Hid (wG.ownsRow Nxc 3 1 (.slice rxc nxc cxc) nxc (I64 A1.cl)) := own_b Rxc.out HB.out
  replace HTOT : Hid (Below B w wG) := HTOT.out.trans (Joins.below_le HB.out hswD)
  clear HB hswD
  clear Rxw BXxw HNxw hlexw
  clear Rxs BXxs HNxs hlexs
  have c1 : (A1.co != A1.co) = false := by simp
  have c2 : (A2.co != A2.co) = false := by simp
  go_upto_region 16 with fail
  clear c1 c2
  have hswG : B ≤ wG.heap.size := by have := HTOT.out.size; have := HBE.out; omega
  have HROW : Hid (wG.ownsRow B 3 1 (.slice (some ⟨tb, 0, none⟩) (tn + 2) (tn + 2)) (tn + 2) (I64 ((tx.take 0).map swp ++ (tx.drop 0 ++ [-71, -72])))) := by show World.ownsRow _ _ _ _ _ _ _; simpa using TR.out
  go_wp2_with fail
  go_loopw [23] (fun s23 wr => ∃ i : Nat, s23 = .int .i64 (i : Int) ∧ i ≤ tn ∧ Hid (Chg wG wr [tb] [tb]) ∧ Hid (wr.ownsRow B 3 1 (.slice (some ⟨tb, 0, none⟩) (tn + 2) (tn + 2)) (tn + 2) (I64 ((tx.take i).map swp ++ (tx.drop i ++ [-71, -72]))))) (fun s23 _ => tn - (intOf s23).toNat)
  case atStart => exact ⟨0, rfl, Nat.zero_le _, Chg.refl _ _, HROW.out⟩
  case round =>
    clear HROW
    obtain ⟨i, rfl, hi, HCG, HRW⟩ := hrel
    by_cases hit : i < tn
    · have b1 : decide ((i : Int) < (tn : Int)) = true := by simp; omega
      have b2 : (i : Int) < (tn : Int) := by omega
      have ap : IntKind.i64.wrap ((i : Int) + 1) = (i : Int) + 1 := wrap_ok _ (by omega) (by omega)
      have d0 := row_there HRW.out (j := i) (m := 1) (by omega) 0 (by omega)
      rw [Nat.add_zero] at d0
      have f0 := d0.2
      have k0 := (HRW.out.cellAt i (by omega)).trans (readS HTL.out hit)
      obtain ⟨v, hv⟩ : ∃ v, v = tx.getD i 0 := ⟨_, rfl⟩
      have hnew := row_setC HRW.out i (.int .i64 (swp (tx.getD i 0)))
      rw [fillS HTL.out hit] at hnew
      rw [← hv] at k0 hnew
      have HCG2 := hid (HCG.out.set (a := ⟨tb, i, none⟩) (.int .i64 (swp v)) (by simp))
      have hi2 : i < 9223372036854775807 := by omega
      clear d0 hv
      by_cases hv : v = 97
      · rw [show swp v = 98 by simp [swp, hv]] at hnew HCG2
        rw [hv] at k0
        have HNEW := hid hnew
        clear hnew hv
        go_wp2
        exact ⟨⟨i + 1, by push_cast; rfl, by omega, HCG2.out, HNEW.out⟩, by simp [intOf]; omega⟩
      · rw [show swp v = 97 by simp [swp, hv]] at hnew HCG2
        have HNEW := hid hnew
        have h1 : (v == 97) = false := by simpa using hv
        have h2 : decide (v = 97) = false := by simpa using hv
        clear hnew
        go_wp2
        exact ⟨⟨i + 1, by push_cast; rfl, by omega, HCG2.out, HNEW.out⟩, by simp [intOf]; omega⟩
    · have b1 : decide ((i : Int) < (tn : Int)) = false := by simp; omega
      have b2 : ¬ ((i : Int) < (tn : Int)) := by omega
      obtain rfl : tn = i := by omega
      replace B0 : Hid (BX wr x0 #[.slice ad n c, .int .i64 s, .int .i64 k, .slice tad tn tc, .int .i64 a, .bool anch] 27) := BX.chg B0.out HCG.out TR.out rfl (by decide)
      replace B1 : Hid (BX wr x1 #[.slice ad2 n2 c2, .int .i64 s2, .int .i64 k2, .slice tad2 tn2 tc2, .int .i64 a2, .bool anch2] 27) := BX.chg B1.out HCG.out TR.out rfl (by decide)
      replace BXxq : Hid (BX wr xq #[.slice (some ⟨gz, 0, none⟩) n (n + 1), .int .i64 s, .int .i64 k] 24) := BX.chg BXxq.out HCG.out TR.out rfl (by decide)
      replace BXxa : Hid (BX wr xa #[.bool A1.ok, .slice rxa nxa cxa, .int .i64 A1.wh, .int .i64 A1.st] 30) := BX.chg BXxa.out HCG.out TR.out rfl (by decide)
      replace Rxa : Hid (wr.ownsRow Nxa 3 1 (.slice rxa nxa cxa) nxa (I64 A1.cl)) := own_chg Rxa.out HCG.out (by omega)
      replace BXxb : Hid (BX wr xb #[.bool A2.ok, .slice rxb nxb cxb, .int .i64 A2.wh, .int .i64 A2.st] 30) := BX.chg BXxb.out HCG.out TR.out rfl (by decide)
      replace Rxb : Hid (wr.ownsRow Nxb 3 1 (.slice rxb nxb cxb) nxb (I64 A2.cl)) := own_chg Rxb.out HCG.out (by omega)
      replace SZC : Hid (Txc ≤ wr.heap.size) := Nat.le_trans SZC.out HCG.out.size
      replace BXxc : Hid (BX wr xc #[.bool A1.ok, .slice rxc nxc cxc, .int .i64 A1.wh, .int .i64 A1.st] 30) := BX.chg BXxc.out HCG.out TR.out rfl (by decide)
      replace Rxc : Hid (wr.ownsRow Nxc 3 1 (.slice rxc nxc cxc) nxc (I64 A1.cl)) := own_chg Rxc.out HCG.out (by omega)
      replace PLQ : Hid (PL wr NB (some ⟨gz, 0, none⟩) n (n + 1) l MS) := PL.chg PLQ.out HCG.out TR.out rfl
      replace HTOT : Hid (Below B w wr) := HTOT.out.trans (HCG.out.below hswG (by simp; omega))
      have hS := HRW.out
      rw [show tx.drop tn = [] by rw [HTL.out]; simp, show tx.take tn = tx by rw [HTL.out]; simp, List.nil_append] at hS
      replace TR : Hid (wr.ownsRow B 3 1 (.slice (some ⟨tb, 0, none⟩) (tn + 2) (tn + 2)) (tn + 2) (I64 (tx.map swp ++ [-71, -72]))) := hS
      have HTS : Hid (tn = (tx.map swp).length) := by show tn = _; simp; exact HTL.out
      clear HCG HRW hS hswG
      have hswr : B ≤ wr.heap.size := by have := HTOT.out.size; have := HBE.out; omega
      have HC := R6_3.out wr _ _ c _ _ (tn + 2) (HP0.out.kept HTOT.out hswr) (row_text HTS.out TR.out (by omega))
      obtain ⟨Nxn, hNxn⟩ : ∃ Nxn, Nxn = wr.heap.size := ⟨_, rfl⟩
      have HNxn := hid hNxn
      have hlexn : B ≤ Nxn := by omega
      have htbxn : tb < Nxn := by have := (TR.out.lt tb rfl).2; omega
      clear hNxn
      obtain ⟨e0, e1, e2, e3, e4, e5⟩ := six_cells B0.out
      go_upto_region 23 with (go_at_call 6; (with_reducible refine HC.mono ?_); rintro e wI ⟨rxn, nxn, cxn, rfl, hnn, hro, hb⟩; have Rxn := hid hro; have HB := hid hb; clear hnn hro hb HC e0 e1 e2 e3 e4 e5)
      obtain ⟨UI, hUI⟩ : ∃ UI, UI = wI.alloc (.cells #[.bool A3.ok, .slice rxn nxn cxn, .int .i64 A3.wh, .int .i64 A3.st] 30) := ⟨_, rfl⟩
      obtain ⟨xn, hxn⟩ : ∃ xn, xn = wI.heap.size := ⟨_, rfl⟩
      rw [← hUI, ← hxn]
      have hbb : Below wI.heap.size wI UI := by rw [hUI]; exact Joins.below_alloc1 wI _
      have BXxn : Hid (BX UI xn #[.bool A3.ok, .slice rxn nxn cxn, .int .i64 A3.wh, .int .i64 A3.st] 30) := by show BX _ _ _ _; rw [hUI, hxn]; exact BX.new wI _ _
      have HBV : Hid (Below wr.heap.size wr UI) := HB.out.trans (Joins.below_le hbb HB.out.size)
      have HBB := hid hbb
      clear hUI hxn hbb
      replace B0 : Hid (BX UI x0 #[.slice ad n c, .int .i64 s, .int .i64 k, .slice tad tn tc, .int .i64 a, .bool anch] 27) := BX.kept B0.out HBV.out
      replace B1 : Hid (BX UI x1 #[.slice ad2 n2 c2, .int .i64 s2, .int .i64 k2, .slice tad2 tn2 tc2, .int .i64 a2, .bool anch2] 27) := BX.kept B1.out HBV.out
      replace PLQ : Hid (PL UI NB (some ⟨gz, 0, none⟩) n (n + 1) l MS) := PL.below PLQ.out HBV.out
      replace BXxq : Hid (BX UI xq #[.slice (some ⟨gz, 0, none⟩) n (n + 1), .int .i64 s, .int .i64 k] 24) := BX.kept BXxq.out HBV.out
      replace TR : Hid (UI.ownsRow B 3 1 (.slice (some ⟨tb, 0, none⟩) (tn + 2) (tn + 2)) (tn + 2) (I64 (tx.map swp ++ [-71, -72]))) := own_b TR.out HBV.out
      replace BXxa : Hid (BX UI xa #[.bool A1.ok, .slice rxa nxa cxa, .int .i64 A1.wh, .int .i64 A1.st] 30) := BX.kept BXxa.out HBV.out
      replace Rxa : Hid (UI.ownsRow Nxa 3 1 (.slice rxa nxa cxa) nxa (I64 A1.cl)) := own_b Rxa.out HBV.out
      replace BXxb : Hid (BX UI xb #[.bool A2.ok, .slice rxb nxb cxb, .int .i64 A2.wh, .int .i64 A2.st] 30) := BX.kept BXxb.out HBV.out
      replace Rxb : Hid (UI.ownsRow Nxb 3 1 (.slice rxb nxb cxb) nxb (I64 A2.cl)) := own_b Rxb.out HBV.out
      replace SZC : Hid (Txc ≤ UI.heap.size) := Nat.le_trans SZC.out (HBV.out).size
      replace BXxc : Hid (BX UI xc #[.bool A1.ok, .slice rxc nxc cxc, .int .i64 A1.wh, .int .i64 A1.st] 30) := BX.kept BXxc.out HBV.out
      replace Rxc : Hid (UI.ownsRow Nxc 3 1 (.slice rxc nxc cxc) nxc (I64 A1.cl)) := own_b Rxc.out HBV.out
      replace HTOT : Hid (Below B w UI) := HTOT.out.trans (Joins.below_le HBV.out hswr)
      replace Rxn : Hid (UI.ownsRow Nxn 3 1 (.slice rxn nxn cxn) nxn (I64 A3.cl)) := by show World.ownsRow _ _ _ _ _ _ _; rw [HNxn.out]; exact own_b Rxn.out HBB.out
      clear HB HBB HBV hswr
      have SZI : Hid (Txc ≤ UI.heap.size) := SZC.out
      have hsUI : B ≤ UI.heap.size := by have := HTOT.out.size; have := HBE.out; omega
      have HC := R9_3.out UI _ _ (n + 1) _ _ (tn + 2) PLQ.out.pi (row_text HTS.out TR.out (by omega))
      obtain ⟨Nxd, hNxd⟩ : ∃ Nxd, Nxd = UI.heap.size := ⟨_, rfl⟩
      have HNxd := hid hNxd
      have hlexd : B ≤ Nxd := by omega
      have htbxd : tb < Nxd := by have := (TR.out.lt tb rfl).2; omega
      clear hNxd
      obtain ⟨e0, e1, e2, e3, e4, e5⟩ := six_cells B0.out
      obtain ⟨g0, g1, g2⟩ := three_cells BXxq.out
      go_upto_region 24 with (go_at_call 9; (with_reducible refine HC.mono ?_); rintro e wJ ⟨rxd, nxd, cxd, rfl, hnn, hro, hb⟩; have Rxd := hid hro; have HB := hid hb; clear hnn hro hb HC e0 e1 e2 e3 e4 e5 g0 g1 g2)
      obtain ⟨UJ, hUJ⟩ : ∃ UJ, UJ = wJ.alloc (.cells #[.bool A3.ok, .slice rxd nxd cxd, .int .i64 A3.wh, .int .i64 A3.st] 30) := ⟨_, rfl⟩
      obtain ⟨xd, hxd⟩ : ∃ xd, xd = wJ.heap.size := ⟨_, rfl⟩
      rw [← hUJ, ← hxd]
      have hbb : Below wJ.heap.size wJ UJ := by rw [hUJ]; exact Joins.below_alloc1 wJ _
      have BXxd : Hid (BX UJ xd #[.bool A3.ok, .slice rxd nxd cxd, .int .i64 A3.wh, .int .i64 A3.st] 30) := by show BX _ _ _ _; rw [hUJ, hxd]; exact BX.new wJ _ _
      have HBV : Hid (Below UI.heap.size UI UJ) := HB.out.trans (Joins.below_le hbb HB.out.size)
      have HBB := hid hbb
      clear hUJ hxd hbb
      replace B0 : Hid (BX UJ x0 #[.slice ad n c, .int .i64 s, .int .i64 k, .slice tad tn tc, .int .i64 a, .bool anch] 27) := BX.kept B0.out HBV.out
      replace B1 : Hid (BX UJ x1 #[.slice ad2 n2 c2, .int .i64 s2, .int .i64 k2, .slice tad2 tn2 tc2, .int .i64 a2, .bool anch2] 27) := BX.kept B1.out HBV.out
      replace PLQ : Hid (PL UJ NB (some ⟨gz, 0, none⟩) n (n + 1) l MS) := PL.below PLQ.out HBV.out
      replace BXxq : Hid (BX UJ xq #[.slice (some ⟨gz, 0, none⟩) n (n + 1), .int .i64 s, .int .i64 k] 24) := BX.kept BXxq.out HBV.out
      replace TR : Hid (UJ.ownsRow B 3 1 (.slice (some ⟨tb, 0, none⟩) (tn + 2) (tn + 2)) (tn + 2) (I64 (tx.map swp ++ [-71, -72]))) := own_b TR.out HBV.out
      replace BXxa : Hid (BX UJ xa #[.bool A1.ok, .slice rxa nxa cxa, .int .i64 A1.wh, .int .i64 A1.st] 30) := BX.kept BXxa.out HBV.out
      replace Rxa : Hid (UJ.ownsRow Nxa 3 1 (.slice rxa nxa cxa) nxa (I64 A1.cl)) := own_b Rxa.out HBV.out
      replace BXxb : Hid (BX UJ xb #[.bool A2.ok, .slice rxb nxb cxb, .int .i64 A2.wh, .int .i64 A2.st] 30) := BX.kept BXxb.out HBV.out
      replace Rxb : Hid (UJ.ownsRow Nxb 3 1 (.slice rxb nxb cxb) nxb (I64 A2.cl)) := own_b Rxb.out HBV.out
      replace SZC : Hid (Txc ≤ UJ.heap.size) := Nat.le_trans SZC.out (HBV.out).size
      replace BXxc : Hid (BX UJ xc #[.bool A1.ok, .slice rxc nxc cxc, .int .i64 A1.wh, .int .i64 A1.st] 30) := BX.kept BXxc.out HBV.out
      replace Rxc : Hid (UJ.ownsRow Nxc 3 1 (.slice rxc nxc cxc) nxc (I64 A1.cl)) := own_b Rxc.out HBV.out
      replace BXxn : Hid (BX UJ xn #[.bool A3.ok, .slice rxn nxn cxn, .int .i64 A3.wh, .int .i64 A3.st] 30) := BX.kept BXxn.out HBV.out
      replace Rxn : Hid (UJ.ownsRow Nxn 3 1 (.slice rxn nxn cxn) nxn (I64 A3.cl)) := own_b Rxn.out HBV.out
      replace HTOT : Hid (Below B w UJ) := HTOT.out.trans (Joins.below_le HBV.out hsUI)
      replace Rxd : Hid (UJ.ownsRow Nxd 3 1 (.slice rxd nxd cxd) nxd (I64 A3.cl)) := by show World.ownsRow _ _ _ _ _ _ _; rw [HNxd.out]; exact own_b Rxd.out HBB.out
      clear HB HBB HBV hsUI
      have hsUJ : B ≤ UJ.heap.size := by have := HTOT.out.size; have := HBE.out; omega
      have HC := same10' Rxd.out Rxn.out lenA3
      obtain ⟨g0, g1, g2, g3⟩ := four_cells BXxd.out
      obtain ⟨e0, e1, e2, e3⟩ := four_cells BXxn.out
      go_upto_region 25 with (go_at_call 10; (with_reducible refine HC.mono ?_); rintro e wK ⟨rfl, hb⟩; have HB := hid hb; clear hb HC g0 g1 g2 g3 e0 e1 e2 e3)
      replace B0 : Hid (BX wK x0 #[.slice ad n c, .int .i64 s, .int .i64 k, .slice tad tn tc, .int .i64 a, .bool anch] 27) := BX.kept B0.out HB.out
      replace B1 : Hid (BX wK x1 #[.slice ad2 n2 c2, .int .i64 s2, .int .i64 k2, .slice tad2 tn2 tc2, .int .i64 a2, .bool anch2] 27) := BX.kept B1.out HB.out
      replace PLQ : Hid (PL wK NB (some ⟨gz, 0, none⟩) n (n + 1) l MS) := PL.below PLQ.out HB.out
      replace BXxq : Hid (BX wK xq #[.slice (some ⟨gz, 0, none⟩) n (n + 1), .int .i64 s, .int .i64 k] 24) := BX.kept BXxq.out HB.out
      replace TR : Hid (wK.ownsRow B 3 1 (.slice (some ⟨tb, 0, none⟩) (tn + 2) (tn + 2)) (tn + 2) (I64 (tx.map swp ++ [-71, -72]))) := own_b TR.out HB.out
      replace BXxa : Hid (BX wK xa #[.bool A1.ok, .slice rxa nxa cxa, .int .i64 A1.wh, .int .i64 A1.st] 30) := BX.kept BXxa.out HB.out
      replace Rxa : Hid (wK.ownsRow Nxa 3 1 (.slice rxa nxa cxa) nxa (I64 A1.cl)) := own_b Rxa.out HB.out
      replace BXxb : Hid (BX wK xb #[.bool A2.ok, .slice rxb nxb cxb, .int .i64 A2.wh, .int .i64 A2.st] 30) := BX.kept BXxb.out HB.out
      replace Rxb : Hid (wK.ownsRow Nxb 3 1 (.slice rxb nxb cxb) nxb (I64 A2.cl)) := own_b Rxb.out HB.out
      replace SZC : Hid (Txc ≤ wK.heap.size) := Nat.le_trans SZC.out (HB.out).size
      replace BXxc : Hid (BX wK xc #[.bool A1.ok, .slice rxc nxc cxc, .int .i64 A1.wh, .int .i64 A1.st] 30) := BX.kept BXxc.out HB.out
      replace Rxc : Hid (wK.ownsRow Nxc 3 1 (.slice rxc nxc cxc) nxc (I64 A1.cl)) := own_b Rxc.out HB.out
      replace BXxn : Hid (BX wK xn #[.bool A3.ok, .slice rxn nxn cxn, .int .i64 A3.wh, .int .i64 A3.st] 30) := BX.kept BXxn.out HB.out
      replace Rxn : Hid (wK.ownsRow Nxn 3 1 (.slice rxn nxn cxn) nxn (I64 A3.cl)) := own_b Rxn.out HB.out
      replace BXxd : Hid (BX wK xd #[.bool A3.ok, .slice rxd nxd cxd, .int .i64 A3.wh, .int .i64 A3.st] 30) := BX.kept BXxd.out HB.out
      replace Rxd : Hid (wK.ownsRow Nxd 3 1 (.slice rxd nxd cxd) nxd (I64 A3.cl)) := own_b Rxd.out HB.out
      replace HTOT : Hid (Below B w wK) := HTOT.out.trans (Joins.below_le HB.out hsUJ)
      clear HB hsUJ
      have hswK : B ≤ wK.heap.size := by have := HTOT.out.size; have := HBE.out; omega
      obtain ⟨UL, hUL⟩ : ∃ UL, UL = wK.alloc (.cells #[.slice rxa nxa cxa, .slice rxb nxb cxb, .slice rxc nxc cxc, .slice rxd nxd cxd] 25) := ⟨_, rfl⟩
      have hbb : Below wK.heap.size wK UL := by rw [hUL]; exact Joins.below_alloc1 wK _
      obtain ⟨g, hg⟩ : ∃ g, g = wK.heap.size := ⟨_, rfl⟩
      have hgx : BX UL g #[.slice rxa nxa cxa, .slice rxb nxb cxb, .slice rxc nxc cxc, .slice rxd nxd cxd] 25 := by rw [hUL, hg]; exact BX.new wK _ _
      have HC := owned_four hgx (Nat.le_trans hswK hbb.size) hlexa (by have := HTxa.out; have := HNxb.out; omega) (by have := HTxb.out; have := HNxc.out; omega) (by have := SZI.out; have := HNxd.out; omega) Lxa.out Lxb.out Lxc.out NTxa NTxb NTxc (own_b Rxa.out hbb) (own_b Rxb.out hbb) (own_b Rxc.out hbb) (own_b Rxd.out hbb) ⟨by have := own_len Rxa.out; omega, by have := own_len Rxb.out; omega, by have := own_len Rxc.out; omega, by have := own_len Rxd.out; omega⟩
      obtain ⟨p0, p1, p2, p3⟩ := four_cells BXxa.out
      obtain ⟨q0, q1, q2, q3⟩ := four_cells BXxb.out
      obtain ⟨s0, s1, s2, s3⟩ := four_cells BXxc.out
      obtain ⟨t0, t1, t2, t3⟩ := four_cells BXxd.out
      have HTK := hid (HTOT.out.trans (Joins.below_le hbb hswK))
      have HUL := hid hUL
      have HGE := hid hg
      have HCC := hid HC
      clear hUL hg hbb hgx HC
      have c3 : (A3.co == A3.co) = true := by simp
      have HC2 : Calls Try.prog 13 #[.slice (some ⟨wK.heap.size, 0, none⟩) 4 4] (wK.alloc (.cells #[.slice rxa nxa cxa, .slice rxb nxb cxb, .slice rxc nxc cxc, .slice rxd nxd cxd] 25)) fun e w' => e = .returned (.bool true) ∧ Below B (wK.alloc (.cells #[.slice rxa nxa cxa, .slice rxb nxb cxb, .slice rxc nxc cxc, .slice rxd nxd cxd] 25)) w' := by rw [← HUL.out, ← HGE.out]; exact HCC.out
      go_wp2_with (go_at_call 13; (with_reducible refine HC2.mono ?_); rintro e wZ ⟨rfl, hb⟩; have HBZ := hid hb; clear hb HC2)
      all_goals go_ret
      all_goals refine ⟨rfl, ?_⟩
      all_goals rw [← HBE.out]
      all_goals refine HTK.out.trans ?_
      all_goals rw [HUL.out]
      all_goals exact HBZ.out
end Go.Proofs.Ytodpmmlfdkdemaa
namespace Go.Proofs.Ytodpmmlfdkdemaa
open Go.ChangeShapes Go.WideShapes Go.ChangeAt Go.RowKit
set_option linter.unusedVariables false
set_option linter.unusedSimpArgs false
set_option maxRecDepth 100000 in
theorem runsLifted (os : Os) (started : os.Started) (H : Type) (enc : TypeId × Value → H) :
    ReturnsInHanded {} Try.checked os 3 .any (Rows.bitstateRunsSpec.pre6 enc Try.prog Try.f3 Rows.bitstateRunsRow.domain false) (Rows.bitstateRunsSpec.post enc Try.prog Try.f3 false true false false) := by
  refine returnsInHanded_of_change_sized (C := Try.checked) ownB started (by kernel_rfl) Try.func3
    (ChangeSpec.witness6 (enc := enc) (C := Try.checked) false ⟨#[], #[.agg #[.slice none 0 0, .int .i64 0, .int .i64 0, .slice none 0 0, .int .i64 0, .bool false], .agg #[.slice none 0 0, .int .i64 0, .int .i64 0, .slice none 0 0, .int .i64 0, .bool false]], []⟩ 8 (by kernel_rfl) (by kernel_rfl) (by kernel_rfl) (by kernel_rfl)) ?_
  intro W base args ds gs before hval0 hW hcnd0 hsz0 hholds
  have hval : ∀ (j : Nat) t v, Try.f3.params[j]? = some t → args[j]? = some v → Value.okWide Try.prog W .any base t v := hval0
  have hW' := hW
  obtain ⟨p, q, hA0, hV, rfl, hfz, hnd⟩ := hW
  have hA : DataW.TrodAll enc Try.prog W 0 (fun _ => true) true Try.f3.params.toList args.toList ds p := hA0
  have hsz : ∀ n ∈ DataW.weightsEach Try.prog (Try.f3.params.toList ++ Rows.bitstateRunsSpec.plain.varTypes Try.prog) (ds ++ gs), n ≤ reachBytes := fun n hn => by simpa using List.all_eq_true.1 hsz0 n hn
  rw [Try.params3] at hA hval hsz
  obtain ⟨v0, vs0, d0, ds0, p0, q0, hargs, rfl, rfl, h0, r0⟩ := trodAll_cons hA
  obtain ⟨v1, vs1, d1, ds1, p1, q1, rfl, rfl, rfl, h1, r1⟩ := trodAll_cons r0
  obtain ⟨rfl, rfl, rfl⟩ := trodAll_nil r1
  obtain rfl : args = #[v0, v1] := by cases args; simp_all
  obtain ⟨rfl, rfl⟩ := trodVars_none hV
  have hlt0 : ∀ x ∈ p0, x.block < W.heap.size := fun x hx => by have := hW'.lt x (by simp [hx]); simpa using this
  have hlt1 : ∀ x ∈ p1, x.block < W.heap.size := fun x hx => by have := hW'.lt x (by simp [hx]); simpa using this
  obtain ⟨ad, n, c, s, k, l, tad, tn, tc, a, anch, tx, rfl, hn, hP, hT, htn⟩ := ask_arg (hval 0 27 v0 rfl rfl) h0 (fun n hn => hsz n (DataW.weights_mem_each (j := 0) (by simp) (by simp) n hn))
  obtain ⟨ad2, n2, c2, s2, k2, l2, tad2, tn2, tc2, a2, anch2, tx2, rfl, _, hP2, hT2, _⟩ := ask_arg (hval 1 27 v1 rfl rfl) h1 (fun n hn => hsz n (DataW.weights_mem_each (j := 1) (by simp) (by simp) n hn))
  clear hA0 hval0
  refine (runs3 hP hP2 hT hT2 hn htn).mono fun e W' ⟨he, hb⟩ => ?_
  subst he
  exact ⟨_, rfl, _, _, _, [], p0 ++ (p1 ++ []), [], hW', trodAll_cons_mk (shut_bool Try.underlying4 _) trodAll_mk0, trodAll_cons_mk (Below.trod laidOut (by kernel_rfl) (of_decide_eq_true (by kernel_rfl)) h0 hb hlt0) (trodAll_cons_mk (Below.trod laidOut (by kernel_rfl) (of_decide_eq_true (by kernel_rfl)) h1 hb hlt1) trodAll_mk0), rfl, hb.frame _, fun h => by cases h⟩
theorem bitstateRuns_holds : Rows.BitstateRunsSaid :=
  OpenClaim.holds_of_wide 3 Try.f3 rfl rfl rfl rfl rfl rfl rfl ⟨rfl, rfl, rfl, rfl, rfl⟩ rfl rfl rfl rfl rfl (by kernel_rfl) Try.func3 (by kernel_rfl)
    (of_decide_eq_true (by kernel_rfl)) (by unfold Func.isWrapper; first | (rw [if_pos (by decide +kernel)]; kernel_rfl) | (rw [if_neg (by decide +kernel)]; exact ⟨rfl, rfl⟩))
    (fun os started H enc _ => runsLifted os started H enc)
end Go.Proofs.Ytodpmmlfdkdemaa
