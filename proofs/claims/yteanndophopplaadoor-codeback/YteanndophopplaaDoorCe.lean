/- HELPERS: two programs that hold the same are told to be the same. -/
import Derived.Test.YteanndophopplaaDoorCc
import Derived.Test.YteanndophopplaaDoorBh
import Derived.Laws.StructEq
import Derived.Deep.DrawnRows
namespace Go.Proofs.YteanndophopplaaDoor
open Go.RowKit
set_option linter.unusedVariables false
set_option linter.unusedSimpArgs false
attribute [local go_sem ↓] Go.wp_at_zero Go.wp_at_succ
theorem fields49 : Tryd.prog.underlying 51 = some (.struct (Tryd.prog.fieldsOf 51)) := by kernel_rfl
theorem held49 : Tryd.prog.stoodInHeld 51 = false := by kernel_rfl
theorem guard49 : Tryd.prog.eqGuardType Tryd.prog.depth 51 = false := by kernel_rfl
set_option maxRecDepth 100000 in
theorem rng_neq (lo hi : Int) (W : World) : (binOp .neq 51 (.agg #[.int .i64 lo, .int .i64 hi]) (.agg #[.int .i64 lo, .int .i64 hi])).run Tryd.prog W = .ok (.bool false) W := by
  have he : ∀ (a b : Int), (Op.equalIn 9999 3 (.int .i64 a) (.int .i64 b)).run Tryd.prog W = .ok (a == b) W := fun a b => run_equalIn_int W 9998 3 .i64 .i64 a b Tryd.underlying3
  rw [run_neq_struct, show Op.equalIn 10000 51 = Op.equalIn (9999 + 1) 51 from rfl, run_equalIn_agg W 9999 51 _ _ fields49 held49]
  have hp : ∀ (xs : Array Value) (o : Nat) (v : Value), xs[o]? = some v → (part 3 xs o).run Tryd.prog W = .ok v W := by
    intro xs o v h
    simp [part, Tryd.isAgg3, h, Result.andThen]
  simp [Program.fieldsOf, Tryd.underlying51, Op.eqFields, hp, he, Result.andThen]
theorem rng_guard (x y : Operand) (lo hi lo' hi' : Int) (W : World) : (eqGuard .neq 51 x y (.agg #[.int .i64 lo, .int .i64 hi]) (.agg #[.int .i64 lo', .int .i64 hi'])).run Tryd.prog W = .ok () W := run_eqGuard_agg W .neq 51 x y _ _ guard49
set_option maxRecDepth 100000 in
set_option maxHeartbeats 8000000 in
theorem same11 {w : World} {ad ad' : Option Addr} {n c c' : Nat} {l : List In} {s k : Int} (h : PI w w.heap.size ad n l) (h' : PI w w.heap.size ad' n l) (hn : n ≤ 9223372036854775807) :
    Calls Tryd.prog 12 #[pv ad n c s k, pv ad' n c' s k] w fun e w' => e = .returned (.bool true) ∧ Below w.heap.size w w' := by
  obtain ⟨U, hU⟩ : ∃ U, U = (w.alloc (.cells #[.slice ad n c, .int .i64 s, .int .i64 k] 24)).alloc (.cells #[.slice ad' n c', .int .i64 s, .int .i64 k] 24) := ⟨_, rfl⟩
  have hb : Below w.heap.size w U := by rw [hU]; exact below_two' w _ _
  have hX1 : U.heap[w.heap.size]? = some (.cells #[.slice ad n c, .int .i64 s, .int .i64 k] 24 (0, 0)) := by rw [hU]; exact (heap_alloc_old _ _ (by simp)).trans (heap_alloc_new w _)
  have hX2 : U.heap[w.heap.size + 1]? = some (.cells #[.slice ad' n c', .int .i64 s, .int .i64 k] 24 (0, 0)) := by rw [hU]; exact two_new w _ _ _
  have HP := hid (h.kept hb hb.size)
  have HP' := hid (h'.kept hb hb.size)
  have HB := hid hb
  have HL := hid h.len
  have l1 : w.heap.size < U.heap.size := (Array.getElem?_eq_some_iff.1 hX1).1
  have l2 : w.heap.size + 1 < U.heap.size := (Array.getElem?_eq_some_iff.1 hX2).1
  clear h h' hb
  go_enter Tryd.func12, Tryd.ntmps12
  go_upto_region 1 with fail
  rw [← hU]
  obtain ⟨x2, hx2⟩ : ∃ x2, x2 = w.heap.size + 1 := ⟨_, rfl⟩
  rw [← hx2] at hX2 l2 ⊢
  obtain ⟨x1, hx1⟩ : ∃ x1, x1 = w.heap.size := ⟨_, rfl⟩
  rw [← hx1] at hX1 l1 HB ⊢
  have HX1 := hid hX1
  have HX2 := hid hX2
  have HXE := hid hx1
  clear hx1 hx2 hU hX1 hX2
  obtain ⟨p0, p1, p2⟩ := three_cells HX1.out
  obtain ⟨q0, q1, q2⟩ := three_cells HX2.out
  go_wp2_with fail
  clear p0 p1 p2 q0 q1 q2
  go_loopw [5] (fun y wq => ∃ i : Nat, y = .int .i64 (i : Int) ∧ i ≤ n ∧ Hid (Below U.heap.size U wq)) (fun y _ => n - (intOf y).toNat)
  case atStart => exact ⟨0, rfl, by omega, Below.refl _ _⟩
  case round =>
    obtain ⟨i, rfl, hi, BK⟩ := hrel
    obtain ⟨p0, p1, p2⟩ := three_cells ((BK.out.block x1 l1).trans HX1.out)
    obtain ⟨q0, q1, q2⟩ := three_cells ((BK.out.block x2 l2).trans HX2.out)
    have hUw : U.heap.size ≤ wr.heap.size := BK.out.size
    have l1w : x1 < wr.heap.size := by omega
    have l2w : x2 < wr.heap.size := by omega
    by_cases hil : i < n
    · have b1 : decide ((i : Int) < (n : Int)) = true := by simp; omega
      have b2 : (i : Int) < (n : Int) := by omega
      have ad1 : IntKind.i64.wrap ((i : Int) + 1) = (i : Int) + 1 := by simp [IntKind.wrap, IntKind.bits, IntKind.signed]; omega
      have hlt : i < l.length := by have := HL.out; omega
      obtain ⟨g, o, ND, e, hg, hcs⟩ := HP.out.mem (by omega)
      obtain ⟨g', o', ND', e', hg', hcs'⟩ := HP'.out.mem (by omega)
      subst e e'
      have lg : g < wr.heap.size := by omega
      have lg' : g' < wr.heap.size := by omega
      obtain ⟨m0, m1, m2, m3, m4⟩ := (hcs i hlt).1.kept (BK.out.block g hg)
      obtain ⟨t0, t1, t2, t3, t4⟩ := (hcs' i hlt).1.kept (BK.out.block g' hg')
      have hI := (hcs i hlt).2.kept BK.out BK.out.size
      have hI' := (hcs' i hlt).2.kept BK.out BK.out.size
      obtain ⟨M, hM⟩ : ∃ M, M = ND i := ⟨_, rfl⟩
      obtain ⟨M', hM'⟩ : ∃ M, M = ND' i := ⟨_, rfl⟩
      rw [← hM] at m0 m1 m2 m3 m4 hI
      rw [← hM'] at t0 t1 t2 t3 t4 hI'
      clear hM hM' hcs hcs'
      obtain ⟨op, x, y, a, r1, r2, r3⟩ := M
      obtain ⟨op', x', y', a', r1', r2', r3'⟩ := M'
      obtain rfl : op' = op := hI'.op.trans hI.op.symm
      obtain rfl : x' = x := hI'.x.trans hI.x.symm
      obtain rfl : y' = y := hI'.y.trans hI.y.symm
      obtain rfl : a' = a := hI'.a.trans hI.a.symm
      obtain rfl : r2' = r2 := hI'.len.trans hI.len.symm
      have hr2 : r2' ≤ 8796093022208 := by have := hI.sm; dsimp only at this; omega
      have HI := hid hI
      have HI' := hid hI'
      clear hI hI'
      dsimp only at m0 m1 m2 m3 m4 t0 t1 t2 t3 t4
      go_wp2_with fail
      obtain ⟨V, hV⟩ : ∃ V, V = (wr.alloc (.cells #[.int .i64 op', .int .i64 x', .int .i64 y', .int .i64 a', .slice r1 r2' r3] 49)).alloc (.cells #[.int .i64 op', .int .i64 x', .int .i64 y', .int .i64 a', .slice r1' r2' r3'] 49) := ⟨_, rfl⟩
      rw [← hV]
      have HBV : Hid (Below wr.heap.size wr V) := by rw [hV]; exact below_two' wr _ _
      have hZ1 : Hid (V.heap[wr.heap.size]? = some (.cells #[.int .i64 op', .int .i64 x', .int .i64 y', .int .i64 a', .slice r1 r2' r3] 49 (0, 0))) := by rw [hV]; exact (heap_alloc_old _ _ (by simp)).trans (heap_alloc_new wr _)
      have hZ2 : Hid (V.heap[wr.heap.size + 1]? = some (.cells #[.int .i64 op', .int .i64 x', .int .i64 y', .int .i64 a', .slice r1' r2' r3'] 49 (0, 0))) := by rw [hV]; exact two_new wr _ _ _
      have k1 : wr.heap.size < V.heap.size := (Array.getElem?_eq_some_iff.1 hZ1.out).1
      have k2 : wr.heap.size + 1 < V.heap.size := (Array.getElem?_eq_some_iff.1 hZ2.out).1
      obtain ⟨z2, hz2⟩ : ∃ z2, z2 = wr.heap.size + 1 := ⟨_, rfl⟩
      rw [← hz2] at hZ2 k2 ⊢
      have HBW := hid (BK.out.trans (Joins.below_le HBV.out BK.out.size))
      have HIV := hid (HI.out.kept HBV.out HBV.out.size)
      have HIV' := hid (HI'.out.kept HBV.out HBV.out.size)
      obtain ⟨z1, hz1⟩ : ∃ z1, z1 = wr.heap.size := ⟨_, rfl⟩
      rw [← hz1] at hZ1 k1 ⊢
      clear hV hz1 hz2 HBV HI HI' m0 m1 m2 m3 m4 t0 t1 t2 t3 t4 p0 p1 p2 q0 q1 q2 b1
      go_loopw [8] (fun y wq => ∃ j : Nat, y = .int .i64 (j : Int) ∧ j ≤ r2' ∧ Hid (Below V.heap.size V wq)) (fun y _ => r2' - (intOf y).toNat)
      case atStart => exact ⟨0, rfl, by omega, Below.refl _ _⟩
      case round =>
        obtain ⟨j, rfl, hj, BJ⟩ := hrel
        obtain ⟨d0, d1, d2, d3, d4⟩ := five ((BJ.out.block z1 k1).trans hZ1.out)
        obtain ⟨f0, f1, f2, f3, f4⟩ := five ((BJ.out.block z2 k2).trans hZ2.out)
        by_cases hjl : j < r2'
        · have b3 : decide ((j : Int) < (r2' : Int)) = true := by simp; omega
          have b4 : (j : Int) < (r2' : Int) := by omega
          have ad2 : IntKind.i64.wrap ((j : Int) + 1) = (j : Int) + 1 := by simp [IntKind.wrap, IntKind.bits, IntKind.signed]; omega
          have hlen : r2' = (l[i]).R.length := HIV.out.len
          obtain ⟨a1, cap1, e1, h1⟩ := HIV.out.row.below BJ.out (Nat.le_refl _) (Nat.le_refl _)
          obtain ⟨a2, cap2, e2, h2⟩ := HIV'.out.row.below BJ.out (Nat.le_refl _) (Nat.le_refl _)
          simp only [Value.slice.injEq] at e1 e2
          obtain ⟨rfl, _, rfl⟩ := e1
          obtain ⟨rfl, _, rfl⟩ := e2
          rcases h1 with h1 | ⟨rb, ro, rfl, _, u0, u1⟩
          · omega
          rcases h2 with h2 | ⟨rb', ro', rfl, _, v0, v1⟩
          · omega
          have u0 := u0 j (by omega)
          have u1 := u1 j (by omega)
          have v0 := v0 j (by omega)
          have v1 := v1 j (by omega)
          obtain ⟨⟨lo, hi'⟩, hv⟩ : ∃ v, (l[i]).R.getD j (0, 0) = v := ⟨_, rfl⟩
          rw [hv] at u0 u1 v0 v1
          dsimp only at u0 u1 v0 v1
          have hneq := fun W' => rng_neq lo hi' W'
          have hgd := fun x y W' => rng_guard x y lo hi' lo hi' W'
          clear hv hlen
          go_wp2_with fail
          go_quiet (fail)
          go_wp2
          exact ⟨⟨j + 1, by push_cast; rfl, by omega, BJ.out.trans ⟨rfl, rfl, rfl, Nat.le_refl _, fun _ _ => rfl⟩⟩, by simp [intOf]; omega⟩
        · have b3 : decide ((j : Int) < (r2' : Int)) = false := by simp; omega
          go_wp2
          exact ⟨⟨i + 1, by push_cast; rfl, by omega, HBW.out.trans (Joins.below_le BJ.out HBW.out.size)⟩, by simp [intOf]; omega⟩
    · have b1 : decide ((i : Int) < (n : Int)) = false := by simp; omega
      go_wp2
      all_goals go_ret
      all_goals refine ⟨rfl, ?_⟩
      rw [← HXE.out]
      exact HB.out.trans (Joins.below_le BK.out (by omega))
end Go.Proofs.YteanndophopplaaDoor
