/- HELPERS: Flip. -/
import Derived.Test.YtilpkeipjlnogaaProg
import Derived.Test.YtilpkeipjlnogaaLkM
import Derived.ProofKit
import Derived.BigQuiet
import Derived.WalkSmall
import Derived.Deep.QuietTactic
import Derived.Deep.RegionWith
import Derived.Laws.EntriesVeiled
import Derived.Deep.WholeRow
namespace Go.Proofs.Ytilpkeipjlnogaa
open Go.RowKit Go.Lk
set_option linter.unusedVariables false
set_option linter.unusedSimpArgs false
theorem wpList_store_new {P : Program} {ops : Array Oper} {rest : List Oper} {op : Oper} {a : Act} {w : World} {Q : Exit → Act → World → Prop} (hgd : op.guard = none) (ty : TypeId) (x y : Operand) (ho : op.op = .store ty x y)
    (c c' : Array Value) (hx : a.eval x = .pointer (some ⟨w.heap.size, 0, none⟩)) (hy : a.eval y = .agg c') (hi : (P.info? ty).map (·.size) = some c'.size) (hc : c.size = c'.size) (h1 : c'.all (·.oneCell') = true)
    (h : wpList P ops Q rest (a.put op.dst undef) (w.alloc (.cells c' ty))) : wpList P ops Q (op :: rest) a (w.alloc (.cells c ty)) :=
  wpList_plain hgd fun K hK => by
    unfold Oper.wp execOp
    simp only [ho, hx, hy, Sem.run_bind, Sem.run_pure, Result.andThen_ok, run_storeAt_new w ty c c' hi hc h1]
    exact hK _ _ h
theorem results_cell1 {fn : Func} {p : Tmp} {ty : TypeId} (h : fn.results = #[.cell p ty]) (tmps : Array Value) (P : Program) (w : World) :
    (results fn tmps).run P w = ((asAddr (tmps.getD p undef)).run P w).andThen fun a w₁ => ((loadVar ty a).run P w₁).andThen fun v w₂ => .ok v w₂ := by
  simp only [results, h]
  simp [Sem.run_bind, Result.andThen]
  cases (asAddr (tmps[p]?.getD undef)).run P w with
  | halt h w => rfl
  | ok a w => show (loadVar ty a).run P w = _; cases h : (loadVar ty a).run P w <;> simp [h]
def fv (f : Nat) : Value := .func (.func f) #[] #[]
def rowsV : Array Value := #[.int .i64 1, .int .i64 2, fv 63, .int .i64 2, .int .i64 1, fv 64, .int .i64 4, .int .i64 8, fv 65, .int .i64 8, .int .i64 4, fv 66, .int .i64 16, .int .i64 16, fv 67, .int .i64 32, .int .i64 32, fv 68]
theorem info37 : (Try.prog.info? 79).map (·.size) = some 18 := by kernel_rfl
theorem one37 : (rowsV.all (·.oneCell')) = true := by simp [rowsV, fv, Value.oneCell']
set_option maxRecDepth 100000 in
theorem rows17 (w : World) : Calls Try.prog 43 #[] w fun e w' => e = .returned (.agg rowsV) ∧ w' = w.alloc (.cells rowsV 79) := by
  go_enter Try.func43, Try.ntmps43
  go_wp2_with (refine wpList_store_new rfl 79 (.tmp 0) (.tmp 7) rfl _ rowsV rfl rfl info37 rfl one37 ?_)
  refine bodyPost_ret (v := .agg rowsV) ?_ rfl ⟨rfl, rfl⟩
  rw [results_cell1 Try.results43]
  have h := run_loadVar_new (P := Try.prog) w 79 rowsV 6 78 Try.underlying79 info37
  simp [asAddr, Result.andThen, h, Act.put]
theorem holds13 (x y : Int) (w : World) : Calls Try.prog 44 #[.int .i64 x, .int .i64 y] w fun e w' => e = .returned (.bool (bits .andNot .i64 x y == 0)) ∧ w' = w := by
  go_enter Try.func44, Try.ntmps44
  go_wp2
  go_ret
  exact ⟨rfl, rfl⟩
/-- is a number a rune of the domain -/
theorem ix0 (w : World) : (Instr.index 79 (.agg rowsV) (.int .i64 0)).run Try.prog w = .ok (.agg #[.int .i64 1, .int .i64 2, .func (.func 63) #[] #[]]) w := rfl
theorem ix1 (w : World) : (Instr.index 79 (.agg rowsV) (.int .i64 1)).run Try.prog w = .ok (.agg #[.int .i64 2, .int .i64 1, .func (.func 64) #[] #[]]) w := rfl
theorem ix2 (w : World) : (Instr.index 79 (.agg rowsV) (.int .i64 2)).run Try.prog w = .ok (.agg #[.int .i64 4, .int .i64 8, .func (.func 65) #[] #[]]) w := rfl
theorem ix3 (w : World) : (Instr.index 79 (.agg rowsV) (.int .i64 3)).run Try.prog w = .ok (.agg #[.int .i64 8, .int .i64 4, .func (.func 66) #[] #[]]) w := rfl
theorem ix4 (w : World) : (Instr.index 79 (.agg rowsV) (.int .i64 4)).run Try.prog w = .ok (.agg #[.int .i64 16, .int .i64 16, .func (.func 67) #[] #[]]) w := rfl
theorem ix5 (w : World) : (Instr.index 79 (.agg rowsV) (.int .i64 5)).run Try.prog w = .ok (.agg #[.int .i64 32, .int .i64 32, .func (.func 68) #[] #[]]) w := rfl
theorem hold_row (k : Nat) (hk : k < 6) (x : Int) (w : World) (c : Int) (hc : c = ((2 ^ k : Nat) : Int)) : Calls Try.prog 44 #[.int .i64 c, .int .i64 x] w fun e w' => e = .returned (.bool (has6 k x)) ∧ w' = w := by
  subst hc
  have h := holds13 ((2 ^ k : Nat) : Int) x w
  rw [has_step k hk x] at h
  exact h
set_option maxRecDepth 100000 in
set_option maxHeartbeats 2000000 in
theorem flip14 (x : Int) (w : World) (hx : inR x) : Calls Try.prog 33 #[.int .i64 x] w fun e w' => e = .returned (.int .i64 (flipI x)) ∧ Below w.heap.size w w' := by
  have hrows := rows17
  have hc0 : bits .andNot .i64 (clr 0 x) 1 = clr 1 x := clr_step 0 (by omega) x hx
  have hc1 : bits .andNot .i64 (clr 1 x) 2 = clr 2 x := clr_step 1 (by omega) x hx
  have hc2 : bits .andNot .i64 (clr 2 x) 4 = clr 3 x := clr_step 2 (by omega) x hx
  have hc3 : bits .andNot .i64 (clr 3 x) 8 = clr 4 x := clr_step 3 (by omega) x hx
  have hc4 : bits .andNot .i64 (clr 4 x) 16 = clr 5 x := clr_step 4 (by omega) x hx
  have hc5 : bits .andNot .i64 (clr 5 x) 32 = clr 6 x := clr_step 5 (by omega) x hx
  have hp0 : has6 0 x = true → bits .or .i64 (put 0 x) 2 = put 1 x := put_step 0 (by omega) x hx
  have hp1 : has6 1 x = true → bits .or .i64 (put 1 x) 1 = put 2 x := put_step 1 (by omega) x hx
  have hp2 : has6 2 x = true → bits .or .i64 (put 2 x) 8 = put 3 x := put_step 2 (by omega) x hx
  have hp3 : has6 3 x = true → bits .or .i64 (put 3 x) 4 = put 4 x := put_step 3 (by omega) x hx
  have hp4 : has6 4 x = true → bits .or .i64 (put 4 x) 16 = put 5 x := put_step 4 (by omega) x hx
  have hp5 : has6 5 x = true → bits .or .i64 (put 5 x) 32 = put 6 x := put_step 5 (by omega) x hx
  have HP0 : Hid (has6 0 x = true → bits .or .i64 (put 0 x) 2 = put 1 x) := hp0
  have HP1 : Hid (has6 1 x = true → bits .or .i64 (put 1 x) 1 = put 2 x) := hp1
  have HP2 : Hid (has6 2 x = true → bits .or .i64 (put 2 x) 8 = put 3 x) := hp2
  have HP3 : Hid (has6 3 x = true → bits .or .i64 (put 3 x) 4 = put 4 x) := hp3
  have HP4 : Hid (has6 4 x = true → bits .or .i64 (put 4 x) 16 = put 5 x) := hp4
  have HP5 : Hid (has6 5 x = true → bits .or .i64 (put 5 x) 32 = put 6 x) := hp5
  have HX : Hid (inR x) := hx
  have hz0 := clr_zero x
  have hz1 := put_zero x
  have HZ0 : Hid (clr 0 x = x) := hz0
  have HZ1 : Hid (put 0 x = clr 6 x) := hz1
  clear hp0 hp1 hp2 hp3 hp4 hp5 hx hz0 hz1
  have hf : flipI x = put 6 x := rfl
  rw [hf]
  clear hf
  go_enter Try.func33, Try.ntmps33
  go_wp2_with (go_at_call 43; refine (hrows _).mono ?_; rintro e w' ⟨rfl, rfl⟩)
  go_loopw [3, 10] (fun f i wr => ∃ (k : Nat), k ≤ 6 ∧ i = .int .i64 k ∧ f = .int .i64 (clr k x) ∧ Below w.heap.size w wr) (fun _ i _ => 6 - (intOf i).toNat)
  case atStart => exact ⟨0, by omega, rfl, by rw [HZ0.out], (Below.refl _ _).alloc (Nat.le_refl _) _⟩
  case round =>
    obtain ⟨k, hk, rfl, rfl, hB⟩ := hrel
    have hsz := hB.size
    by_cases hlt : k < 6
    · have hk6 : k = 0 ∨ k = 1 ∨ k = 2 ∨ k = 3 ∨ k = 4 ∨ k = 5 := by omega
      rcases hk6 with rfl | rfl | rfl | rfl | rfl | rfl
      · have hix := ix0
        go_wp2
        go_roundw
        case rel => exact ⟨1, by omega, by go_num, by first | rfl | exact congrArg _ hc0, hB.alloc hsz _⟩
        case measure => simp [intOf]
      · have hix := ix1
        go_wp2
        go_roundw
        case rel => exact ⟨2, by omega, by go_num, by first | rfl | exact congrArg _ hc1, hB.alloc hsz _⟩
        case measure => simp [intOf]
      · have hix := ix2
        go_wp2
        go_roundw
        case rel => exact ⟨3, by omega, by go_num, by first | rfl | exact congrArg _ hc2, hB.alloc hsz _⟩
        case measure => simp [intOf]
      · have hix := ix3
        go_wp2
        go_roundw
        case rel => exact ⟨4, by omega, by go_num, by first | rfl | exact congrArg _ hc3, hB.alloc hsz _⟩
        case measure => simp [intOf]
      · have hix := ix4
        go_wp2
        go_roundw
        case rel => exact ⟨5, by omega, by go_num, by first | rfl | exact congrArg _ hc4, hB.alloc hsz _⟩
        case measure => simp [intOf]
      · have hix := ix5
        go_wp2
        go_roundw
        case rel => exact ⟨6, by omega, by go_num, by first | rfl | exact congrArg _ hc5, hB.alloc hsz _⟩
        case measure => simp [intOf]
    · obtain rfl : k = 6 := by omega
      clear hc0 hc1 hc2 hc3 hc4 hc5
      go_wp2_with (go_at_call 43; refine (hrows _).mono ?_; rintro e w' ⟨rfl, rfl⟩)
      go_loopw [3, 19] (fun f i wr => ∃ (k : Nat), k ≤ 6 ∧ i = .int .i64 k ∧ f = .int .i64 (put k x) ∧ Below w.heap.size w wr) (fun _ i _ => 6 - (intOf i).toNat)
      case atStart => exact ⟨0, by omega, rfl, by rw [HZ1.out], hB.alloc hsz _⟩
      case round =>
        obtain ⟨k, hk, rfl, rfl, hB⟩ := hrel
        have hsz := hB.size
        by_cases hlt : k < 6
        · have hk6 : k = 0 ∨ k = 1 ∨ k = 2 ∨ k = 3 ∨ k = 4 ∨ k = 5 := by omega
          rcases hk6 with rfl | rfl | rfl | rfl | rfl | rfl
          · have hix := ix0
            have hh := fun w => hold_row 0 (by omega) x w 1 rfl
            cases hb : has6 0 x
            · have hs := put_skip 0 x hb
              rw [hb] at hh
              clear hb
              have HS : Hid (put (0 + 1) x = put 0 x) := hs
              clear hs
              go_wp2_with (go_at_call 44; refine (hh _).mono ?_; rintro e w' ⟨rfl, rfl⟩)
              go_roundw
              case rel => exact ⟨1, by omega, by go_num, congrArg _ HS.out.symm, hB.alloc hsz _⟩
              case measure => simp [intOf]
            · have ho := HP0.out hb
              rw [hb] at hh
              clear hb
              go_wp2_with (go_at_call 44; refine (hh _).mono ?_; rintro e w' ⟨rfl, rfl⟩)
              go_roundw
              case rel => exact ⟨1, by omega, by go_num, by first | rfl | exact congrArg _ ho, hB.alloc hsz _⟩
              case measure => simp [intOf]
          · have hix := ix1
            have hh := fun w => hold_row 1 (by omega) x w 2 rfl
            cases hb : has6 1 x
            · have hs := put_skip 1 x hb
              rw [hb] at hh
              clear hb
              have HS : Hid (put (1 + 1) x = put 1 x) := hs
              clear hs
              go_wp2_with (go_at_call 44; refine (hh _).mono ?_; rintro e w' ⟨rfl, rfl⟩)
              go_roundw
              case rel => exact ⟨2, by omega, by go_num, congrArg _ HS.out.symm, hB.alloc hsz _⟩
              case measure => simp [intOf]
            · have ho := HP1.out hb
              rw [hb] at hh
              clear hb
              go_wp2_with (go_at_call 44; refine (hh _).mono ?_; rintro e w' ⟨rfl, rfl⟩)
              go_roundw
              case rel => exact ⟨2, by omega, by go_num, by first | rfl | exact congrArg _ ho, hB.alloc hsz _⟩
              case measure => simp [intOf]
          · have hix := ix2
            have hh := fun w => hold_row 2 (by omega) x w 4 rfl
            cases hb : has6 2 x
            · have hs := put_skip 2 x hb
              rw [hb] at hh
              clear hb
              have HS : Hid (put (2 + 1) x = put 2 x) := hs
              clear hs
              go_wp2_with (go_at_call 44; refine (hh _).mono ?_; rintro e w' ⟨rfl, rfl⟩)
              go_roundw
              case rel => exact ⟨3, by omega, by go_num, congrArg _ HS.out.symm, hB.alloc hsz _⟩
              case measure => simp [intOf]
            · have ho := HP2.out hb
              rw [hb] at hh
              clear hb
              go_wp2_with (go_at_call 44; refine (hh _).mono ?_; rintro e w' ⟨rfl, rfl⟩)
              go_roundw
              case rel => exact ⟨3, by omega, by go_num, by first | rfl | exact congrArg _ ho, hB.alloc hsz _⟩
              case measure => simp [intOf]
          · have hix := ix3
            have hh := fun w => hold_row 3 (by omega) x w 8 rfl
            cases hb : has6 3 x
            · have hs := put_skip 3 x hb
              rw [hb] at hh
              clear hb
              have HS : Hid (put (3 + 1) x = put 3 x) := hs
              clear hs
              go_wp2_with (go_at_call 44; refine (hh _).mono ?_; rintro e w' ⟨rfl, rfl⟩)
              go_roundw
              case rel => exact ⟨4, by omega, by go_num, congrArg _ HS.out.symm, hB.alloc hsz _⟩
              case measure => simp [intOf]
            · have ho := HP3.out hb
              rw [hb] at hh
              clear hb
              go_wp2_with (go_at_call 44; refine (hh _).mono ?_; rintro e w' ⟨rfl, rfl⟩)
              go_roundw
              case rel => exact ⟨4, by omega, by go_num, by first | rfl | exact congrArg _ ho, hB.alloc hsz _⟩
              case measure => simp [intOf]
          · have hix := ix4
            have hh := fun w => hold_row 4 (by omega) x w 16 rfl
            cases hb : has6 4 x
            · have hs := put_skip 4 x hb
              rw [hb] at hh
              clear hb
              have HS : Hid (put (4 + 1) x = put 4 x) := hs
              clear hs
              go_wp2_with (go_at_call 44; refine (hh _).mono ?_; rintro e w' ⟨rfl, rfl⟩)
              go_roundw
              case rel => exact ⟨5, by omega, by go_num, congrArg _ HS.out.symm, hB.alloc hsz _⟩
              case measure => simp [intOf]
            · have ho := HP4.out hb
              rw [hb] at hh
              clear hb
              go_wp2_with (go_at_call 44; refine (hh _).mono ?_; rintro e w' ⟨rfl, rfl⟩)
              go_roundw
              case rel => exact ⟨5, by omega, by go_num, by first | rfl | exact congrArg _ ho, hB.alloc hsz _⟩
              case measure => simp [intOf]
          · have hix := ix5
            have hh := fun w => hold_row 5 (by omega) x w 32 rfl
            cases hb : has6 5 x
            · have hs := put_skip 5 x hb
              rw [hb] at hh
              clear hb
              have HS : Hid (put (5 + 1) x = put 5 x) := hs
              clear hs
              go_wp2_with (go_at_call 44; refine (hh _).mono ?_; rintro e w' ⟨rfl, rfl⟩)
              go_roundw
              case rel => exact ⟨6, by omega, by go_num, congrArg _ HS.out.symm, hB.alloc hsz _⟩
              case measure => simp [intOf]
            · have ho := HP5.out hb
              rw [hb] at hh
              clear hb
              go_wp2_with (go_at_call 44; refine (hh _).mono ?_; rintro e w' ⟨rfl, rfl⟩)
              go_roundw
              case rel => exact ⟨6, by omega, by go_num, by first | rfl | exact congrArg _ ho, hB.alloc hsz _⟩
              case measure => simp [intOf]
        · obtain rfl : k = 6 := by omega
          go_wp2
          go_ret
          exact ⟨rfl, hB⟩
end Go.Proofs.Ytilpkeipjlnogaa
