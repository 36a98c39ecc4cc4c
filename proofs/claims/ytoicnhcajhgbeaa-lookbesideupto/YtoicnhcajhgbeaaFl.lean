/- HELPERS: the contracts of Flip and of the document's Flip. -/
import Derived.Test.YtoicnhcajhgbeaaAt
import Derived.Test.YtoicnhcajhgbeaaLkM
namespace Go.Proofs.Ytoicnhcajhgbeaa
open Go.RowKit Go.Lk
set_option linter.unusedVariables false
set_option linter.unusedSimpArgs false
theorem hold_row (k : Nat) (hk : k < 6) (x : Int) (w : World) (c : Int) (hc : c = ((2 ^ k : Nat) : Int)) : Calls Try.prog 13 #[.int .i64 c, .int .i64 x] w fun e w' => e = .returned (.bool (has6 k x)) ∧ w' = w := by
  subst hc
  have h := holds13 ((2 ^ k : Nat) : Int) x w
  rw [has_step k hk x] at h
  exact h
set_option maxHeartbeats 1000000 in
theorem flip14 (x : Int) (w : World) (hx : inR x) : Calls Try.prog 14 #[.int .i64 x] w fun e w' => e = .returned (.int .i64 (flipI x)) ∧ Below w.heap.size w w' := by
  have hrows := rows17
  have hc0 : bits .andNot .i64 (clr 0 x) 1 = clr 1 x := clr_step 0 (by omega) x hx
  have hc1 : bits .andNot .i64 (clr 1 x) 2 = clr 2 x := clr_step 1 (by omega) x hx
  have hc2 : bits .andNot .i64 (clr 2 x) 4 = clr 3 x := clr_step 2 (by omega) x hx
  have hc3 : bits .andNot .i64 (clr 3 x) 8 = clr 4 x := clr_step 3 (by omega) x hx
  have hc4 : bits .andNot .i64 (clr 4 x) 16 = clr 5 x := clr_step 4 (by omega) x hx
  have hc5 : bits .andNot .i64 (clr 5 x) 32 = clr 6 x := clr_step 5 (by omega) x hx
  have hp0 : has6 0 x = true → bits .or .i64 (put 0 x) 2 = put 1 x := put_step 0 (by omega) x hx
  have hp1 : has6 1 x = true → bits .or .i64 (put 1 x) 1 = put 2 x := put_step 1 (by omega) x hx
  have hp2 : has6 2 x = true → bits .or .i64 (put 2 x) 8 = put 3 x := put_step 2 (by omega) x hx
  have hp3 : has6 3 x = true → bits .or .i64 (put 3 x) 4 = put 4 x := put_step 3 (by omega) x hx
  have hp4 : has6 4 x = true → bits .or .i64 (put 4 x) 16 = put 5 x := put_step 4 (by omega) x hx
  have hp5 : has6 5 x = true → bits .or .i64 (put 5 x) 32 = put 6 x := put_step 5 (by omega) x hx
  have HP0 : Hid (has6 0 x = true → bits .or .i64 (put 0 x) 2 = put 1 x) := hp0
  have HP1 : Hid (has6 1 x = true → bits .or .i64 (put 1 x) 1 = put 2 x) := hp1
  have HP2 : Hid (has6 2 x = true → bits .or .i64 (put 2 x) 8 = put 3 x) := hp2
  have HP3 : Hid (has6 3 x = true → bits .or .i64 (put 3 x) 4 = put 4 x) := hp3
  have HP4 : Hid (has6 4 x = true → bits .or .i64 (put 4 x) 16 = put 5 x) := hp4
  have HP5 : Hid (has6 5 x = true → bits .or .i64 (put 5 x) 32 = put 6 x) := hp5
  have HX : Hid (inR x) := hx
  have hz0 := clr_zero x
  have hz1 := put_zero x
  have HZ0 : Hid (clr 0 x = x) := hz0
  have HZ1 : Hid (put 0 x = clr 6 x) := hz1
  clear hp0 hp1 hp2 hp3 hp4 hp5 hx hz0 hz1
  have hf : flipI x = put 6 x := rfl
  rw [hf]
  clear hf
  go_enter Try.func14, Try.ntmps14
  go_wp2_with (go_at_call 17; refine (hrows _).mono ?_; rintro e w' ⟨rfl, rfl⟩)
  go_loopw [3, 10] (fun f i wr => ∃ (k : Nat), k ≤ 6 ∧ i = .int .i64 k ∧ f = .int .i64 (clr k x) ∧ Below w.heap.size w wr) (fun _ i _ => 6 - (intOf i).toNat)
  case atStart => exact ⟨0, by omega, rfl, by rw [HZ0.out], (Below.refl _ _).alloc (Nat.le_refl _) _⟩
  case round =>
    obtain ⟨k, hk, rfl, rfl, hB⟩ := hrel
    have hsz := hB.size
    by_cases hlt : k < 6
    · have hk6 : k = 0 ∨ k = 1 ∨ k = 2 ∨ k = 3 ∨ k = 4 ∨ k = 5 := by omega
      rcases hk6 with rfl | rfl | rfl | rfl | rfl | rfl
      · have hix := ix0
        go_wp2
        go_roundw
        case rel => exact ⟨1, by omega, by go_num, by first | rfl | exact congrArg _ hc0, hB.alloc hsz _⟩
        case measure => simp [intOf]
      · have hix := ix1
        go_wp2
        go_roundw
        case rel => exact ⟨2, by omega, by go_num, by first | rfl | exact congrArg _ hc1, hB.alloc hsz _⟩
        case measure => simp [intOf]
      · have hix := ix2
        go_wp2
        go_roundw
        case rel => exact ⟨3, by omega, by go_num, by first | rfl | exact congrArg _ hc2, hB.alloc hsz _⟩
        case measure => simp [intOf]
      · have hix := ix3
        go_wp2
        go_roundw
        case rel => exact ⟨4, by omega, by go_num, by first | rfl | exact congrArg _ hc3, hB.alloc hsz _⟩
        case measure => simp [intOf]
      · have hix := ix4
        go_wp2
        go_roundw
        case rel => exact ⟨5, by omega, by go_num, by first | rfl | exact congrArg _ hc4, hB.alloc hsz _⟩
        case measure => simp [intOf]
      · have hix := ix5
        go_wp2
        go_roundw
        case rel => exact ⟨6, by omega, by go_num, by first | rfl | exact congrArg _ hc5, hB.alloc hsz _⟩
        case measure => simp [intOf]
    · obtain rfl : k = 6 := by omega
      clear hc0 hc1 hc2 hc3 hc4 hc5
      go_wp2_with (go_at_call 17; refine (hrows _).mono ?_; rintro e w' ⟨rfl, rfl⟩)
      go_loopw [3, 19] (fun f i wr => ∃ (k : Nat), k ≤ 6 ∧ i = .int .i64 k ∧ f = .int .i64 (put k x) ∧ Below w.heap.size w wr) (fun _ i _ => 6 - (intOf i).toNat)
      case atStart => exact ⟨0, by omega, rfl, by rw [HZ1.out], hB.alloc hsz _⟩
      case round =>
        obtain ⟨k, hk, rfl, rfl, hB⟩ := hrel
        have hsz := hB.size
        by_cases hlt : k < 6
        · have hk6 : k = 0 ∨ k = 1 ∨ k = 2 ∨ k = 3 ∨ k = 4 ∨ k = 5 := by omega
          rcases hk6 with rfl | rfl | rfl | rfl | rfl | rfl
          · have hix := ix0
            have hh := fun w => hold_row 0 (by omega) x w 1 rfl
            cases hb : has6 0 x
            · have hs := put_skip 0 x hb
              rw [hb] at hh
              clear hb
              have HS : Hid (put (0 + 1) x = put 0 x) := hs
              clear hs
              go_wp2_with (go_at_call 13; refine (hh _).mono ?_; rintro e w' ⟨rfl, rfl⟩)
              go_roundw
              case rel => exact ⟨1, by omega, by go_num, congrArg _ HS.out.symm, hB.alloc hsz _⟩
              case measure => simp [intOf]
            · have ho := HP0.out hb
              rw [hb] at hh
              clear hb
              go_wp2_with (go_at_call 13; refine (hh _).mono ?_; rintro e w' ⟨rfl, rfl⟩)
              go_roundw
              case rel => exact ⟨1, by omega, by go_num, by first | rfl | exact congrArg _ ho, hB.alloc hsz _⟩
              case measure => simp [intOf]
          · have hix := ix1
            have hh := fun w => hold_row 1 (by omega) x w 2 rfl
            cases hb : has6 1 x
            · have hs := put_skip 1 x hb
              rw [hb] at hh
              clear hb
              have HS : Hid (put (1 + 1) x = put 1 x) := hs
              clear hs
              go_wp2_with (go_at_call 13; refine (hh _).mono ?_; rintro e w' ⟨rfl, rfl⟩)
              go_roundw
              case rel => exact ⟨2, by omega, by go_num, congrArg _ HS.out.symm, hB.alloc hsz _⟩
              case measure => simp [intOf]
            · have ho := HP1.out hb
              rw [hb] at hh
              clear hb
              go_wp2_with (go_at_call 13; refine (hh _).mono ?_; rintro e w' ⟨rfl, rfl⟩)
              go_roundw
              case rel => exact ⟨2, by omega, by go_num, by first | rfl | exact congrArg _ ho, hB.alloc hsz _⟩
              case measure => simp [intOf]
          · have hix := ix2
            have hh := fun w => hold_row 2 (by omega) x w 4 rfl
            cases hb : has6 2 x
            · have hs := put_skip 2 x hb
              rw [hb] at hh
              clear hb
              have HS : Hid (put (2 + 1) x = put 2 x) := hs
              clear hs
              go_wp2_with (go_at_call 13; refine (hh _).mono ?_; rintro e w' ⟨rfl, rfl⟩)
              go_roundw
              case rel => exact ⟨3, by omega, by go_num, congrArg _ HS.out.symm, hB.alloc hsz _⟩
              case measure => simp [intOf]
            · have ho := HP2.out hb
              rw [hb] at hh
              clear hb
              go_wp2_with (go_at_call 13; refine (hh _).mono ?_; rintro e w' ⟨rfl, rfl⟩)
              go_roundw
              case rel => exact ⟨3, by omega, by go_num, by first | rfl | exact congrArg _ ho, hB.alloc hsz _⟩
              case measure => simp [intOf]
          · have hix := ix3
            have hh := fun w => hold_row 3 (by omega) x w 8 rfl
            cases hb : has6 3 x
            · have hs := put_skip 3 x hb
              rw [hb] at hh
              clear hb
              have HS : Hid (put (3 + 1) x = put 3 x) := hs
              clear hs
              go_wp2_with (go_at_call 13; refine (hh _).mono ?_; rintro e w' ⟨rfl, rfl⟩)
              go_roundw
              case rel => exact ⟨4, by omega, by go_num, congrArg _ HS.out.symm, hB.alloc hsz _⟩
              case measure => simp [intOf]
            · have ho := HP3.out hb
              rw [hb] at hh
              clear hb
              go_wp2_with (go_at_call 13; refine (hh _).mono ?_; rintro e w' ⟨rfl, rfl⟩)
              go_roundw
              case rel => exact ⟨4, by omega, by go_num, by first | rfl | exact congrArg _ ho, hB.alloc hsz _⟩
              case measure => simp [intOf]
          · have hix := ix4
            have hh := fun w => hold_row 4 (by omega) x w 16 rfl
            cases hb : has6 4 x
            · have hs := put_skip 4 x hb
              rw [hb] at hh
              clear hb
              have HS : Hid (put (4 + 1) x = put 4 x) := hs
              clear hs
              go_wp2_with (go_at_call 13; refine (hh _).mono ?_; rintro e w' ⟨rfl, rfl⟩)
              go_roundw
              case rel => exact ⟨5, by omega, by go_num, congrArg _ HS.out.symm, hB.alloc hsz _⟩
              case measure => simp [intOf]
            · have ho := HP4.out hb
              rw [hb] at hh
              clear hb
              go_wp2_with (go_at_call 13; refine (hh _).mono ?_; rintro e w' ⟨rfl, rfl⟩)
              go_roundw
              case rel => exact ⟨5, by omega, by go_num, by first | rfl | exact congrArg _ ho, hB.alloc hsz _⟩
              case measure => simp [intOf]
          · have hix := ix5
            have hh := fun w => hold_row 5 (by omega) x w 32 rfl
            cases hb : has6 5 x
            · have hs := put_skip 5 x hb
              rw [hb] at hh
              clear hb
              have HS : Hid (put (5 + 1) x = put 5 x) := hs
              clear hs
              go_wp2_with (go_at_call 13; refine (hh _).mono ?_; rintro e w' ⟨rfl, rfl⟩)
              go_roundw
              case rel => exact ⟨6, by omega, by go_num, congrArg _ HS.out.symm, hB.alloc hsz _⟩
              case measure => simp [intOf]
            · have ho := HP5.out hb
              rw [hb] at hh
              clear hb
              go_wp2_with (go_at_call 13; refine (hh _).mono ?_; rintro e w' ⟨rfl, rfl⟩)
              go_roundw
              case rel => exact ⟨6, by omega, by go_num, by first | rfl | exact congrArg _ ho, hB.alloc hsz _⟩
              case measure => simp [intOf]
        · obtain rfl : k = 6 := by omega
          go_wp2
          go_ret
          exact ⟨rfl, hB⟩
end Go.Proofs.Ytoicnhcajhgbeaa
