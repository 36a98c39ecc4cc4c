/- HELPERS: the contract of the document's Holds. -/
import Derived.Test.YtoicnhcajhgbeaaFr
import Derived.Test.YtoicnhcajhgbeaaFl
import Derived.Test.YtoicnhcajhgbeaaHoM
namespace Go.Proofs.Ytoicnhcajhgbeaa
open Go.RowKit Go.Lk
set_option linter.unusedVariables false
set_option linter.unusedSimpArgs false
theorem holdB13 (x y : Int) (w : World) : Calls Try.prog 13 #[.int .i64 x, .int .i64 y] w fun e w' => e = .returned (.bool (holdsB x y)) ∧ w' = w := holds13 x y w
theorem sh_bit (x : Int) (k : Nat) (hk : k < 64) : (bits .and .i64 (x / 2 ^ k) 1 == 1) = bitI x k ∧ (bits .and .i64 (x / 2 ^ k) 1 == 0) = !bitI x k := by
  rw [and_one]
  unfold bitI
  have e : ((2 ^ k : Nat) : Int) = (2 : Int) ^ k := by simp
  rw [e]
  generalize x / 2 ^ k = z
  constructor
  · rw [Bool.eq_iff_iff]; simp
  · rw [Bool.eq_iff_iff]; simp; omega
set_option maxHeartbeats 1000000 in
theorem holds15 (x y : Int) (w : World) : Calls Try.prog 15 #[.int .i64 x, .int .i64 y] w fun e w' => e = .returned (.bool (holdsB x y)) ∧ w' = w := by
  have HR : Hid (holdsB x y = true ↔ ∀ j, j < 64 → bitI x j = true → bitI y j = true) := by
    show _ ↔ _
    unfold holdsB
    rw [beq_iff_eq, holds_iff]
  generalize holdsB x y = R at HR ⊢
  go_enter Try.func15, Try.ntmps15
  go_wp2
  go_loopw [5] (fun i wr => ∃ (k : Nat), k ≤ 64 ∧ i = .int .i64 k ∧ wr = w ∧ Hid (∀ j, j < k → bitI x j = true → bitI y j = true)) (fun i _ => 64 - (intOf i).toNat)
  case atStart => exact ⟨0, by omega, rfl, rfl, fun j hj => absurd hj (by omega)⟩
  case round =>
    obtain ⟨k, hk, rfl, rfl, HB⟩ := hrel
    by_cases hlt : k < 64
    · obtain ⟨e1, e2⟩ := sh_bit x k hlt
      obtain ⟨e3, e4⟩ := sh_bit y k hlt
      have hmin : min k 64 = k := by omega
      cases hx : bitI x k
      · have HS : Hid (∀ j, j < k + 1 → bitI x j = true → bitI y j = true) := by
          intro j hj hb
          by_cases hjk : j = k
          · subst hjk; rw [hx] at hb; cases hb
          · exact HB.out j (by omega) hb
        rw [hx] at e1 e2
        clear hx HB
        go_wp2
        go_roundw
        case rel => exact ⟨k + 1, by omega, by go_num, trivial, HS⟩
        case measure => simp [intOf]; omega
      · cases hy : bitI y k
        · have hR : R = false := by
            cases R
            · rfl
            · have h2 := HR.out.1 rfl k hlt hx
              rw [hy] at h2; cases h2
          subst hR
          rw [hx] at e1 e2
          rw [hy] at e3 e4
          clear hx hy HB HR
          go_wp2
          go_ret
          exact ⟨rfl, rfl⟩
        · have HS : Hid (∀ j, j < k + 1 → bitI x j = true → bitI y j = true) := by
            intro j hj hb
            by_cases hjk : j = k
            · subst hjk; exact hy
            · exact HB.out j (by omega) hb
          rw [hx] at e1 e2
          rw [hy] at e3 e4
          clear hx hy HB
          go_wp2
          go_roundw
          case rel => exact ⟨k + 1, by omega, by go_num, trivial, HS⟩
          case measure => simp [intOf]; omega
    · obtain rfl : k = 64 := by omega
      have hR : R = true := HR.out.2 (fun j hj => HB.out j hj)
      subst hR
      go_wp2
      go_ret
      exact ⟨rfl, rfl⟩
/-- the text of awake -/
theorem text_new (w0 : World) (l : List Int) (n : Nat) (hn : n = l.length) (hs : n ≤ 1000) : TextAt (w0.alloc (.cells (l.map (Value.int .i64)).toArray 3)).heap.size (w0.alloc (.cells (l.map (Value.int .i64)).toArray 3)) (some ⟨w0.heap.size, 0, none⟩) n l := by
  refine ⟨hn, by omega, .inr ⟨_, 0, rfl, by simp, fun k hk => ?_⟩⟩
  rw [Nat.zero_add, World.cell?_alloc_at _ _ _ _ rfl]
  simp [show k < l.length by omega]
theorem ex_at1 : atN [97, 10, 98] 1 = 24 := by decide +kernel
theorem ex_at2 : atN [97, 10, 98] 2 = 20 := by decide +kernel
theorem ex_h1 : holdsB 16 47 = false := by decide +kernel
theorem ex_h2 : holdsB 36 47 = true := by decide +kernel
theorem ex_f : flipI 9 = 6 := by decide +kernel
set_option maxHeartbeats 1000000 in
theorem awake8 (w : World) : Calls Try.prog 8 #[] w fun e w' => e = .returned (.bool true) ∧ Below w.heap.size w w' := by
  have HB0 : Hid (Below w.heap.size w (w.alloc (.cells #[.int .i64 97, .int .i64 10, .int .i64 98] 3))) := (Below.refl _ _).alloc (Nat.le_refl _) _
  have HT0 : Hid (TextAt (w.alloc (.cells #[.int .i64 97, .int .i64 10, .int .i64 98] 3)).heap.size (w.alloc (.cells #[.int .i64 97, .int .i64 10, .int .i64 98] 3)) (some ⟨w.heap.size, 0, none⟩) 3 [97, 10, 98]) := text_new w [97, 10, 98] 3 rfl (by omega)
  have h13a := fun w => holdB13 16 47 w
  have h13b := fun w => holdB13 36 47 w
  have h14 := fun w => flip14 9 w (by unfold inR; omega)
  rw [ex_h1] at h13a
  rw [ex_h2] at h13b
  rw [ex_f] at h14
  go_enter Try.func8, Try.ntmps8
  go_wp2_with fail
  have ha := at10 [97, 10, 98] (some ⟨w.heap.size, 0, none⟩) 3 3 1 _ HT0.out
  rw [ex_at1] at ha
  refine ha.mono ?_
  rintro e w1 ⟨rfl, hb1⟩
  clear ha
  go_wp2_with fail
  have ha := at10 [97, 10, 98] (some ⟨w.heap.size, 0, none⟩) 3 3 2 w1 ((HT0.out.below hb1).mono hb1.size)
  rw [ex_at2] at ha
  refine ha.mono ?_
  rintro e w2 ⟨rfl, hb2⟩
  clear ha
  have hB : Below w.heap.size w w2 := (HB0.out.trans (hb1.mono HB0.out.size)).trans (hb2.mono (Nat.le_trans HB0.out.size hb1.size))
  clear hb1 hb2
  go_wp2_with fail
  refine (h13a _).mono ?_
  rintro e w' ⟨rfl, rfl⟩
  go_wp2_with fail
  refine (h13b _).mono ?_
  rintro e w' ⟨rfl, rfl⟩
  go_wp2_with fail
  refine (h14 _).mono ?_
  rintro e w3 ⟨rfl, hb3⟩
  go_wp2
  go_ret
  exact ⟨rfl, hB.trans (hb3.mono hB.size)⟩
end Go.Proofs.Ytoicnhcajhgbeaa
