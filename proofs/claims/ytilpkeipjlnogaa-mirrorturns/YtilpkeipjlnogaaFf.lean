/- HELPERS: the document's Flip. -/
import Derived.Test.YtilpkeipjlnogaaFl
import Derived.Test.YtilpkeipjlnogaaOb
namespace Go.Proofs.Ytilpkeipjlnogaa
open Go.RowKit Go.Lk
set_option linter.unusedVariables false
set_option linter.unusedSimpArgs false
theorem sw_tab (m : Fin 64) : bk 6 m.val + m.val % 16 = m.val + (if m.val % 2 = 1 then 2 else 0) + (if m.val / 2 % 2 = 1 then 1 else 0) + (if m.val / 4 % 2 = 1 then 8 else 0) + (if m.val / 8 % 2 = 1 then 4 else 0) := by
  revert m; decide +kernel
theorem flip_sum (x : Int) : flipI x = x - x % 16 + (if x % 2 = 1 then 2 else 0) + (if x / 2 % 2 = 1 then 1 else 0) + (if x / 4 % 2 = 1 then 8 else 0) + (if x / 8 % 2 = 1 then 4 else 0) := by
  have h := sw_tab ⟨(x % 64).toNat, by omega⟩
  simp only at h
  have hf : flipI x = x - x % 64 + (bk 6 (x % 64).toNat : Nat) := rfl
  rw [hf]
  have e1 : ((x % 64).toNat % 2 = 1) = (x % 2 = 1) := by simp only [eq_iff_iff]; omega
  have e2 : ((x % 64).toNat / 2 % 2 = 1) = (x / 2 % 2 = 1) := by simp only [eq_iff_iff]; omega
  have e3 : ((x % 64).toNat / 4 % 2 = 1) = (x / 4 % 2 = 1) := by simp only [eq_iff_iff]; omega
  have e4 : ((x % 64).toNat / 8 % 2 = 1) = (x / 8 % 2 = 1) := by simp only [eq_iff_iff]; omega
  simp only [e1, e2, e3, e4] at h
  generalize bk 6 (x % 64).toNat = B at h ⊢
  split at h <;> split at h <;> split at h <;> split at h <;> simp_all <;> omega
theorem and_one (x : Int) : bits .and .i64 x 1 = x % 2 := by
  have h := bit_and x 1 (by omega)
  have hA : ∀ m : Fin 64, m.val &&& 1 = m.val % 2 := by decide +kernel
  have h2 := hA ⟨(x % 64).toNat, by omega⟩
  simp only at h2
  rw [show ((1 : Nat) : Int) = 1 from rfl, h2] at h
  rw [h]; omega
theorem and_two (x : Int) : bits .and .i64 x 2 = 2 * (x / 2 % 2) := by
  have h := bit_and x 2 (by omega)
  have hA : ∀ m : Fin 64, m.val &&& 2 = 2 * (m.val / 2 % 2) := by decide +kernel
  have h2 := hA ⟨(x % 64).toNat, by omega⟩
  simp only at h2
  rw [show ((2 : Nat) : Int) = 2 from rfl, h2] at h
  rw [h]; omega
theorem and_four (x : Int) : bits .and .i64 x 4 = 4 * (x / 4 % 2) := by
  have h := bit_and x 4 (by omega)
  have hA : ∀ m : Fin 64, m.val &&& 4 = 4 * (m.val / 4 % 2) := by decide +kernel
  have h2 := hA ⟨(x % 64).toNat, by omega⟩
  simp only at h2
  rw [show ((4 : Nat) : Int) = 4 from rfl, h2] at h
  rw [h]; omega
theorem and_eight (x : Int) : bits .and .i64 x 8 = 8 * (x / 8 % 2) := by
  have h := bit_and x 8 (by omega)
  have hA : ∀ m : Fin 64, m.val &&& 8 = 8 * (m.val / 8 % 2) := by decide +kernel
  have h2 := hA ⟨(x % 64).toNat, by omega⟩
  simp only at h2
  rw [show ((8 : Nat) : Int) = 8 from rfl, h2] at h
  rw [h]; omega
theorem and_fifteen (x : Int) : bits .and .i64 x 15 = x % 16 := by
  have h := bit_and x 15 (by omega)
  have hA : ∀ m : Fin 64, m.val &&& 15 = m.val % 16 := by decide +kernel
  have h2 := hA ⟨(x % 64).toNat, by omega⟩
  simp only at h2
  rw [show ((15 : Nat) : Int) = 15 from rfl, h2] at h
  rw [h]; omega
set_option maxHeartbeats 1000000 in
theorem flip16 (x : Int) (w : World) (hx : inR x) : Calls Try.prog 36 #[.int .i64 x] w fun e w' => e = .returned (.int .i64 (flipI x)) ∧ w' = w := by
  have HF : Hid (flipI x = x - x % 16 + (if x % 2 = 1 then 2 else 0) + (if x / 2 % 2 = 1 then 1 else 0) + (if x / 4 % 2 = 1 then 8 else 0) + (if x / 8 % 2 = 1 then 4 else 0)) := flip_sum x
  generalize flipI x = F at HF ⊢
  have a1 := and_one x
  have a2 := and_two x
  have a4 := and_four x
  have a8 := and_eight x
  have a15 := and_fifteen x
  obtain ⟨h0, h1⟩ := hx
  have r1 : 0 ≤ x % 16 ∧ x % 16 ≤ 15 := by omega
  go_enter Try.func36, Try.ntmps36
  go_wp2
  all_goals go_ret
  all_goals refine ⟨ret_int ?_, rfl⟩
  all_goals
    (rw [HF.out]
     clear HF a1 a2 a4 a8 a15
     simp only [bne_iff_ne, ne_eq, bne_eq_false_iff_eq] at *
     (repeat' split) <;> omega)
end Go.Proofs.Ytilpkeipjlnogaa
