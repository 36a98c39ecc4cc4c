/- HELPERS: names. -/
import Derived.Test.YtdidopgenhpakaaTd
namespace Go.Proofs.Ytdidopgenhpakaa
open Go.RowKit
set_option linter.unusedVariables false
set_option linter.unusedSimpArgs false
/-- a byte that may stand in a name -/
def okC (c : Int) (i : Nat) : Bool := decide (97 ≤ c ∧ c ≤ 122 ∨ 65 ≤ c ∧ c ≤ 90 ∨ c = 95 ∨ 48 ≤ c ∧ c ≤ 57 ∧ i ≠ 0)
def okAt (s : ByteArray) (i : Nat) : Bool := if h : i < s.size then okC (s[i].toNat : Int) i else true
/-- a name -/
def nameB (s : ByteArray) : Bool := decide (1 ≤ s.size) && decide (s.size ≤ 32) && (List.range s.size).all (okAt s)
theorem okAt_eq {s : ByteArray} {i : Nat} (h : i < s.size) : okAt s i = okC (s[i].toNat : Int) i := by unfold okAt; rw [dif_pos h]
theorem name_false {s : ByteArray} (i : Nat) (hi : i < s.size) (h : okC (s[i].toNat : Int) i = false) : nameB s = false := by
  have e : (List.range s.size).all (okAt s) = false := by
    rw [List.all_eq_false]
    exact ⟨i, by simpa using hi, by rw [okAt_eq hi, h]; simp⟩
  unfold nameB
  rw [e]; simp
theorem name_true {s : ByteArray} (h1 : 1 ≤ s.size) (h2 : s.size ≤ 32) (h : ∀ j, j < s.size → okAt s j = true) : nameB s = true := by
  unfold nameB
  rw [decide_eq_true h1, decide_eq_true h2]
  simpa using h
theorem name_long {s : ByteArray} (h : ¬ (1 ≤ s.size ∧ s.size ≤ 32)) : nameB s = false := by
  unfold nameB
  by_cases h1 : 1 ≤ s.size
  · rw [decide_eq_false (show ¬ s.size ≤ 32 by omega)]; simp
  · rw [decide_eq_false h1]; simp
set_option maxRecDepth 100000 in
set_option maxHeartbeats 4000000 in
theorem name75s (s : ByteArray) (w : World) (h1 : 1 ≤ s.size) (h2 : s.size ≤ 32) : Calls Try.prog 79 #[.string s] w fun e w' => e = .returned (.bool (nameB s)) ∧ w' = w := by
  have b1 : decide ((s.size : Int) < 1) = false := by simp; omega
  have b2 : decide ((s.size : Int) > 32) = false := by simp; omega
  have b2' : decide (32 < (s.size : Int)) = false := by simp; omega
  obtain ⟨r, hr⟩ : ∃ r, r = nameB s := ⟨_, rfl⟩
  rw [← hr]
  have HR := hid' hr
  clear hr
  go_enter Try.func79, Try.ntmps79
  go_wp2_with fail
  go_loopw [3] (fun y wq => ∃ i : Nat, y = .int .i64 (i : Int) ∧ i ≤ s.size ∧ Hid (∀ j, j < i → okAt s j = true) ∧ wq = w) (fun y _ => s.size - (intOf y).toNat)
  case atStart => exact ⟨0, rfl, by omega, fun j hj => by omega, rfl⟩
  case round =>
    obtain ⟨i, rfl, hi, HJ, rfl⟩ := hrel
    by_cases hil : i < s.size
    · have b1 : decide ((i : Int) < (s.size : Int)) = true := by simp; omega
      have b2 : (i : Int) < (s.size : Int) := by omega
      have ad1 : IntKind.i64.wrap ((i : Int) + 1) = (i : Int) + 1 := by simp [IntKind.wrap, IntKind.bits, IntKind.signed]; omega
      have HC : Hid (∀ (c : Int), c = (s[i].toNat : Int) → okC c i = true → ∀ j, j < i + 1 → okAt s j = true) := fun c hc h j hj => by
        by_cases e : j = i
        · subst e; rw [okAt_eq hil, ← hc]; exact h
        · exact HJ.out j (by omega)
      have HD : Hid (∀ (c : Int), c = (s[i].toNat : Int) → okC c i = false → r = false) := fun c hc h => by rw [HR.out]; exact name_false i hil (by rw [← hc]; exact h)
      go_wp2
      all_goals first
        | (refine ⟨⟨i + 1, by push_cast; rfl, by omega, HC.out _ rfl (by simp_all [okC] <;> omega), by trivial⟩, ?_⟩; (simp [intOf]; omega))
        | (go_ret; refine ⟨ret_bool ?_, rfl⟩; exact (HD.out _ rfl (by simp_all [okC] <;> omega)).symm)
    · have b1 : decide ((i : Int) < (s.size : Int)) = false := by simp; omega
      have e : r = true := by rw [HR.out]; exact name_true h1 h2 fun j hj => HJ.out j (by omega)
      subst e
      go_wp2
      go_ret
      exact ⟨rfl, rfl⟩
theorem name75 (s : ByteArray) (w : World) (hs : s.size ≤ 9223372036854775807) : Calls Try.prog 79 #[.string s] w fun e w' => e = .returned (.bool (nameB s)) ∧ w' = w := by
  by_cases h : 1 ≤ s.size ∧ s.size ≤ 32
  · exact name75s s w h.1 h.2
  · rw [name_long h]
    by_cases h1 : 1 ≤ s.size
    · have b1 : decide ((s.size : Int) < 1) = false := by simp; omega
      have b2 : decide ((s.size : Int) > 32) = true := by simp; omega
      have b2' : decide (32 < (s.size : Int)) = true := by simp; omega
      go_enter Try.func79, Try.ntmps79
      go_wp2
      go_ret
      exact ⟨rfl, rfl⟩
    · have b1 : decide ((s.size : Int) < 1) = true := by simp; omega
      go_enter Try.func79, Try.ntmps79
      go_wp2
      go_ret
      exact ⟨rfl, rfl⟩
set_option maxRecDepth 100000 in
set_option maxHeartbeats 4000000 in
theorem word103 (c : Nat) (w : World) (hc : c < 256) : Calls Try.prog 120 #[.int .i64 (c : Int)] w fun e w' => e = .returned (.bool (okC (c : Int) 1)) ∧ w' = w := by
  go_enter Try.func120, Try.ntmps120
  go_wp2
  all_goals go_ret
  all_goals exact ⟨ret_bool (by rw [Bool.eq_iff_iff]; simp [okC]; omega), rfl⟩
theorem digit102 (c : Nat) (w : World) (hc : c < 256) : Calls Try.prog 119 #[.int .u8 (c : Int)] w fun e w' => e = .returned (.bool (decide (48 ≤ (c : Int) ∧ (c : Int) ≤ 57))) ∧ w' = w := by
  go_enter Try.func119, Try.ntmps119
  go_wp2
  all_goals go_ret
  all_goals exact ⟨ret_bool (by rw [Bool.eq_iff_iff]; simp; omega), rfl⟩
set_option maxRecDepth 100000 in
set_option maxHeartbeats 4000000 in
theorem name79s (s : ByteArray) (w : World) (h1 : 1 ≤ s.size) (h2 : s.size ≤ 32) : Calls Try.prog 93 #[.string s] w fun e w' => e = .returned (.bool (nameB s)) ∧ w' = w := by
  have e1 : s.toList.isEmpty = false := by
    cases h : s.toList.isEmpty
    · rfl
    · exfalso
      rw [List.isEmpty_iff] at h
      have : s.toList.length = s.size := by rw [ByteArray.toList_eq]; exact Array.length_toList
      rw [h] at this
      simp at this
      omega
  have b2 : decide ((s.size : Int) > 32) = false := by simp; omega
  have b2' : decide (32 < (s.size : Int)) = false := by simp; omega
  have b3 : (0 : Int) < (s.size : Int) := by omega
  have HD := digit102 (s[0].toNat) w (by have := s[0].toNat_lt; omega)
  obtain ⟨r, hr⟩ : ∃ r, r = nameB s := ⟨_, rfl⟩
  rw [← hr]
  have HR := hid' hr
  clear hr
  by_cases hd : (48 : Int) ≤ (s[0].toNat : Int) ∧ (s[0].toNat : Int) ≤ 57
  · rw [decide_eq_true hd] at HD
    have e : r = false := by rw [HR.out]; exact name_false 0 (by omega) (by simp [okC]; omega)
    subst e
    go_enter Try.func93, Try.ntmps93
    go_wp2_with (first | (go_at_call 119; (with_reducible refine HD.mono ?_); rintro e w2 ⟨rfl, hww⟩; have hwv := hww.symm; subst hwv; clear hww))
    go_ret
    exact ⟨rfl, rfl⟩
  · rw [decide_eq_false hd] at HD
    go_enter Try.func93, Try.ntmps93
    go_wp2_with (first | (go_at_call 119; (with_reducible refine HD.mono ?_); rintro e w2 ⟨rfl, hww⟩; have hwv := hww.symm; subst hwv; clear hww))
    go_loopw [18] (fun y wq => ∃ i : Nat, y = .int .i64 (i : Int) ∧ i ≤ s.size ∧ Hid (∀ j, j < i → okAt s j = true) ∧ wq = w) (fun y _ => s.size - (intOf y).toNat)
    case atStart => exact ⟨0, rfl, by omega, fun j hj => by omega, rfl⟩
    case round =>
      obtain ⟨i, rfl, hi, HJ, rfl⟩ := hrel
      by_cases hil : i < s.size
      · have b1 : decide ((i : Int) < (s.size : Int)) = true := by simp; omega
        have b2 : (i : Int) < (s.size : Int) := by omega
        have ad1 : IntKind.i64.wrap ((i : Int) + 1) = (i : Int) + 1 := by simp [IntKind.wrap, IntKind.bits, IntKind.signed]; omega
        have hlt := s[i].toNat_lt
        have HW := word103 (s[i].toNat) wr (by omega)
        have ad2 : IntKind.i64.wrap ((s[i].toNat : Nat) : Int) = (s[i].toNat : Int) := by simp [IntKind.wrap, IntKind.bits, IntKind.signed]; omega
        by_cases hw : okC (s[i].toNat : Int) 1 = true
        · have HC : ∀ j, j < i + 1 → okAt s j = true := fun j hj => by
            by_cases e : j = i
            · subst e
              rw [okAt_eq hil]
              by_cases e0 : j = 0
              · subst e0
                simp [okC] at hw hd ⊢
                omega
              · simp [okC] at hw ⊢
                omega
            · exact HJ.out j (by omega)
          have HC' := hid' HC
          rw [hw] at HW
          clear HC hlt HJ
          go_wp2_with (first | (go_at_call 120; (with_reducible refine HW.mono ?_); rintro e w2 ⟨rfl, rfl⟩))
          refine ⟨⟨i + 1, by push_cast; rfl, by omega, HC'.out, by trivial⟩, ?_⟩
          simp [intOf]
          omega
        · have hw' : okC (s[i].toNat : Int) 1 = false := by simpa using hw
          have e : r = false := by
            rw [HR.out]
            refine name_false i hil ?_
            simp [okC] at hw' ⊢
            omega
          rw [hw'] at HW
          subst e
          clear hlt HJ
          go_wp2_with (first | (go_at_call 120; (with_reducible refine HW.mono ?_); rintro e w2 ⟨rfl, rfl⟩))
          go_ret
          exact ⟨rfl, rfl⟩
      · have b1 : decide ((i : Int) < (s.size : Int)) = false := by simp; omega
        have e : r = true := by rw [HR.out]; exact name_true h1 h2 fun j hj => HJ.out j (by omega)
        subst e
        go_wp2
        go_ret
        exact ⟨rfl, rfl⟩
theorem name79 (s : ByteArray) (w : World) (hs : s.size ≤ 9223372036854775807) : Calls Try.prog 93 #[.string s] w fun e w' => e = .returned (.bool (nameB s)) ∧ w' = w := by
  by_cases h : 1 ≤ s.size ∧ s.size ≤ 32
  · exact name79s s w h.1 h.2
  · rw [name_long h]
    by_cases h1 : 1 ≤ s.size
    · have e1 : s.toList.isEmpty = false := by
        cases h : s.toList.isEmpty
        · rfl
        · exfalso
          rw [List.isEmpty_iff] at h
          have : s.toList.length = s.size := by rw [ByteArray.toList_eq]; exact Array.length_toList
          rw [h] at this
          simp at this
          omega
      have b2 : decide ((s.size : Int) > 32) = true := by simp; omega
      have b2' : decide (32 < (s.size : Int)) = true := by simp; omega
      go_enter Try.func93, Try.ntmps93
      go_wp2
      go_ret
      exact ⟨rfl, rfl⟩
    · have e1 : s.toList.isEmpty = true := by
        rw [List.isEmpty_iff, ← List.length_eq_zero_iff, ByteArray.toList_eq]
        exact Array.length_toList.trans (show s.size = 0 by omega)
      go_enter Try.func93, Try.ntmps93
      go_wp2
      go_ret
      exact ⟨rfl, rfl⟩
end Go.Proofs.Ytdidopgenhpakaa
