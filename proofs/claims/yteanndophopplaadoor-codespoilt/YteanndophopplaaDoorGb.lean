/- HELPERS: a number out of bytes. -/
import Derived.Test.YteanndophopplaaDoorGa
import Derived.Deep.LoopGhost
namespace Go.Proofs.YteanndophopplaaDoor
open Go.RowKit
set_option linter.unusedVariables false
set_option linter.unusedSimpArgs false
/-- what is read so far, and what is to come -/
def More (j acc : Nat) (l0 l : List Nat) : Prop := get7 3 true l0 = (match get7 (3 - j) (decide (j = 0)) l with | none => none | some (n, u) => some (acc + 128 ^ j * n, u))
theorem andNot_128 (x : Nat) (h : x < 256) : bits .andNot .u8 (x : Int) 128 = ((x % 128 : Nat) : Int) := by
  have e := u8_andNot_nat x 128 h (by decide)
  have e2 := Nat.and_two_pow_sub_one_eq_mod x 7
  simp at e2
  simp only [show 255 - 128 = 127 by rfl, e2] at e
  exact e
theorem or_i64 (a b : Nat) (ha : a < 4611686018427387904) (hb : b < 4611686018427387904) : bits .or .i64 (a : Int) (b : Int) = ((a ||| b : Nat) : Int) := by
  have hx : a ||| b < 2 ^ 62 := Nat.or_lt_two_pow (by omega) (by omega)
  show IntKind.i64.wrap ((BitVec.ofInt 64 (a : Int) ||| BitVec.ofInt 64 (b : Int)).toNat : Int) = _
  rw [BitVec.toNat_or, ofInt_u64 a (by omega), ofInt_u64 b (by omega)]
  have e : ((a ||| b : Nat) : Int) % 2 ^ 64 = ((a ||| b : Nat) : Int) := Int.emod_eq_of_lt (by omega) (by omega)
  simp only [IntKind.wrap, IntKind.bits, IntKind.signed, e]
  rw [if_neg]
  simp
  omega
theorem or_join (acc y s : Nat) (h : acc < 2 ^ s) (hs : s ≤ 14) (hy : y < 128) : bits .or .i64 (acc : Int) ((y * 2 ^ s : Nat) : Int) = ((acc + y * 2 ^ s : Nat) : Int) := by
  have h2 : 2 ^ s ≤ 2 ^ 14 := Nat.pow_le_pow_right (by omega) hs
  have h3 : y * 2 ^ s ≤ 127 * 2 ^ 14 := Nat.mul_le_mul (by omega) h2
  rw [or_i64 _ _ (by omega) (by omega), Nat.or_comm, nat_join s _ _ (by simp) h]
  rw [Nat.add_comm]
theorem get7_more {f : Nat} {first : Bool} {x : Nat} {r : List Nat} (hx : x < 256) (h : 128 ≤ x) : get7 (f + 1) first (x :: r) = (match get7 f false r with | none => none | some (n, u) => some (x % 128 + 128 * n, u)) := by
  show (if 256 ≤ x then none else if 128 ≤ x then _ else _) = _
  rw [if_neg (by omega), if_pos h]
  cases get7 f false r <;> rfl
theorem get7_last {f : Nat} {first : Bool} {x : Nat} {r : List Nat} (h : ¬ 128 ≤ x) (h0 : ¬ (x = 0 ∧ first = false)) : get7 (f + 1) first (x :: r) = some (x, r) := by
  show (if 256 ≤ x then none else if 128 ≤ x then _ else _) = _
  rw [if_neg (by omega), if_neg h, if_neg h0]
theorem get7_zero {f : Nat} {r : List Nat} : get7 (f + 1) false (0 :: r) = none := by
  show (if 256 ≤ 0 then none else if 128 ≤ 0 then _ else _) = _
  rw [if_neg (by omega), if_neg (by omega), if_pos ⟨rfl, rfl⟩]
set_option maxRecDepth 100000 in
set_option maxHeartbeats 4000000 in
theorem number56 {B rb : Nat} {w : World} {l : List Nat} {a : Option Addr} {c : Nat} (h : RB B rb w l a c) :
    Calls Tryd.prog 56 #[pt rb] w fun e w' => Mo w w' rb ∧ ((get7 3 true l = none ∧ e = Broke) ∨ ∃ n u, get7 3 true l = some (n, u) ∧ e = .returned (.int .i64 (n : Int)) ∧ ∃ a' c', RB B rb w' u a' c') := by
  have HR := hid h
  clear h
  go_enter Tryd.func56, Tryd.ntmps56
  go_wp2_with fail
  go_loopw [3, 4] (fun y z wq => ∃ (j acc : Nat) (l' : List Nat), y = .int .i64 (acc : Int) ∧ z = .int .i64 ((7 * j : Nat) : Int) ∧ j ≤ 3 ∧ Hid (∃ a' c', RB B rb wq l' a' c') ∧ Hid (More j acc l l') ∧ acc < 128 ^ j ∧ Hid (Mo w wq rb)) (fun _ y _ => 21 - (intOf y).toNat)
  case atStart =>
    refine ⟨0, 0, l, rfl, rfl, by omega, ⟨a, c, HR.out⟩, ?_, by simp, Mo.refl _ _⟩
    show get7 3 true l = (match get7 3 true l with | none => none | some (n, u) => some (0 + 128 ^ 0 * n, u))
    cases get7 3 true l with
    | none => rfl
    | some p => simp
  case round =>
    clear HR
    obtain ⟨j, acc, l', rfl, rfl, hj, HR, HM, hacc, HO⟩ := hrel
    obtain ⟨a', c', hR⟩ := HR.out
    obtain rfl | rfl | rfl | rfl : j = 0 ∨ j = 1 ∨ j = 2 ∨ j = 3 := by omega
    · have HM' : Hid (get7 3 true l = (match get7 3 true l' with | none => none | some (n, u) => some (acc + 128 ^ 0 * n, u))) := HM.out
      clear HM
      cases l' with
      | nil =>
        have C := next57_nil hR
        clear hR
        go_wp2_with (go_at_call 57; (with_reducible refine C.mono ?_); rintro e w1 ⟨rfl, rfl⟩)
        exact ⟨rfl, HO.out, .inl ⟨by rw [HM'.out]; rfl, rfl⟩⟩
      | cons x r =>
        have C := next57_cons hR
        have hx := hR.lt x (by simp)
        have an := andNot_128 x hx
        have orj := or_join acc (x % 128) 0 hacc (by omega) (by omega)
        clear hR
        by_cases h8 : 128 ≤ x
        · have b1 : decide ((x : Int) ≥ 128) = true := by simp; omega
          have b2 : (128 : Int) ≤ (x : Int) := by omega
          have HG : Hid (get7 3 true l = (match get7 2 false r with | none => none | some (n, u) => some (acc + x % 128 * 2 ^ 0 + 128 ^ 1 * n, u))) := by
            show _ = _
            rw [HM'.out, get7_more hx h8]
            cases get7 2 false r with
            | none => rfl
            | some p => simp only; congr 2; omega
          go_wp2_with (go_at_call 57; (with_reducible refine C.mono ?_); rintro e w1 ⟨rfl, hR1, hM1⟩; have HR1 := hid hR1; have HM1 := hid hM1; clear hR1 hM1 C)
          refine ⟨⟨1, acc + x % 128 * 2 ^ 0, r, ?_, rfl, by omega, HR1.out, HG.out, ?_, HO.out.trans HM1.out⟩, by simp [intOf]⟩
          · first
            | rw [← orj]; rfl
            | (congr 1; rw [← orj]; simp)
          · simp at hacc ⊢; omega
        · have b1 : decide ((x : Int) ≥ 128) = false := by simp; omega
          have b2 : ¬ (128 : Int) ≤ (x : Int) := by omega
          have HG : Hid (get7 3 true l = some (acc + x % 128 * 2 ^ 0, r)) := by
            show _ = _
            rw [HM'.out, get7_last h8 (by simp)]
            simp only; congr 2; omega
          go_wp2_with (go_at_call 57; (with_reducible refine C.mono ?_); rintro e w1 ⟨rfl, hR1, hM1⟩; have HR1 := hid hR1; have HM1 := hid hM1; clear hR1 hM1 C)
          all_goals go_ret
          all_goals refine ⟨HO.out.trans HM1.out, .inr ⟨acc + x % 128 * 2 ^ 0, r, HG.out, ret_int ?_, HR1.out⟩⟩
          all_goals first
            | rw [← orj]; rfl
            | (rw [← orj]; simp; done)
            | (obtain rfl : x = 0 := (by omega); rw [← orj]; simp)
    · have HM' : Hid (get7 3 true l = (match get7 2 false l' with | none => none | some (n, u) => some (acc + 128 ^ 1 * n, u))) := HM.out
      clear HM
      cases l' with
      | nil =>
        have C := next57_nil hR
        clear hR
        go_wp2_with (go_at_call 57; (with_reducible refine C.mono ?_); rintro e w1 ⟨rfl, rfl⟩)
        exact ⟨rfl, HO.out, .inl ⟨by rw [HM'.out]; rfl, rfl⟩⟩
      | cons x r =>
        have C := next57_cons hR
        have hx := hR.lt x (by simp)
        have an := andNot_128 x hx
        have orj := or_join acc (x % 128) 7 hacc (by omega) (by omega)
        clear hR
        by_cases h8 : 128 ≤ x
        · have b1 : decide ((x : Int) ≥ 128) = true := by simp; omega
          have b2 : (128 : Int) ≤ (x : Int) := by omega
          have HG : Hid (get7 3 true l = (match get7 1 false r with | none => none | some (n, u) => some (acc + x % 128 * 2 ^ 7 + 128 ^ 2 * n, u))) := by
            show _ = _
            rw [HM'.out, get7_more hx h8]
            cases get7 1 false r with
            | none => rfl
            | some p => simp only; congr 2; omega
          go_wp2_with (go_at_call 57; (with_reducible refine C.mono ?_); rintro e w1 ⟨rfl, hR1, hM1⟩; have HR1 := hid hR1; have HM1 := hid hM1; clear hR1 hM1 C)
          refine ⟨⟨2, acc + x % 128 * 2 ^ 7, r, ?_, rfl, by omega, HR1.out, HG.out, ?_, HO.out.trans HM1.out⟩, by simp [intOf]⟩
          · first
            | rw [← orj]; rfl
            | (congr 1; rw [← orj]; simp)
          · simp at hacc ⊢; omega
        · have b1 : decide ((x : Int) ≥ 128) = false := by simp; omega
          have b2 : ¬ (128 : Int) ≤ (x : Int) := by omega
          by_cases h0 : x = 0
          · subst h0
            have HG : Hid (get7 3 true l = none) := by
              show _ = _
              rw [HM'.out, get7_zero]
            go_wp2_with (go_at_call 57; (with_reducible refine C.mono ?_); rintro e w1 ⟨rfl, hR1, hM1⟩; have HR1 := hid hR1; have HM1 := hid hM1; clear hR1 hM1 C)
            exact ⟨rfl, HO.out.trans HM1.out, .inl ⟨HG.out, rfl⟩⟩
          · have d1 : ((x : Int) == 0) = false := by simp; omega
            have d2 : ¬ ((x : Int) = 0) := by omega
            have HG : Hid (get7 3 true l = some (acc + x % 128 * 2 ^ 7, r)) := by
              show _ = _
              rw [HM'.out, get7_last h8 (by simp [h0])]
              simp only; congr 2; omega
            go_wp2_with (go_at_call 57; (with_reducible refine C.mono ?_); rintro e w1 ⟨rfl, hR1, hM1⟩; have HR1 := hid hR1; have HM1 := hid hM1; clear hR1 hM1 C)
            all_goals go_ret
            all_goals refine ⟨HO.out.trans HM1.out, .inr ⟨acc + x % 128 * 2 ^ 7, r, HG.out, ret_int ?_, HR1.out⟩⟩
            all_goals first
              | rw [← orj]; rfl
              | (rw [← orj]; simp)
    · have HM' : Hid (get7 3 true l = (match get7 1 false l' with | none => none | some (n, u) => some (acc + 128 ^ 2 * n, u))) := HM.out
      clear HM
      cases l' with
      | nil =>
        have C := next57_nil hR
        clear hR
        go_wp2_with (go_at_call 57; (with_reducible refine C.mono ?_); rintro e w1 ⟨rfl, rfl⟩)
        exact ⟨rfl, HO.out, .inl ⟨by rw [HM'.out]; rfl, rfl⟩⟩
      | cons x r =>
        have C := next57_cons hR
        have hx := hR.lt x (by simp)
        have an := andNot_128 x hx
        have orj := or_join acc (x % 128) 14 hacc (by omega) (by omega)
        clear hR
        by_cases h8 : 128 ≤ x
        · have b1 : decide ((x : Int) ≥ 128) = true := by simp; omega
          have b2 : (128 : Int) ≤ (x : Int) := by omega
          have HG : Hid (get7 3 true l = (match get7 0 false r with | none => none | some (n, u) => some (acc + x % 128 * 2 ^ 14 + 128 ^ 3 * n, u))) := by
            show _ = _
            rw [HM'.out, get7_more hx h8]
            cases get7 0 false r with
            | none => rfl
            | some p => simp only; congr 2; omega
          go_wp2_with (go_at_call 57; (with_reducible refine C.mono ?_); rintro e w1 ⟨rfl, hR1, hM1⟩; have HR1 := hid hR1; have HM1 := hid hM1; clear hR1 hM1 C)
          refine ⟨⟨3, acc + x % 128 * 2 ^ 14, r, ?_, rfl, by omega, HR1.out, HG.out, ?_, HO.out.trans HM1.out⟩, by simp [intOf]⟩
          · first
            | rw [← orj]; rfl
            | (congr 1; rw [← orj]; simp)
          · simp at hacc ⊢; omega
        · have b1 : decide ((x : Int) ≥ 128) = false := by simp; omega
          have b2 : ¬ (128 : Int) ≤ (x : Int) := by omega
          by_cases h0 : x = 0
          · subst h0
            have HG : Hid (get7 3 true l = none) := by
              show _ = _
              rw [HM'.out, get7_zero]
            go_wp2_with (go_at_call 57; (with_reducible refine C.mono ?_); rintro e w1 ⟨rfl, hR1, hM1⟩; have HR1 := hid hR1; have HM1 := hid hM1; clear hR1 hM1 C)
            exact ⟨rfl, HO.out.trans HM1.out, .inl ⟨HG.out, rfl⟩⟩
          · have d1 : ((x : Int) == 0) = false := by simp; omega
            have d2 : ¬ ((x : Int) = 0) := by omega
            have HG : Hid (get7 3 true l = some (acc + x % 128 * 2 ^ 14, r)) := by
              show _ = _
              rw [HM'.out, get7_last h8 (by simp [h0])]
              simp only; congr 2; omega
            go_wp2_with (go_at_call 57; (with_reducible refine C.mono ?_); rintro e w1 ⟨rfl, hR1, hM1⟩; have HR1 := hid hR1; have HM1 := hid hM1; clear hR1 hM1 C)
            all_goals go_ret
            all_goals refine ⟨HO.out.trans HM1.out, .inr ⟨acc + x % 128 * 2 ^ 14, r, HG.out, ret_int ?_, HR1.out⟩⟩
            all_goals first
              | rw [← orj]; rfl
              | (rw [← orj]; simp)
    · have HM' : Hid (get7 3 true l = none) := HM.out
      clear HM hR
      go_wp2
      exact ⟨rfl, HO.out, .inl ⟨HM'.out, rfl⟩⟩
end Go.Proofs.YteanndophopplaaDoor
