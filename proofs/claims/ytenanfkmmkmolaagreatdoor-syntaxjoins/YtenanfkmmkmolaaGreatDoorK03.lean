/- HELPERS: Rk, Rl, Rm, Rn, Ro, Rp, Tr. -/
import Derived.Test.YtenanfkmmkmolaaGreatDoorK02
import Derived.Laws.BitsLemmas
import Derived.Laws.AppendOwnNone
/- HELPERS: the number of a rune. -/
namespace Go.Proofs.YtenanfkmmkmolaaGreatDoor
open Go.RowKit Go.Mx
set_option linter.unusedVariables false
set_option linter.unusedSimpArgs false
theorem hexd_bd {x v : Int} (h : hexd x = some v) : 0 ≤ v ∧ v < 16 ∧ 0 ≤ x := by
  unfold hexd at h
  repeat' split at h
  all_goals first | (simp at h; omega) | (cases h)
theorem hexDigit_bd {t : List Int} {i : Nat} {v : Int} {k : Nat} (h : hexDigit t i = .ok (v, k)) : k = i + 1 ∧ k ≤ t.length ∧ 0 ≤ v ∧ v < 16 := by
  unfold hexDigit at h
  cases hx : hexd (nx t i) with
  | none => rw [hx] at h; cases h
  | some y =>
    rw [hx] at h
    obtain ⟨h1, h2, h3⟩ := hexd_bd hx
    have := nx_lt h3
    simp at h
    omega
section
variable {g : Nat} {t : List Int} {i : Nat} {c : Cs} {w : World}
theorem hexE (R : Hid (RdC w g t i c)) {v : Int} {k : Nat} (h : hexDigit t i = .ok (v, k)) : Calls Tryz.prog 120 #[.pointer (some ⟨g, 0, none⟩)] w fun e w' => e = .returned (.int .i64 v) ∧ Go1 w w' g k := by
  have := hexDigit120 R
  rw [h] at this
  exact this
theorem hexN (R : Hid (RdC w g t i c)) {k : Nat} (h : hexDigit t i = .error k) : Calls Tryz.prog 120 #[.pointer (some ⟨g, 0, none⟩)] w fun e w' => e = Gave k ∧ Go1 w w' g k := by
  have := hexDigit120 R
  rw [h] at this
  exact this
end
theorem or16 (a d : Int) (h0 : 0 ≤ a) (h1 : a < 268435456) (d0 : 0 ≤ d) (d1 : d < 16) : bits .or .i64 (a * 16) d = a * 16 + d := by
  obtain ⟨A, rfl⟩ := Int.eq_ofNat_of_zero_le h0
  obtain ⟨D, rfl⟩ := Int.eq_ofNat_of_zero_le d0
  have hb := (bits_nat .i64 33 (by decide) (fun n h0 h1 => by simp [IntKind.wrap, IntKind.bits, IntKind.signed]; omega) (A * 16) D (by omega) (by omega)).2
  have e : A * 16 ||| D = A * 16 + D := by
    have := Nat.two_pow_add_eq_or_of_lt (i := 4) (b := D) (by omega) A
    rw [Nat.mul_comm A 16]
    exact this.symm
  rw [e] at hb
  exact_mod_cast hb
theorem only87 (x : Int) (w : World) : Calls Tryz.prog 87 #[.int .i64 x] w fun e w' => e = .returned (.slice (some ⟨w.heap.size, 0, none⟩) 1 1) ∧ w' = w.alloc (.cells #[.int .i64 x, .int .i64 x] 62) := by
  go_enter Tryz.func87, Tryz.ntmps87
  go_wp2
  go_ret
  exact ⟨rfl, rfl⟩
theorem only_row (x : Int) (w : World) : RowAt (w.alloc (.cells #[.int .i64 x, .int .i64 x] 62)).heap.size (w.alloc (.cells #[.int .i64 x, .int .i64 x] 62)) (.slice (some ⟨w.heap.size, 0, none⟩) 1 1) [(x, x)] := by
  refine ⟨_, _, rfl, .inr ⟨w.heap.size, 0, rfl, by simp, ?_, ?_⟩⟩
  · intro j hj
    obtain rfl : j = 0 := by simp at hj; omega
    simp
  · intro j hj
    obtain rfl : j = 0 := by simp at hj; omega
    simp
/-- Right of one rune -/
theorem rightOnly (x : Int) (w : World) : Calls Tryz.prog 105 #[.slice (some ⟨w.heap.size, 0, none⟩) 1 1] (w.alloc (.cells #[.int .i64 x, .int .i64 x] 62)) fun e w' => e = .returned (.bool (runeOK x)) ∧ Below w.heap.size w w' :=
  (right25 [(x, x)] _ 1 1 _ rfl (by decide) (only_row x w)).mono fun e w' ⟨h1, h2⟩ => ⟨h1, (Joins.below_alloc1 w _).trans (Joins.below_le h2 (by simp))⟩
theorem rwBelow {w w' : World} {g : Nat} {t : List Int} {i : Nat} {c : Cs} {wr : Wr} (h : Hid (RW w g t i c wr)) (hb : Below w.heap.size w w') : Hid (RW w' g t i c wr) := h.out.stay hb
set_option maxHeartbeats 1000000 in
theorem hexRune108_a {g : Nat} {t : List Int} {i : Nat} {c : Cs} {w : World} {wr : Wr} (R0 : Hid (RW w g t i c wr)) (at_ : Int) (h : ¬ nx t i = 123) {k : Nat} (h1 : hexDigit t i = .error k) : Calls Tryz.prog 108 #[.pointer (some ⟨g, 0, none⟩), .int .i64 at_] w fun e w' => e = Gave k ∧ Mo w w' g := by
  have hle := R0.out.rd.le
  have hbd := R0.out.rd.bd
  go_enter Tryz.func108, Tryz.ntmps108
  have C1 := tookN (rdC R0) 123 (by decide) h
  go_wp2_with (go_at_call 60; with_reducible refine C1.mono ?_; rintro e w1 ⟨rfl, G1⟩; have R1 := rwOn R0 G1 (by omega))
  have C2 := hexN (rdC R1) h1
  go_wp2_with (go_at_call 120; with_reducible refine C2.mono ?_; rintro e w2 ⟨rfl, G2⟩)
  exact ⟨rfl, rfl, (G1.mo).trans G2.mo⟩
set_option maxHeartbeats 1000000 in
theorem hexRune108_b {g : Nat} {t : List Int} {i : Nat} {c : Cs} {w : World} {wr : Wr} (R0 : Hid (RW w g t i c wr)) (at_ : Int) (h : ¬ nx t i = 123) {a : Int} {j k : Nat} (h1 : hexDigit t i = .ok (a, j)) (h2 : hexDigit t j = .error k) : Calls Tryz.prog 108 #[.pointer (some ⟨g, 0, none⟩), .int .i64 at_] w fun e w' => e = Gave k ∧ Mo w w' g := by
  have hle := R0.out.rd.le
  have hbd := R0.out.rd.bd
  obtain ⟨n1, n2, n3, n4⟩ := hexDigit_bd h1
  go_enter Tryz.func108, Tryz.ntmps108
  have C1 := tookN (rdC R0) 123 (by decide) h
  go_wp2_with (go_at_call 60; with_reducible refine C1.mono ?_; rintro e w1 ⟨rfl, G1⟩; have R1 := rwOn R0 G1 (by omega))
  have C2 := hexE (rdC R1) h1
  go_wp2_with (go_at_call 120; with_reducible refine C2.mono ?_; rintro e w2 ⟨rfl, G2⟩; have R2 := rwOn R1 G2 (by omega))
  have C3 := hexN (rdC R2) h2
  go_wp2_with (go_at_call 120; with_reducible refine C3.mono ?_; rintro e w3 ⟨rfl, G3⟩)
  exact ⟨rfl, rfl, ((G1.mo).trans G2.mo).trans G3.mo⟩
set_option maxHeartbeats 1000000 in
theorem hexRune108_c {g : Nat} {t : List Int} {i : Nat} {c : Cs} {w : World} {wr : Wr} (R0 : Hid (RW w g t i c wr)) (at_ : Int) (h : ¬ nx t i = 123) {a b : Int} {j k : Nat} (h1 : hexDigit t i = .ok (a, j)) (h2 : hexDigit t j = .ok (b, k)) : Calls Tryz.prog 108 #[.pointer (some ⟨g, 0, none⟩), .int .i64 at_] w fun e w' => e = .returned (.tuple #[.int .i64 (a * 16 + b), .bool true]) ∧ Mo w w' g ∧ RW w' g t k c wr := by
  have hle := R0.out.rd.le
  have hbd := R0.out.rd.bd
  obtain ⟨n1, n2, n3, n4⟩ := hexDigit_bd h1
  obtain ⟨m1, m2, m3, m4⟩ := hexDigit_bd h2
  have v1 := or16 a b n3 (by omega) m3 m4
  go_enter Tryz.func108, Tryz.ntmps108
  have C1 := tookN (rdC R0) 123 (by decide) h
  go_wp2_with (go_at_call 60; with_reducible refine C1.mono ?_; rintro e w1 ⟨rfl, G1⟩; have R1 := rwOn R0 G1 (by omega))
  have C2 := hexE (rdC R1) h1
  go_wp2_with (go_at_call 120; with_reducible refine C2.mono ?_; rintro e w2 ⟨rfl, G2⟩; have R2 := rwOn R1 G2 (by omega))
  have C3 := hexE (rdC R2) h2
  go_wp2_with (go_at_call 120; with_reducible refine C3.mono ?_; rintro e w3 ⟨rfl, G3⟩; have R3 := rwOn R2 G3 (by omega))
  go_ret2
  exact ⟨rfl, ((G1.mo).trans G2.mo).trans G3.mo, R3.out⟩
set_option maxHeartbeats 1000000 in
theorem hexRune108_d {g : Nat} {t : List Int} {i : Nat} {c : Cs} {w : World} {wr : Wr} (R0 : Hid (RW w g t i c wr)) (at_ : Int) (h : nx t i = 123) {k : Nat} (h1 : hexDigit t (i + 1) = .error k) : Calls Tryz.prog 108 #[.pointer (some ⟨g, 0, none⟩), .int .i64 at_] w fun e w' => e = Gave k ∧ Mo w w' g := by
  have hi := nx_lt (t := t) (i := i) (by omega)
  have C1 := tookE (rdC R0) 123 (by decide) h
  go_enter Tryz.func108, Tryz.ntmps108
  go_wp2_with (go_at_call 60; with_reducible refine C1.mono ?_; rintro e w1 ⟨rfl, G1⟩; have R1 := rwOn R0 G1 (by omega); have c1 := Joins.cell_of_block R1.out.rd.blk 1; simp at c1)
  refine wp_loop_rounds 1 ?_
  rw [rounds_succ]
  have C2 := hexN (rdC R1) h1
  go_wp2_with (go_at_call 120; with_reducible refine C2.mono ?_; rintro e w2 ⟨rfl, G2⟩)
  exact ⟨rfl, rfl, G1.mo.trans G2.mo⟩
/-- how the digits between brackets end -/
def hexTail (t : List Int) (at_ : Int) (wr : Wr) : Except Nat (Int × Nat) → Except Nat ((Int × Bool) × Nat × Wr)
  | .error k => .error k
  | .ok (x, k) => if nx t k = 125 then (if runeOK x = true then .ok ((x, true), k + 1, wr) else .ok ((0, false), k + 1, note wr 41 at_)) else .error k
/-- a rune's number and whether it is one -/
abbrev valB (x : Int × Bool) (_ : World) (v : Value) : Prop := v = .tuple #[.int .i64 x.1, .bool x.2]
set_option maxHeartbeats 2000000 in
theorem hexRune108_e {g : Nat} {t : List Int} {i : Nat} {c : Cs} {w : World} {wr : Wr} (R0 : Hid (RW w g t i c wr)) (at_ : Int) (h : nx t i = 123) {d : Int} {j : Nat} (h1 : hexDigit t (i + 1) = .ok (d, j)) :
    Calls Tryz.prog 108 #[.pointer (some ⟨g, 0, none⟩), .int .i64 at_] w fun e w' => EndW e w w' g t c valB (hexTail t at_ wr (hexGo t 5 j d)) := by
  have hi := nx_lt (t := t) (i := i) (by omega)
  have hle := R0.out.rd.le
  have hbd := R0.out.rd.bd
  obtain ⟨n1, n2, n3, n4⟩ := hexDigit_bd h1
  generalize hz : hexGo t 5 j d = z
  have C1 := tookE (rdC R0) 123 (by decide) h
  go_enter Tryz.func108, Tryz.ntmps108
  go_wp2_with (go_at_call 60; with_reducible refine C1.mono ?_; rintro e w1 ⟨rfl, G1⟩; have R1 := rwOn R0 G1 (by omega); have c1 := Joins.cell_of_block R1.out.rd.blk 1; simp at c1)
  go_loopw [8] (fun v wl => ∃ (k : Nat) (x : Int), v = .int .i64 x ∧ k ≤ t.length ∧ 0 ≤ x ∧ Hid (RW wl g t k c wr) ∧ Hid (Mo w wl g) ∧ (k = i + 1 ∧ x = 0 ∨ i + 1 < k ∧ k ≤ i + 7 ∧ x < 16 ^ (k - (i + 1)) ∧ Hid (hexGo t (i + 7 - k) k x = z)))
    (fun _ wl => i + 8 - (match wl.cell? ⟨g, 1, none⟩ with | some (.int _ x) => x.toNat | _ => 0))
  case atStart => exact ⟨i + 1, 0, rfl, by omega, by omega, R1, G1.mo, .inl ⟨rfl, rfl⟩⟩
  case round =>
    obtain ⟨k, x, rfl, hk, hx, RK, MK, hor⟩ := hrel
    have cK := Joins.cell_of_block RK.out.rd.blk 1
    simp at cK
    clear c1 R1 G1
    rcases hor with ⟨rfl, rfl⟩ | ⟨hik, hk4, hnk, HZ⟩
    · have v1 := or16 0 d (by omega) (by omega) n3 n4
      simp at v1
      have C2 := hexE (rdC RK) h1
      go_wp2_with (go_at_call 120; with_reducible refine C2.mono ?_; rintro e w2 ⟨rfl, G2⟩; have R2 := rwOn RK G2 (by omega))
      have d1 := Joins.cell_of_block R2.out.rd.blk 1
      simp at d1
      go_roundw
      case rel =>
        refine ⟨j, d, by simp [v1], by omega, by omega, R2, MK.out.trans G2.mo, .inr ⟨by omega, by omega, ?_, ?_⟩⟩
        · rw [show j - (i + 1) = 1 by omega]; simpa using n4
        · exact (by rw [show i + 7 - j = 5 by omega]; exact hz : hexGo t (i + 7 - j) j d = z)
      case measure => rw [cK, d1]; simp; omega
    · have hb1 : ((k : Int) == (i : Int) + 1) = false := by simp; omega
      have hp : (16 : Int) ^ (k - (i + 1)) ≤ 16777216 := by
        have : k - (i + 1) = 1 ∨ k - (i + 1) = 2 ∨ k - (i + 1) = 3 ∨ k - (i + 1) = 4 ∨ k - (i + 1) = 5 ∨ k - (i + 1) = 6 := by omega
        rcases this with e | e | e | e | e | e <;> rw [e] <;> decide
      have hz' := HZ.out
      have hw1 : IntKind.i64.wrap ((k : Int) - ((i : Int) + 1)) = k - (i + 1) := i64_small _ (by omega) (by omega)
      by_cases hcl : nx t k = 125
      · have hkl := nx_lt (t := t) (i := k) (by omega)
        have hz2 : z = .ok (x, k) := by
          cases hf : i + 7 - k with
          | zero => rw [hf, hexGo] at hz'; exact hz'.symm
          | succ f => rw [hf, hexGo, if_pos hcl] at hz'; exact hz'.symm
        subst hz2
        have C2 := seesE (rdC RK) 125 125 true (by decide) (decide_eq_true (by omega))
        go_wp2_with (go_at_call 83; with_reducible refine C2.mono ?_; rintro e w2 ⟨rfl, G2⟩; have R2 := rwOn RK G2 hk)
        have C3 := mustE (rdC R2) 125 (by decide) hcl
        go_wp2_with (go_at_call 63; with_reducible refine C3.mono ?_; rintro e w3 ⟨rfl, G3⟩; have R3 := rwOn R2 G3 (by omega))
        have C4 := only87 x w3
        go_wp2_with (go_at_call 87; with_reducible refine C4.mono ?_; rintro e w4 ⟨rfl, rfl⟩)
        have C5 := rightOnly x w3
        cases hok : runeOK x
        · rw [hok] at C5
          go_wp2_with (go_at_call 105; with_reducible refine C5.mono ?_; rintro e w5 ⟨rfl, B5⟩; have R5 := rwBelow R3 B5)
          have C6 := note64 R5 41 at_
          go_wp2_with (go_at_call 64; with_reducible refine C6.mono ?_; rintro e w6 ⟨rfl, M6, RR6⟩)
          go_ret2
          unfold EndW hexTail
          simp only [if_pos hcl, hok]
          exact ⟨_, rfl, rfl, ((((MK.out.trans G2.mo).trans G3.mo).trans (Mo.of_below B5)).trans M6), RR6⟩
        · rw [hok] at C5
          go_wp2_with (go_at_call 105; with_reducible refine C5.mono ?_; rintro e w5 ⟨rfl, B5⟩; have R5 := rwBelow R3 B5)
          go_ret2
          unfold EndW hexTail
          simp only [if_pos hcl, hok]
          exact ⟨_, rfl, rfl, (((MK.out.trans G2.mo).trans G3.mo).trans (Mo.of_below B5)), R5.out⟩
      · have C2 := seesE (rdC RK) 125 125 false (by decide) (decide_eq_false (by omega))
        by_cases h6 : k < i + 7
        · have hb2 : decide ((k : Int) - (i + 1) < 6) = true := by simp; omega
          rw [show i + 7 - k = (i + 7 - (k + 1)) + 1 by omega, hexGo, if_neg hcl] at hz'
          go_wp2_with (go_at_call 83; with_reducible refine C2.mono ?_; rintro e w2 ⟨rfl, G2⟩; have R2 := rwOn RK G2 hk; have d1 := Joins.cell_of_block R2.out.rd.blk 1; simp at d1)
          cases hx2 : hexDigit t k with
          | error m =>
            rw [hx2] at hz'
            subst hz'
            have C3 := hexN (rdC R2) hx2
            go_wp2_with (go_at_call 120; with_reducible refine C3.mono ?_; rintro e w3 ⟨rfl, G3⟩)
            exact ⟨rfl, rfl, (MK.out.trans G2.mo).trans G3.mo⟩
          | ok y =>
            obtain ⟨d2, k2⟩ := y
            rw [hx2] at hz'
            obtain ⟨p1, p2, p3, p4⟩ := hexDigit_bd hx2
            have v1 := or16 x d2 hx (by omega) p3 p4
            have v2 := i64_small (x * 16) (by omega) (by omega)
            have C3 := hexE (rdC R2) hx2
            go_wp2_with (go_at_call 120; with_reducible refine C3.mono ?_; rintro e w3 ⟨rfl, G3⟩; have R3 := rwOn R2 G3 (by omega))
            have d3 := Joins.cell_of_block R3.out.rd.blk 1
            simp at d3
            go_roundw
            case rel =>
              refine ⟨k2, x * 16 + d2, by simp [v1, v2], by omega, by omega, R3, (MK.out.trans G2.mo).trans G3.mo, .inr ⟨by omega, by omega, ?_, ?_⟩⟩
              · rw [show k2 - (i + 1) = (k - (i + 1)) + 1 by omega, Int.pow_succ]; omega
              · exact (by rw [show i + 7 - k2 = i + 7 - (k + 1) by omega]; exact hz' : hexGo t (i + 7 - k2) k2 (x * 16 + d2) = z)
            case measure => rw [cK, d3]; simp; omega
        · have hb2 : decide ((k : Int) - (i + 1) < 6) = false := by simp; omega
          rw [show i + 7 - k = 0 by omega, hexGo] at hz'
          subst hz'
          go_wp2_with (go_at_call 83; with_reducible refine C2.mono ?_; rintro e w2 ⟨rfl, G2⟩; have R2 := rwOn RK G2 hk; have d1 := Joins.cell_of_block R2.out.rd.blk 1; simp at d1)
          have C3 := mustN (rdC R2) 125 (by decide) hcl
          go_wp2_with (go_at_call 63; with_reducible refine C3.mono ?_; rintro e w3 ⟨rfl, G3⟩)
          refine ⟨rfl, ?_⟩
          unfold EndW hexTail
          simp only [if_neg hcl]
          exact ⟨trivial, (MK.out.trans G2.mo).trans G3.mo⟩
theorem runeOK_small {x : Int} (h0 : 0 ≤ x) (h1 : x < 55296) : runeOK x = true := by
  unfold runeOK rightB rightFrom okG dom gapB rightFrom
  simp
  omega
def hexRuneP (t : List Int) (i : Nat) (at_ : Int) (wr : Wr) : Except Nat ((Int × Bool) × Nat × Wr) := match hexNum t i with
  | .error k => .error k
  | .ok (x, k) => if runeOK x = true then .ok ((x, true), k, wr) else .ok ((0, false), k, note wr 41 at_)
theorem hexRune108 {g : Nat} {t : List Int} {i : Nat} {c : Cs} {w : World} {wr : Wr} (R0 : Hid (RW w g t i c wr)) (at_ : Int) :
    Calls Tryz.prog 108 #[.pointer (some ⟨g, 0, none⟩), .int .i64 at_] w fun e w' => EndW e w w' g t c valB (hexRuneP t i at_ wr) := by
  unfold hexRuneP hexNum
  by_cases h : nx t i = 123
  · rw [if_pos h]
    cases h1 : hexDigit t (i + 1) with
    | error k => exact hexRune108_d R0 at_ h h1
    | ok y =>
      obtain ⟨d, j⟩ := y
      have hC := hexRune108_e R0 at_ h h1
      simp only
      cases h2 : hexGo t 5 j d with
      | error k => rw [h2] at hC; exact hC
      | ok z =>
        obtain ⟨x, k⟩ := z
        rw [h2] at hC
        simp only
        by_cases h3 : nx t k = 125
        · rw [if_pos h3]
          simp only [hexTail, if_pos h3] at hC
          exact hC
        · rw [if_neg h3]
          simp only [hexTail, if_neg h3] at hC
          exact hC
  · rw [if_neg h]
    cases h1 : hexDigit t i with
    | error k => exact hexRune108_a R0 at_ h h1
    | ok y =>
      obtain ⟨a, j⟩ := y
      simp only
      cases h2 : hexDigit t j with
      | error k => exact hexRune108_b R0 at_ h h1 h2
      | ok z =>
        obtain ⟨b, k⟩ := z
        obtain ⟨n1, n2, n3, n4⟩ := hexDigit_bd h1
        obtain ⟨m1, m2, m3, m4⟩ := hexDigit_bd h2
        simp only
        rw [if_pos (runeOK_small (by omega) (by omega))]
        exact (hexRune108_c R0 at_ h h1 h2).mono fun e w' ⟨e1, e2, e3⟩ => ⟨_, e1, rfl, e2, e3⟩
end Go.Proofs.YtenanfkmmkmolaaGreatDoor
/- HELPERS: what stands for one rune. -/
namespace Go.Proofs.YtenanfkmmkmolaaGreatDoor
open Go.RowKit Go.Mx
set_option linter.unusedVariables false
set_option linter.unusedSimpArgs false
theorem endE {α : Type} {f : Nat} {args : Array Value} {w : World} {g : Nat} {t : List Int} {c : Cs} {val : α → World → Value → Prop} {r : Except Nat (α × Nat × Wr)} {k : Nat} (h : Calls Tryz.prog f args w fun e w' => EndW e w w' g t c val r) (hr : r = .error k) :
    Calls Tryz.prog f args w fun e w' => e = Gave k ∧ Mo w w' g := by
  subst hr
  exact h
theorem endOB {f : Nat} {args : Array Value} {w : World} {g : Nat} {t : List Int} {c : Cs} {r : Except Nat ((Int × Bool) × Nat × Wr)} {x : Int} {b : Bool} {k : Nat} {wr : Wr} (h : Calls Tryz.prog f args w fun e w' => EndW e w w' g t c valB r) (hr : r = .ok ((x, b), k, wr)) :
    Calls Tryz.prog f args w fun e w' => e = .returned (.tuple #[.int .i64 x, .bool b]) ∧ Mo w w' g ∧ RW w' g t k c wr := by
  subst hr
  refine h.mono ?_
  rintro e w' ⟨v, h1, rfl, h2, h3⟩
  exact ⟨h1, h2, h3⟩
set_option maxHeartbeats 1000000 in
theorem single94_0 {g : Nat} {t : List Int} {i : Nat} {c : Cs} {w : World} {wr : Wr} (R0 : Hid (RW w g t i c wr)) (h : ¬ nx t i = 92) : Calls Tryz.prog 94 #[.pointer (some ⟨g, 0, none⟩)] w fun e w' => e = Gave i ∧ Mo w w' g := by
  have hle := R0.out.rd.le
  have hbd := R0.out.rd.bd
  have z1 := Joins.cell_of_block R0.out.rd.blk 1
  simp [wrV] at z1
  go_enter Tryz.func94, Tryz.ntmps94
  have C1 := mustN (rdC R0) 92 (by decide) h
  go_wp2_with (go_at_call 63; with_reducible refine C1.mono ?_; rintro e w1 ⟨rfl, G1⟩)
  exact ⟨rfl, rfl, G1.mo⟩
set_option maxHeartbeats 1000000 in
theorem single94_2 {g : Nat} {t : List Int} {i : Nat} {c : Cs} {w : World} {wr : Wr} (R0 : Hid (RW w g t i c wr)) (h : nx t i = 92) (n0 : ¬ nx t (i + 1) = 120) (hx : nx t (i + 1) = 110) : Calls Tryz.prog 94 #[.pointer (some ⟨g, 0, none⟩)] w fun e w' => e = .returned (.tuple #[.int .i64 10, .bool true]) ∧ Mo w w' g ∧ RW w' g t (i + 2) c wr := by
  have hle := R0.out.rd.le
  have hbd := R0.out.rd.bd
  have hi0 := nx_lt (t := t) (i := i) (by omega)
  have z1 := Joins.cell_of_block R0.out.rd.blk 1
  simp [wrV] at z1
  go_enter Tryz.func94, Tryz.ntmps94
  have C1 := mustE (rdC R0) 92 (by decide) h
  go_wp2_with (go_at_call 63; with_reducible refine C1.mono ?_; rintro e w1 ⟨rfl, G1⟩; have R1 := rwOn R0 G1 (by omega))
  have C2 := tookN (rdC R1) 120 (by decide) n0
  go_wp2_with (go_at_call 60; with_reducible refine C2.mono ?_; rintro e w2 ⟨rfl, G2⟩; have R2 := rwOn R1 G2 (by omega))
  have hi1 := nx_lt (t := t) (i := i + 1) (by omega)
  have C3 := tookE (rdC R2) 110 (by decide) hx
  go_wp2_with (go_at_call 60; with_reducible refine C3.mono ?_; rintro e w3 ⟨rfl, G3⟩; have R3 := rwOn R2 G3 (by omega))
  go_ret2
  exact ⟨rfl, ((G1.mo).trans G2.mo).trans G3.mo, R3.out⟩
set_option maxHeartbeats 1000000 in
theorem single94_3 {g : Nat} {t : List Int} {i : Nat} {c : Cs} {w : World} {wr : Wr} (R0 : Hid (RW w g t i c wr)) (h : nx t i = 92) (n0 : ¬ nx t (i + 1) = 120) (n1 : ¬ nx t (i + 1) = 110) (hx : nx t (i + 1) = 116) : Calls Tryz.prog 94 #[.pointer (some ⟨g, 0, none⟩)] w fun e w' => e = .returned (.tuple #[.int .i64 9, .bool true]) ∧ Mo w w' g ∧ RW w' g t (i + 2) c wr := by
  have hle := R0.out.rd.le
  have hbd := R0.out.rd.bd
  have hi0 := nx_lt (t := t) (i := i) (by omega)
  have z1 := Joins.cell_of_block R0.out.rd.blk 1
  simp [wrV] at z1
  go_enter Tryz.func94, Tryz.ntmps94
  have C1 := mustE (rdC R0) 92 (by decide) h
  go_wp2_with (go_at_call 63; with_reducible refine C1.mono ?_; rintro e w1 ⟨rfl, G1⟩; have R1 := rwOn R0 G1 (by omega))
  have C2 := tookN (rdC R1) 120 (by decide) n0
  go_wp2_with (go_at_call 60; with_reducible refine C2.mono ?_; rintro e w2 ⟨rfl, G2⟩; have R2 := rwOn R1 G2 (by omega))
  have C3 := tookN (rdC R2) 110 (by decide) n1
  go_wp2_with (go_at_call 60; with_reducible refine C3.mono ?_; rintro e w3 ⟨rfl, G3⟩; have R3 := rwOn R2 G3 (by omega))
  have hi1 := nx_lt (t := t) (i := i + 1) (by omega)
  have C4 := tookE (rdC R3) 116 (by decide) hx
  go_wp2_with (go_at_call 60; with_reducible refine C4.mono ?_; rintro e w4 ⟨rfl, G4⟩; have R4 := rwOn R3 G4 (by omega))
  go_ret2
  exact ⟨rfl, (((G1.mo).trans G2.mo).trans G3.mo).trans G4.mo, R4.out⟩
set_option maxHeartbeats 1000000 in
theorem single94_4 {g : Nat} {t : List Int} {i : Nat} {c : Cs} {w : World} {wr : Wr} (R0 : Hid (RW w g t i c wr)) (h : nx t i = 92) (n0 : ¬ nx t (i + 1) = 120) (n1 : ¬ nx t (i + 1) = 110) (n2 : ¬ nx t (i + 1) = 116) (hx : nx t (i + 1) = 114) : Calls Tryz.prog 94 #[.pointer (some ⟨g, 0, none⟩)] w fun e w' => e = .returned (.tuple #[.int .i64 13, .bool true]) ∧ Mo w w' g ∧ RW w' g t (i + 2) c wr := by
  have hle := R0.out.rd.le
  have hbd := R0.out.rd.bd
  have hi0 := nx_lt (t := t) (i := i) (by omega)
  have z1 := Joins.cell_of_block R0.out.rd.blk 1
  simp [wrV] at z1
  go_enter Tryz.func94, Tryz.ntmps94
  have C1 := mustE (rdC R0) 92 (by decide) h
  go_wp2_with (go_at_call 63; with_reducible refine C1.mono ?_; rintro e w1 ⟨rfl, G1⟩; have R1 := rwOn R0 G1 (by omega))
  have C2 := tookN (rdC R1) 120 (by decide) n0
  go_wp2_with (go_at_call 60; with_reducible refine C2.mono ?_; rintro e w2 ⟨rfl, G2⟩; have R2 := rwOn R1 G2 (by omega))
  have C3 := tookN (rdC R2) 110 (by decide) n1
  go_wp2_with (go_at_call 60; with_reducible refine C3.mono ?_; rintro e w3 ⟨rfl, G3⟩; have R3 := rwOn R2 G3 (by omega))
  have C4 := tookN (rdC R3) 116 (by decide) n2
  go_wp2_with (go_at_call 60; with_reducible refine C4.mono ?_; rintro e w4 ⟨rfl, G4⟩; have R4 := rwOn R3 G4 (by omega))
  have hi1 := nx_lt (t := t) (i := i + 1) (by omega)
  have C5 := tookE (rdC R4) 114 (by decide) hx
  go_wp2_with (go_at_call 60; with_reducible refine C5.mono ?_; rintro e w5 ⟨rfl, G5⟩; have R5 := rwOn R4 G5 (by omega))
  go_ret2
  exact ⟨rfl, ((((G1.mo).trans G2.mo).trans G3.mo).trans G4.mo).trans G5.mo, R5.out⟩
set_option maxHeartbeats 1000000 in
theorem single94_5 {g : Nat} {t : List Int} {i : Nat} {c : Cs} {w : World} {wr : Wr} (R0 : Hid (RW w g t i c wr)) (h : nx t i = 92) (n0 : ¬ nx t (i + 1) = 120) (n1 : ¬ nx t (i + 1) = 110) (n2 : ¬ nx t (i + 1) = 116) (n3 : ¬ nx t (i + 1) = 114) (hx : nx t (i + 1) = 102) : Calls Tryz.prog 94 #[.pointer (some ⟨g, 0, none⟩)] w fun e w' => e = .returned (.tuple #[.int .i64 12, .bool true]) ∧ Mo w w' g ∧ RW w' g t (i + 2) c wr := by
  have hle := R0.out.rd.le
  have hbd := R0.out.rd.bd
  have hi0 := nx_lt (t := t) (i := i) (by omega)
  have z1 := Joins.cell_of_block R0.out.rd.blk 1
  simp [wrV] at z1
  go_enter Tryz.func94, Tryz.ntmps94
  have C1 := mustE (rdC R0) 92 (by decide) h
  go_wp2_with (go_at_call 63; with_reducible refine C1.mono ?_; rintro e w1 ⟨rfl, G1⟩; have R1 := rwOn R0 G1 (by omega))
  have C2 := tookN (rdC R1) 120 (by decide) n0
  go_wp2_with (go_at_call 60; with_reducible refine C2.mono ?_; rintro e w2 ⟨rfl, G2⟩; have R2 := rwOn R1 G2 (by omega))
  have C3 := tookN (rdC R2) 110 (by decide) n1
  go_wp2_with (go_at_call 60; with_reducible refine C3.mono ?_; rintro e w3 ⟨rfl, G3⟩; have R3 := rwOn R2 G3 (by omega))
  have C4 := tookN (rdC R3) 116 (by decide) n2
  go_wp2_with (go_at_call 60; with_reducible refine C4.mono ?_; rintro e w4 ⟨rfl, G4⟩; have R4 := rwOn R3 G4 (by omega))
  have C5 := tookN (rdC R4) 114 (by decide) n3
  go_wp2_with (go_at_call 60; with_reducible refine C5.mono ?_; rintro e w5 ⟨rfl, G5⟩; have R5 := rwOn R4 G5 (by omega))
  have hi1 := nx_lt (t := t) (i := i + 1) (by omega)
  have C6 := tookE (rdC R5) 102 (by decide) hx
  go_wp2_with (go_at_call 60; with_reducible refine C6.mono ?_; rintro e w6 ⟨rfl, G6⟩; have R6 := rwOn R5 G6 (by omega))
  go_ret2
  exact ⟨rfl, (((((G1.mo).trans G2.mo).trans G3.mo).trans G4.mo).trans G5.mo).trans G6.mo, R6.out⟩
set_option maxHeartbeats 1000000 in
theorem single94_6 {g : Nat} {t : List Int} {i : Nat} {c : Cs} {w : World} {wr : Wr} (R0 : Hid (RW w g t i c wr)) (h : nx t i = 92) (n0 : ¬ nx t (i + 1) = 120) (n1 : ¬ nx t (i + 1) = 110) (n2 : ¬ nx t (i + 1) = 116) (n3 : ¬ nx t (i + 1) = 114) (n4 : ¬ nx t (i + 1) = 102) (hx : nx t (i + 1) = 118) : Calls Tryz.prog 94 #[.pointer (some ⟨g, 0, none⟩)] w fun e w' => e = .returned (.tuple #[.int .i64 11, .bool true]) ∧ Mo w w' g ∧ RW w' g t (i + 2) c wr := by
  have hle := R0.out.rd.le
  have hbd := R0.out.rd.bd
  have hi0 := nx_lt (t := t) (i := i) (by omega)
  have z1 := Joins.cell_of_block R0.out.rd.blk 1
  simp [wrV] at z1
  go_enter Tryz.func94, Tryz.ntmps94
  have C1 := mustE (rdC R0) 92 (by decide) h
  go_wp2_with (go_at_call 63; with_reducible refine C1.mono ?_; rintro e w1 ⟨rfl, G1⟩; have R1 := rwOn R0 G1 (by omega))
  have C2 := tookN (rdC R1) 120 (by decide) n0
  go_wp2_with (go_at_call 60; with_reducible refine C2.mono ?_; rintro e w2 ⟨rfl, G2⟩; have R2 := rwOn R1 G2 (by omega))
  have C3 := tookN (rdC R2) 110 (by decide) n1
  go_wp2_with (go_at_call 60; with_reducible refine C3.mono ?_; rintro e w3 ⟨rfl, G3⟩; have R3 := rwOn R2 G3 (by omega))
  have C4 := tookN (rdC R3) 116 (by decide) n2
  go_wp2_with (go_at_call 60; with_reducible refine C4.mono ?_; rintro e w4 ⟨rfl, G4⟩; have R4 := rwOn R3 G4 (by omega))
  have C5 := tookN (rdC R4) 114 (by decide) n3
  go_wp2_with (go_at_call 60; with_reducible refine C5.mono ?_; rintro e w5 ⟨rfl, G5⟩; have R5 := rwOn R4 G5 (by omega))
  have C6 := tookN (rdC R5) 102 (by decide) n4
  go_wp2_with (go_at_call 60; with_reducible refine C6.mono ?_; rintro e w6 ⟨rfl, G6⟩; have R6 := rwOn R5 G6 (by omega))
  have hi1 := nx_lt (t := t) (i := i + 1) (by omega)
  have C7 := tookE (rdC R6) 118 (by decide) hx
  go_wp2_with (go_at_call 60; with_reducible refine C7.mono ?_; rintro e w7 ⟨rfl, G7⟩; have R7 := rwOn R6 G7 (by omega))
  go_ret2
  exact ⟨rfl, ((((((G1.mo).trans G2.mo).trans G3.mo).trans G4.mo).trans G5.mo).trans G6.mo).trans G7.mo, R7.out⟩
set_option maxHeartbeats 1000000 in
theorem single94_7 {g : Nat} {t : List Int} {i : Nat} {c : Cs} {w : World} {wr : Wr} (R0 : Hid (RW w g t i c wr)) (h : nx t i = 92) (n0 : ¬ nx t (i + 1) = 120) (n1 : ¬ nx t (i + 1) = 110) (n2 : ¬ nx t (i + 1) = 116) (n3 : ¬ nx t (i + 1) = 114) (n4 : ¬ nx t (i + 1) = 102) (n5 : ¬ nx t (i + 1) = 118) (hx : nx t (i + 1) = 97) : Calls Tryz.prog 94 #[.pointer (some ⟨g, 0, none⟩)] w fun e w' => e = .returned (.tuple #[.int .i64 7, .bool true]) ∧ Mo w w' g ∧ RW w' g t (i + 2) c wr := by
  have hle := R0.out.rd.le
  have hbd := R0.out.rd.bd
  have hi0 := nx_lt (t := t) (i := i) (by omega)
  have z1 := Joins.cell_of_block R0.out.rd.blk 1
  simp [wrV] at z1
  go_enter Tryz.func94, Tryz.ntmps94
  have C1 := mustE (rdC R0) 92 (by decide) h
  go_wp2_with (go_at_call 63; with_reducible refine C1.mono ?_; rintro e w1 ⟨rfl, G1⟩; have R1 := rwOn R0 G1 (by omega))
  have C2 := tookN (rdC R1) 120 (by decide) n0
  go_wp2_with (go_at_call 60; with_reducible refine C2.mono ?_; rintro e w2 ⟨rfl, G2⟩; have R2 := rwOn R1 G2 (by omega))
  have C3 := tookN (rdC R2) 110 (by decide) n1
  go_wp2_with (go_at_call 60; with_reducible refine C3.mono ?_; rintro e w3 ⟨rfl, G3⟩; have R3 := rwOn R2 G3 (by omega))
  have C4 := tookN (rdC R3) 116 (by decide) n2
  go_wp2_with (go_at_call 60; with_reducible refine C4.mono ?_; rintro e w4 ⟨rfl, G4⟩; have R4 := rwOn R3 G4 (by omega))
  have C5 := tookN (rdC R4) 114 (by decide) n3
  go_wp2_with (go_at_call 60; with_reducible refine C5.mono ?_; rintro e w5 ⟨rfl, G5⟩; have R5 := rwOn R4 G5 (by omega))
  have C6 := tookN (rdC R5) 102 (by decide) n4
  go_wp2_with (go_at_call 60; with_reducible refine C6.mono ?_; rintro e w6 ⟨rfl, G6⟩; have R6 := rwOn R5 G6 (by omega))
  have C7 := tookN (rdC R6) 118 (by decide) n5
  go_wp2_with (go_at_call 60; with_reducible refine C7.mono ?_; rintro e w7 ⟨rfl, G7⟩; have R7 := rwOn R6 G7 (by omega))
  have hi1 := nx_lt (t := t) (i := i + 1) (by omega)
  have C8 := tookE (rdC R7) 97 (by decide) hx
  go_wp2_with (go_at_call 60; with_reducible refine C8.mono ?_; rintro e w8 ⟨rfl, G8⟩; have R8 := rwOn R7 G8 (by omega))
  go_ret2
  exact ⟨rfl, (((((((G1.mo).trans G2.mo).trans G3.mo).trans G4.mo).trans G5.mo).trans G6.mo).trans G7.mo).trans G8.mo, R8.out⟩
set_option maxHeartbeats 1000000 in
theorem single94_1e {g : Nat} {t : List Int} {i : Nat} {c : Cs} {w : World} {wr : Wr} (R0 : Hid (RW w g t i c wr)) (h : nx t i = 92) (hx : nx t (i + 1) = 120) {k : Nat} (hz : hexRuneP t (i + 2) i wr = .error k) : Calls Tryz.prog 94 #[.pointer (some ⟨g, 0, none⟩)] w fun e w' => e = Gave k ∧ Mo w w' g := by
  have hle := R0.out.rd.le
  have hbd := R0.out.rd.bd
  have hi0 := nx_lt (t := t) (i := i) (by omega)
  have z1 := Joins.cell_of_block R0.out.rd.blk 1
  simp [wrV] at z1
  go_enter Tryz.func94, Tryz.ntmps94
  have C1 := mustE (rdC R0) 92 (by decide) h
  go_wp2_with (go_at_call 63; with_reducible refine C1.mono ?_; rintro e w1 ⟨rfl, G1⟩; have R1 := rwOn R0 G1 (by omega))
  have hi1 := nx_lt (t := t) (i := i + 1) (by omega)
  have C2 := tookE (rdC R1) 120 (by decide) hx
  go_wp2_with (go_at_call 60; with_reducible refine C2.mono ?_; rintro e w2 ⟨rfl, G2⟩; have R2 := rwOn R1 G2 (by omega))
  have C3 := endE (hexRune108 R2 (i : Int)) hz
  go_wp2_with (go_at_call 108; with_reducible refine C3.mono ?_; rintro e w3 ⟨rfl, G3⟩)
  exact ⟨rfl, rfl, ((G1.mo).trans G2.mo).trans G3⟩
set_option maxHeartbeats 1000000 in
theorem single94_1o {g : Nat} {t : List Int} {i : Nat} {c : Cs} {w : World} {wr : Wr} (R0 : Hid (RW w g t i c wr)) (h : nx t i = 92) (hx : nx t (i + 1) = 120) {x : Int} {b : Bool} {k : Nat} {wr2 : Wr} (hz : hexRuneP t (i + 2) i wr = .ok ((x, b), k, wr2)) : Calls Tryz.prog 94 #[.pointer (some ⟨g, 0, none⟩)] w fun e w' => e = .returned (.tuple #[.int .i64 x, .bool b]) ∧ Mo w w' g ∧ RW w' g t k c wr2 := by
  have hle := R0.out.rd.le
  have hbd := R0.out.rd.bd
  have hi0 := nx_lt (t := t) (i := i) (by omega)
  have z1 := Joins.cell_of_block R0.out.rd.blk 1
  simp [wrV] at z1
  go_enter Tryz.func94, Tryz.ntmps94
  have C1 := mustE (rdC R0) 92 (by decide) h
  go_wp2_with (go_at_call 63; with_reducible refine C1.mono ?_; rintro e w1 ⟨rfl, G1⟩; have R1 := rwOn R0 G1 (by omega))
  have hi1 := nx_lt (t := t) (i := i + 1) (by omega)
  have C2 := tookE (rdC R1) 120 (by decide) hx
  go_wp2_with (go_at_call 60; with_reducible refine C2.mono ?_; rintro e w2 ⟨rfl, G2⟩; have R2 := rwOn R1 G2 (by omega))
  have C3 := endOB (hexRune108 R2 (i : Int)) hz
  go_wp2_with (go_at_call 108; with_reducible refine C3.mono ?_; rintro e w3 ⟨rfl, M3, RR3⟩; have R3 := hid RR3)
  go_ret2
  exact ⟨rfl, ((G1.mo).trans G2.mo).trans M3, R3.out⟩
theorem single94_1 {g : Nat} {t : List Int} {i : Nat} {c : Cs} {w : World} {wr : Wr} (R0 : Hid (RW w g t i c wr)) (h : nx t i = 92) (hx : nx t (i + 1) = 120) : Calls Tryz.prog 94 #[.pointer (some ⟨g, 0, none⟩)] w fun e w' => EndW e w w' g t c valB (hexRuneP t (i + 2) i wr) := by
  cases hz : hexRuneP t (i + 2) i wr with
  | error k => exact single94_1e R0 h hx hz
  | ok y =>
    obtain ⟨⟨x, b⟩, k, wr2⟩ := y
    exact (single94_1o R0 h hx hz).mono fun e w' ⟨e1, e2, e3⟩ => ⟨_, e1, rfl, e2, e3⟩
set_option maxHeartbeats 1000000 in
theorem single94_8 {g : Nat} {t : List Int} {i : Nat} {c : Cs} {w : World} {wr : Wr} (R0 : Hid (RW w g t i c wr)) (h : nx t i = 92) (n0 : ¬ nx t (i + 1) = 120) (n1 : ¬ nx t (i + 1) = 110) (n2 : ¬ nx t (i + 1) = 116) (n3 : ¬ nx t (i + 1) = 114) (n4 : ¬ nx t (i + 1) = 102) (n5 : ¬ nx t (i + 1) = 118) (n6 : ¬ nx t (i + 1) = 97) (hx : wordB (nx t (i + 1)) = true) (hy : ¬ nx t (i + 1) = 95) : Calls Tryz.prog 94 #[.pointer (some ⟨g, 0, none⟩)] w fun e w' => e = Gave (i + 1) ∧ Mo w w' g := by
  have hle := R0.out.rd.le
  have hbd := R0.out.rd.bd
  have hi0 := nx_lt (t := t) (i := i) (by omega)
  have z1 := Joins.cell_of_block R0.out.rd.blk 1
  simp [wrV] at z1
  go_enter Tryz.func94, Tryz.ntmps94
  have C1 := mustE (rdC R0) 92 (by decide) h
  go_wp2_with (go_at_call 63; with_reducible refine C1.mono ?_; rintro e w1 ⟨rfl, G1⟩; have R1 := rwOn R0 G1 (by omega))
  have C2 := tookN (rdC R1) 120 (by decide) n0
  go_wp2_with (go_at_call 60; with_reducible refine C2.mono ?_; rintro e w2 ⟨rfl, G2⟩; have R2 := rwOn R1 G2 (by omega))
  have C3 := tookN (rdC R2) 110 (by decide) n1
  go_wp2_with (go_at_call 60; with_reducible refine C3.mono ?_; rintro e w3 ⟨rfl, G3⟩; have R3 := rwOn R2 G3 (by omega))
  have C4 := tookN (rdC R3) 116 (by decide) n2
  go_wp2_with (go_at_call 60; with_reducible refine C4.mono ?_; rintro e w4 ⟨rfl, G4⟩; have R4 := rwOn R3 G4 (by omega))
  have C5 := tookN (rdC R4) 114 (by decide) n3
  go_wp2_with (go_at_call 60; with_reducible refine C5.mono ?_; rintro e w5 ⟨rfl, G5⟩; have R5 := rwOn R4 G5 (by omega))
  have C6 := tookN (rdC R5) 102 (by decide) n4
  go_wp2_with (go_at_call 60; with_reducible refine C6.mono ?_; rintro e w6 ⟨rfl, G6⟩; have R6 := rwOn R5 G6 (by omega))
  have C7 := tookN (rdC R6) 118 (by decide) n5
  go_wp2_with (go_at_call 60; with_reducible refine C7.mono ?_; rintro e w7 ⟨rfl, G7⟩; have R7 := rwOn R6 G7 (by omega))
  have C8 := tookN (rdC R7) 97 (by decide) n6
  go_wp2_with (go_at_call 60; with_reducible refine C8.mono ?_; rintro e w8 ⟨rfl, G8⟩; have R8 := rwOn R7 G8 (by omega))
  have C9 := wordE (rdC R8) true hx
  go_wp2_with (go_at_call 84; with_reducible refine C9.mono ?_; rintro e w9 ⟨rfl, G9⟩; have R9 := rwOn R8 G9 (by omega))
  have C10 := seesE (rdC R9) 95 95 false (by decide) (decide_eq_false (by omega))
  go_wp2_with (go_at_call 83; with_reducible refine C10.mono ?_; rintro e w10 ⟨rfl, G10⟩; have R10 := rwOn R9 G10 (by omega))
  have C11 := giveE (rdC R10)
  go_wp2_with (go_at_call 47; with_reducible refine C11.mono ?_; rintro e w11 ⟨rfl, G11⟩)
  exact ⟨rfl, rfl, ((((((((((G1.mo).trans G2.mo).trans G3.mo).trans G4.mo).trans G5.mo).trans G6.mo).trans G7.mo).trans G8.mo).trans G9.mo).trans G10.mo).trans G11.mo⟩
set_option maxHeartbeats 1000000 in
theorem single94_9a {g : Nat} {t : List Int} {i : Nat} {c : Cs} {w : World} {wr : Wr} (R0 : Hid (RW w g t i c wr)) (h : nx t i = 92) (n0 : ¬ nx t (i + 1) = 120) (n1 : ¬ nx t (i + 1) = 110) (n2 : ¬ nx t (i + 1) = 116) (n3 : ¬ nx t (i + 1) = 114) (n4 : ¬ nx t (i + 1) = 102) (n5 : ¬ nx t (i + 1) = 118) (n6 : ¬ nx t (i + 1) = 97) (hx : wordB (nx t (i + 1)) = false) (hz : 33 ≤ nx t (i + 1) ∧ nx t (i + 1) ≤ 126) : Calls Tryz.prog 94 #[.pointer (some ⟨g, 0, none⟩)] w fun e w' => e = .returned (.tuple #[.int .i64 (nx t (i + 1)), .bool true]) ∧ Mo w w' g ∧ RW w' g t (i + 2) c wr := by
  have hle := R0.out.rd.le
  have hbd := R0.out.rd.bd
  have hi0 := nx_lt (t := t) (i := i) (by omega)
  have z1 := Joins.cell_of_block R0.out.rd.blk 1
  simp [wrV] at z1
  go_enter Tryz.func94, Tryz.ntmps94
  have C1 := mustE (rdC R0) 92 (by decide) h
  go_wp2_with (go_at_call 63; with_reducible refine C1.mono ?_; rintro e w1 ⟨rfl, G1⟩; have R1 := rwOn R0 G1 (by omega))
  have C2 := tookN (rdC R1) 120 (by decide) n0
  go_wp2_with (go_at_call 60; with_reducible refine C2.mono ?_; rintro e w2 ⟨rfl, G2⟩; have R2 := rwOn R1 G2 (by omega))
  have C3 := tookN (rdC R2) 110 (by decide) n1
  go_wp2_with (go_at_call 60; with_reducible refine C3.mono ?_; rintro e w3 ⟨rfl, G3⟩; have R3 := rwOn R2 G3 (by omega))
  have C4 := tookN (rdC R3) 116 (by decide) n2
  go_wp2_with (go_at_call 60; with_reducible refine C4.mono ?_; rintro e w4 ⟨rfl, G4⟩; have R4 := rwOn R3 G4 (by omega))
  have C5 := tookN (rdC R4) 114 (by decide) n3
  go_wp2_with (go_at_call 60; with_reducible refine C5.mono ?_; rintro e w5 ⟨rfl, G5⟩; have R5 := rwOn R4 G5 (by omega))
  have C6 := tookN (rdC R5) 102 (by decide) n4
  go_wp2_with (go_at_call 60; with_reducible refine C6.mono ?_; rintro e w6 ⟨rfl, G6⟩; have R6 := rwOn R5 G6 (by omega))
  have C7 := tookN (rdC R6) 118 (by decide) n5
  go_wp2_with (go_at_call 60; with_reducible refine C7.mono ?_; rintro e w7 ⟨rfl, G7⟩; have R7 := rwOn R6 G7 (by omega))
  have C8 := tookN (rdC R7) 97 (by decide) n6
  go_wp2_with (go_at_call 60; with_reducible refine C8.mono ?_; rintro e w8 ⟨rfl, G8⟩; have R8 := rwOn R7 G8 (by omega))
  have hi1 := nx_lt (t := t) (i := i + 1) (by omega)
  have v1 := i64_small (nx t (i + 1)) (by omega) (by omega)
  have C9 := wordE (rdC R8) false hx
  go_wp2_with (go_at_call 84; with_reducible refine C9.mono ?_; rintro e w9 ⟨rfl, G9⟩; have R9 := rwOn R8 G9 (by omega))
  have C10 := takeE (rdC R9) 33 126 (by decide) hz
  go_wp2_with (go_at_call 85; with_reducible refine C10.mono ?_; rintro e w10 ⟨rfl, G10⟩; have R10 := rwOn R9 G10 (by omega))
  go_ret2
  exact ⟨rfl, (((((((((G1.mo).trans G2.mo).trans G3.mo).trans G4.mo).trans G5.mo).trans G6.mo).trans G7.mo).trans G8.mo).trans G9.mo).trans G10.mo, R10.out⟩
set_option maxHeartbeats 1000000 in
theorem single94_10a {g : Nat} {t : List Int} {i : Nat} {c : Cs} {w : World} {wr : Wr} (R0 : Hid (RW w g t i c wr)) (h : nx t i = 92) (n0 : ¬ nx t (i + 1) = 120) (n1 : ¬ nx t (i + 1) = 110) (n2 : ¬ nx t (i + 1) = 116) (n3 : ¬ nx t (i + 1) = 114) (n4 : ¬ nx t (i + 1) = 102) (n5 : ¬ nx t (i + 1) = 118) (n6 : ¬ nx t (i + 1) = 97) (hx : wordB (nx t (i + 1)) = false) (hz : ¬ (33 ≤ nx t (i + 1) ∧ nx t (i + 1) ≤ 126)) : Calls Tryz.prog 94 #[.pointer (some ⟨g, 0, none⟩)] w fun e w' => e = Gave (i + 1) ∧ Mo w w' g := by
  have hle := R0.out.rd.le
  have hbd := R0.out.rd.bd
  have hi0 := nx_lt (t := t) (i := i) (by omega)
  have z1 := Joins.cell_of_block R0.out.rd.blk 1
  simp [wrV] at z1
  go_enter Tryz.func94, Tryz.ntmps94
  have C1 := mustE (rdC R0) 92 (by decide) h
  go_wp2_with (go_at_call 63; with_reducible refine C1.mono ?_; rintro e w1 ⟨rfl, G1⟩; have R1 := rwOn R0 G1 (by omega))
  have C2 := tookN (rdC R1) 120 (by decide) n0
  go_wp2_with (go_at_call 60; with_reducible refine C2.mono ?_; rintro e w2 ⟨rfl, G2⟩; have R2 := rwOn R1 G2 (by omega))
  have C3 := tookN (rdC R2) 110 (by decide) n1
  go_wp2_with (go_at_call 60; with_reducible refine C3.mono ?_; rintro e w3 ⟨rfl, G3⟩; have R3 := rwOn R2 G3 (by omega))
  have C4 := tookN (rdC R3) 116 (by decide) n2
  go_wp2_with (go_at_call 60; with_reducible refine C4.mono ?_; rintro e w4 ⟨rfl, G4⟩; have R4 := rwOn R3 G4 (by omega))
  have C5 := tookN (rdC R4) 114 (by decide) n3
  go_wp2_with (go_at_call 60; with_reducible refine C5.mono ?_; rintro e w5 ⟨rfl, G5⟩; have R5 := rwOn R4 G5 (by omega))
  have C6 := tookN (rdC R5) 102 (by decide) n4
  go_wp2_with (go_at_call 60; with_reducible refine C6.mono ?_; rintro e w6 ⟨rfl, G6⟩; have R6 := rwOn R5 G6 (by omega))
  have C7 := tookN (rdC R6) 118 (by decide) n5
  go_wp2_with (go_at_call 60; with_reducible refine C7.mono ?_; rintro e w7 ⟨rfl, G7⟩; have R7 := rwOn R6 G7 (by omega))
  have C8 := tookN (rdC R7) 97 (by decide) n6
  go_wp2_with (go_at_call 60; with_reducible refine C8.mono ?_; rintro e w8 ⟨rfl, G8⟩; have R8 := rwOn R7 G8 (by omega))
  have C9 := wordE (rdC R8) false hx
  go_wp2_with (go_at_call 84; with_reducible refine C9.mono ?_; rintro e w9 ⟨rfl, G9⟩; have R9 := rwOn R8 G9 (by omega))
  have C10 := takeN (rdC R9) 33 126 (by decide) hz
  go_wp2_with (go_at_call 85; with_reducible refine C10.mono ?_; rintro e w10 ⟨rfl, G10⟩)
  exact ⟨rfl, rfl, (((((((((G1.mo).trans G2.mo).trans G3.mo).trans G4.mo).trans G5.mo).trans G6.mo).trans G7.mo).trans G8.mo).trans G9.mo).trans G10.mo⟩
set_option maxHeartbeats 1000000 in
theorem single94_9b {g : Nat} {t : List Int} {i : Nat} {c : Cs} {w : World} {wr : Wr} (R0 : Hid (RW w g t i c wr)) (h : nx t i = 92) (n0 : ¬ nx t (i + 1) = 120) (n1 : ¬ nx t (i + 1) = 110) (n2 : ¬ nx t (i + 1) = 116) (n3 : ¬ nx t (i + 1) = 114) (n4 : ¬ nx t (i + 1) = 102) (n5 : ¬ nx t (i + 1) = 118) (n6 : ¬ nx t (i + 1) = 97) (hx : wordB (nx t (i + 1)) = true) (hy : nx t (i + 1) = 95) (hz : 33 ≤ nx t (i + 1) ∧ nx t (i + 1) ≤ 126) : Calls Tryz.prog 94 #[.pointer (some ⟨g, 0, none⟩)] w fun e w' => e = .returned (.tuple #[.int .i64 (nx t (i + 1)), .bool true]) ∧ Mo w w' g ∧ RW w' g t (i + 2) c wr := by
  have hle := R0.out.rd.le
  have hbd := R0.out.rd.bd
  have hi0 := nx_lt (t := t) (i := i) (by omega)
  have z1 := Joins.cell_of_block R0.out.rd.blk 1
  simp [wrV] at z1
  go_enter Tryz.func94, Tryz.ntmps94
  have C1 := mustE (rdC R0) 92 (by decide) h
  go_wp2_with (go_at_call 63; with_reducible refine C1.mono ?_; rintro e w1 ⟨rfl, G1⟩; have R1 := rwOn R0 G1 (by omega))
  have C2 := tookN (rdC R1) 120 (by decide) n0
  go_wp2_with (go_at_call 60; with_reducible refine C2.mono ?_; rintro e w2 ⟨rfl, G2⟩; have R2 := rwOn R1 G2 (by omega))
  have C3 := tookN (rdC R2) 110 (by decide) n1
  go_wp2_with (go_at_call 60; with_reducible refine C3.mono ?_; rintro e w3 ⟨rfl, G3⟩; have R3 := rwOn R2 G3 (by omega))
  have C4 := tookN (rdC R3) 116 (by decide) n2
  go_wp2_with (go_at_call 60; with_reducible refine C4.mono ?_; rintro e w4 ⟨rfl, G4⟩; have R4 := rwOn R3 G4 (by omega))
  have C5 := tookN (rdC R4) 114 (by decide) n3
  go_wp2_with (go_at_call 60; with_reducible refine C5.mono ?_; rintro e w5 ⟨rfl, G5⟩; have R5 := rwOn R4 G5 (by omega))
  have C6 := tookN (rdC R5) 102 (by decide) n4
  go_wp2_with (go_at_call 60; with_reducible refine C6.mono ?_; rintro e w6 ⟨rfl, G6⟩; have R6 := rwOn R5 G6 (by omega))
  have C7 := tookN (rdC R6) 118 (by decide) n5
  go_wp2_with (go_at_call 60; with_reducible refine C7.mono ?_; rintro e w7 ⟨rfl, G7⟩; have R7 := rwOn R6 G7 (by omega))
  have C8 := tookN (rdC R7) 97 (by decide) n6
  go_wp2_with (go_at_call 60; with_reducible refine C8.mono ?_; rintro e w8 ⟨rfl, G8⟩; have R8 := rwOn R7 G8 (by omega))
  have hi1 := nx_lt (t := t) (i := i + 1) (by omega)
  have v1 := i64_small (nx t (i + 1)) (by omega) (by omega)
  have C9 := wordE (rdC R8) true hx
  go_wp2_with (go_at_call 84; with_reducible refine C9.mono ?_; rintro e w9 ⟨rfl, G9⟩; have R9 := rwOn R8 G9 (by omega))
  have C10 := seesE (rdC R9) 95 95 true (by decide) (decide_eq_true (by omega))
  go_wp2_with (go_at_call 83; with_reducible refine C10.mono ?_; rintro e w10 ⟨rfl, G10⟩; have R10 := rwOn R9 G10 (by omega))
  have C11 := takeE (rdC R10) 33 126 (by decide) hz
  go_wp2_with (go_at_call 85; with_reducible refine C11.mono ?_; rintro e w11 ⟨rfl, G11⟩; have R11 := rwOn R10 G11 (by omega))
  go_ret2
  exact ⟨by rw [hy]; rfl, ((((((((((G1.mo).trans G2.mo).trans G3.mo).trans G4.mo).trans G5.mo).trans G6.mo).trans G7.mo).trans G8.mo).trans G9.mo).trans G10.mo).trans G11.mo, R11.out⟩
theorem single94 {g : Nat} {t : List Int} {i : Nat} {c : Cs} {w : World} {wr : Wr} (R0 : Hid (RW w g t i c wr)) : Calls Tryz.prog 94 #[.pointer (some ⟨g, 0, none⟩)] w fun e w' => EndW e w w' g t c valB (single2 t i wr) := by
  unfold single2 single
  by_cases h : nx t i = 92
  · rw [if_pos h]
    by_cases n0 : nx t (i + 1) = 120
    · rw [if_pos n0]; exact single94_1 R0 h n0
    · rw [if_neg n0]
      by_cases n1 : nx t (i + 1) = 110
      · rw [if_pos n1]; simp only; rw [if_pos (runeOK_small (by decide) (by decide))]; exact (single94_2 R0 h n0 n1).mono fun e w' ⟨e1, e2, e3⟩ => ⟨_, e1, rfl, e2, e3⟩
      · rw [if_neg n1]
        by_cases n2 : nx t (i + 1) = 116
        · rw [if_pos n2]; simp only; rw [if_pos (runeOK_small (by decide) (by decide))]; exact (single94_3 R0 h n0 n1 n2).mono fun e w' ⟨e1, e2, e3⟩ => ⟨_, e1, rfl, e2, e3⟩
        · rw [if_neg n2]
          by_cases n3 : nx t (i + 1) = 114
          · rw [if_pos n3]; simp only; rw [if_pos (runeOK_small (by decide) (by decide))]; exact (single94_4 R0 h n0 n1 n2 n3).mono fun e w' ⟨e1, e2, e3⟩ => ⟨_, e1, rfl, e2, e3⟩
          · rw [if_neg n3]
            by_cases n4 : nx t (i + 1) = 102
            · rw [if_pos n4]; simp only; rw [if_pos (runeOK_small (by decide) (by decide))]; exact (single94_5 R0 h n0 n1 n2 n3 n4).mono fun e w' ⟨e1, e2, e3⟩ => ⟨_, e1, rfl, e2, e3⟩
            · rw [if_neg n4]
              by_cases n5 : nx t (i + 1) = 118
              · rw [if_pos n5]; simp only; rw [if_pos (runeOK_small (by decide) (by decide))]; exact (single94_6 R0 h n0 n1 n2 n3 n4 n5).mono fun e w' ⟨e1, e2, e3⟩ => ⟨_, e1, rfl, e2, e3⟩
              · rw [if_neg n5]
                by_cases n6 : nx t (i + 1) = 97
                · rw [if_pos n6]; simp only; rw [if_pos (runeOK_small (by decide) (by decide))]; exact (single94_7 R0 h n0 n1 n2 n3 n4 n5 n6).mono fun e w' ⟨e1, e2, e3⟩ => ⟨_, e1, rfl, e2, e3⟩
                · rw [if_neg n6]
                  cases hx : wordB (nx t (i + 1))
                  · rw [if_neg (by simp)]
                    by_cases hz : 33 ≤ nx t (i + 1) ∧ nx t (i + 1) ≤ 126
                    · rw [if_pos hz]; simp only; rw [if_pos (runeOK_small (by omega) (by omega))]; exact (single94_9a R0 h n0 n1 n2 n3 n4 n5 n6 hx hz).mono fun e w' ⟨e1, e2, e3⟩ => ⟨_, e1, rfl, e2, e3⟩
                    · rw [if_neg hz]; exact single94_10a R0 h n0 n1 n2 n3 n4 n5 n6 hx hz
                  · by_cases hy : nx t (i + 1) = 95
                    · rw [if_neg (by simp [hy])]
                      by_cases hz : 33 ≤ nx t (i + 1) ∧ nx t (i + 1) ≤ 126
                      · rw [if_pos hz]; simp only; rw [if_pos (runeOK_small (by omega) (by omega))]; exact (single94_9b R0 h n0 n1 n2 n3 n4 n5 n6 hx hy hz).mono fun e w' ⟨e1, e2, e3⟩ => ⟨_, e1, rfl, e2, e3⟩
                      · exact absurd ⟨by omega, by omega⟩ hz
                    · rw [if_pos ⟨rfl, hy⟩]; exact single94_8 R0 h n0 n1 n2 n3 n4 n5 n6 hx hy
  · rw [if_neg h]; exact single94_0 R0 h
theorem moN {f : Nat} {args : Array Value} {w : World} {g k : Nat} (h : Calls Tryz.prog f args w fun e w' => e = Gave k ∧ Go1 w w' g k) : Calls Tryz.prog f args w fun e w' => e = Gave k ∧ Mo w w' g := h.mono fun _ _ ⟨h1, h2⟩ => ⟨h1, h2.mo⟩
set_option maxHeartbeats 1000000 in
theorem one107_a {g : Nat} {t : List Int} {i : Nat} {c : Cs} {w : World} {wr : Wr} (R0 : Hid (RW w g t i c wr)) (h : nx t i = 92) {k : Nat} (hz : single2 t i wr = .error k) : Calls Tryz.prog 107 #[.pointer (some ⟨g, 0, none⟩)] w fun e w' => e = Gave k ∧ Mo w w' g := by
  have hle := R0.out.rd.le
  have hbd := R0.out.rd.bd
  go_enter Tryz.func107, Tryz.ntmps107
  have C1 := seesE (rdC R0) 92 92 true (by decide) (decide_eq_true (by omega))
  go_wp2_with (go_at_call 83; with_reducible refine C1.mono ?_; rintro e w1 ⟨rfl, G1⟩; have R1 := rwOn R0 G1 (by omega))
  have C2 := endE (single94 R1) hz
  go_wp2_with (go_at_call 94; with_reducible refine C2.mono ?_; rintro e w2 ⟨rfl, G2⟩)
  exact ⟨rfl, rfl, (G1.mo).trans G2⟩
set_option maxHeartbeats 1000000 in
theorem one107_b {g : Nat} {t : List Int} {i : Nat} {c : Cs} {w : World} {wr : Wr} (R0 : Hid (RW w g t i c wr)) (h : nx t i = 92) {x : Int} {b : Bool} {k : Nat} {wr2 : Wr} (hz : single2 t i wr = .ok ((x, b), k, wr2)) : Calls Tryz.prog 107 #[.pointer (some ⟨g, 0, none⟩)] w fun e w' => e = .returned (.tuple #[.int .i64 x, .bool b]) ∧ Mo w w' g ∧ RW w' g t k c wr2 := by
  have hle := R0.out.rd.le
  have hbd := R0.out.rd.bd
  go_enter Tryz.func107, Tryz.ntmps107
  have C1 := seesE (rdC R0) 92 92 true (by decide) (decide_eq_true (by omega))
  go_wp2_with (go_at_call 83; with_reducible refine C1.mono ?_; rintro e w1 ⟨rfl, G1⟩; have R1 := rwOn R0 G1 (by omega))
  have C2 := endOB (single94 R1) hz
  go_wp2_with (go_at_call 94; with_reducible refine C2.mono ?_; rintro e w2 ⟨rfl, M2, RR2⟩; have R2 := hid RR2)
  go_ret2
  exact ⟨rfl, (G1.mo).trans M2, R2.out⟩
section
variable {g : Nat} {t : List Int} {i : Nat} {c : Cs} {w : World} {wr : Wr}
theorem runeE (R : Hid (RW w g t i c wr)) (s : ByteArray) {v : Int} {k : Nat} (h : runeBut t s i = .ok (v, k)) : Calls Tryz.prog 70 #[.pointer (some ⟨g, 0, none⟩), .string s] w fun e w' => e = .returned (.int .i64 v) ∧ Go1 w w' g k := by
  have := runeBut70 s (rdC R) R.out.gl.tabs (by have := R.out.hg; omega)
  rw [h] at this
  exact this
theorem runeN (R : Hid (RW w g t i c wr)) (s : ByteArray) {k : Nat} (h : runeBut t s i = .error k) : Calls Tryz.prog 70 #[.pointer (some ⟨g, 0, none⟩), .string s] w fun e w' => e = Gave k ∧ Go1 w w' g k := by
  have := runeBut70 s (rdC R) R.out.gl.tabs (by have := R.out.hg; omega)
  rw [h] at this
  exact this
theorem runeBut_bd {t : List Int} {s : ByteArray} {i : Nat} {v : Int} {k : Nat} (h : runeBut t s i = .ok (v, k)) : i < k ∧ k ≤ t.length := by
  unfold runeBut at h
  split at h
  · cases h
  · cases hr : rb (nx t i) with
    | none => rw [hr] at h; cases h
    | some x =>
      obtain ⟨m, a, b⟩ := x
      rw [hr] at h
      obtain ⟨h1, h2, h3⟩ := rb_some hr
      have hi := nx_lt h3
      simp only at h
      cases hc : cont t m (i + 1) a b with
      | error k => rw [hc] at h; cases h
      | ok k2 =>
        rw [hc] at h
        have := cont_bd t m (i + 1) a b k2 h2 (by omega) hc
        simp at h
        omega
end
set_option maxHeartbeats 1000000 in
theorem one107_c {g : Nat} {t : List Int} {i : Nat} {c : Cs} {w : World} {wr : Wr} (R0 : Hid (RW w g t i c wr)) (h : ¬ nx t i = 92) {k : Nat} (hz : runeBut t notOne i = .error k) : Calls Tryz.prog 107 #[.pointer (some ⟨g, 0, none⟩)] w fun e w' => e = Gave k ∧ Mo w w' g := by
  have hle := R0.out.rd.le
  have hbd := R0.out.rd.bd
  go_enter Tryz.func107, Tryz.ntmps107
  have C1 := seesE (rdC R0) 92 92 false (by decide) (decide_eq_false (by omega))
  go_wp2_with (go_at_call 83; with_reducible refine C1.mono ?_; rintro e w1 ⟨rfl, G1⟩; have R1 := rwOn R0 G1 (by omega))
  have C2 := moN (runeN R1 ⟨#[92, 91, 93, 94, 45]⟩ hz)
  go_wp2_with (go_at_call 70; with_reducible refine C2.mono ?_; rintro e w2 ⟨rfl, G2⟩)
  exact ⟨rfl, rfl, (G1.mo).trans G2⟩
set_option maxHeartbeats 1000000 in
theorem one107_d {g : Nat} {t : List Int} {i : Nat} {c : Cs} {w : World} {wr : Wr} (R0 : Hid (RW w g t i c wr)) (h : ¬ nx t i = 92) {x : Int} {k : Nat} (hz : runeBut t notOne i = .ok (x, k)) : Calls Tryz.prog 107 #[.pointer (some ⟨g, 0, none⟩)] w fun e w' => e = .returned (.tuple #[.int .i64 x, .bool true]) ∧ Mo w w' g ∧ RW w' g t k c wr := by
  have hle := R0.out.rd.le
  have hbd := R0.out.rd.bd
  obtain ⟨n1, n2⟩ := runeBut_bd hz
  go_enter Tryz.func107, Tryz.ntmps107
  have C1 := seesE (rdC R0) 92 92 false (by decide) (decide_eq_false (by omega))
  go_wp2_with (go_at_call 83; with_reducible refine C1.mono ?_; rintro e w1 ⟨rfl, G1⟩; have R1 := rwOn R0 G1 (by omega))
  have C2 := runeE R1 ⟨#[92, 91, 93, 94, 45]⟩ hz
  go_wp2_with (go_at_call 70; with_reducible refine C2.mono ?_; rintro e w2 ⟨rfl, G2⟩; have R2 := rwOn R1 G2 (by omega))
  go_ret2
  exact ⟨rfl, (G1.mo).trans G2.mo, R2.out⟩
theorem one107 {g : Nat} {t : List Int} {i : Nat} {c : Cs} {w : World} {wr : Wr} (R0 : Hid (RW w g t i c wr)) : Calls Tryz.prog 107 #[.pointer (some ⟨g, 0, none⟩)] w fun e w' => EndW e w w' g t c valB (one t i wr) := by
  unfold one
  by_cases h : nx t i = 92
  · rw [if_pos h]
    cases hz : single2 t i wr with
    | error k => exact one107_a R0 h hz
    | ok y =>
      obtain ⟨⟨x, b⟩, k, wr2⟩ := y
      exact (one107_b R0 h hz).mono fun e w' ⟨e1, e2, e3⟩ => ⟨_, e1, rfl, e2, e3⟩
  · rw [if_neg h]
    cases hz : runeBut t notOne i with
    | error k => exact one107_c R0 h hz
    | ok y =>
      obtain ⟨x, k⟩ := y
      exact (one107_d R0 h hz).mono fun e w' ⟨e1, e2, e3⟩ => ⟨_, e1, rfl, e2, e3⟩
end Go.Proofs.YtenanfkmmkmolaaGreatDoor
/- HELPERS: the sets of letters behind a backslash; a class about case. -/
namespace Go.Proofs.YtenanfkmmkmolaaGreatDoor
open Go.RowKit Go.Mx
set_option linter.unusedVariables false
set_option linter.unusedSimpArgs false
/-- a list of ranges in memory that is its owner's -/
abbrev valR (N : Nat) (L : Rng) (w : World) (v : Value) : Prop := w.ownsRow N 62 2 v L.length (fl L)
theorem own_new (w : World) (L : Rng) (cs : Array Value) (hc : cs = (fl L).toArray) (hl : L.length ≤ 1000) (n : Nat) (hn : n = L.length) : (w.alloc (.cells cs 62)).ownsRow w.heap.size 62 2 (.slice (some ⟨w.heap.size, 0, none⟩) n n) n (fl L) := by
  subst hc hn
  refine ⟨fl_len L, .inr ⟨w.heap.size, L.length, (fl L).toArray, rfl, Nat.le_refl _, heap_alloc_new w _, Nat.le_refl _, by unfold maxLen; omega, by simp [fl_len], ?_⟩⟩
  rw [List.take_of_length_le (by simp [fl_len])]
theorem XG_d : XG [(48, 57)] = [(0, 47), (58, 55295), (57344, 1114111)] := by decide
theorem XG_s : XG [(9, 13), (32, 32)] = [(0, 8), (14, 31), (33, 55295), (57344, 1114111)] := by decide
theorem XG_w : XG [(48, 57), (65, 90), (95, 95), (97, 122)] = [(0, 47), (58, 64), (91, 94), (96, 96), (123, 55295), (57344, 1114111)] := by decide
/-- what a set's letter gives -/
def SetE (w w' : World) (e : Ending) : Option Rng → Prop
  | some L => ∃ b cap, e = .returned (.slice (some ⟨b, 0, none⟩) L.length cap) ∧ valR w.heap.size L w' (.slice (some ⟨b, 0, none⟩) L.length cap) ∧ Below w.heap.size w w'
  | none => e = .returned (.slice none 0 0) ∧ w' = w
set_option maxHeartbeats 1000000 in
theorem setOf93_d (w : World) : Calls Tryz.prog 93 #[.int .u8 100] w fun e w' => SetE w w' e (some [(48, 57)]) := by
  go_enter Tryz.func93, Tryz.ntmps93
  go_wp2
  go_ret
  exact ⟨_, _, rfl, own_new w _ _ rfl (by decide) _ rfl, Joins.below_alloc1 _ _⟩
set_option maxHeartbeats 1000000 in
theorem setOf93_s (w : World) : Calls Tryz.prog 93 #[.int .u8 115] w fun e w' => SetE w w' e (some [(9, 13), (32, 32)]) := by
  go_enter Tryz.func93, Tryz.ntmps93
  go_wp2
  go_ret
  exact ⟨_, _, rfl, own_new w _ _ rfl (by decide) _ rfl, Joins.below_alloc1 _ _⟩
set_option maxHeartbeats 1000000 in
theorem setOf93_w (w : World) : Calls Tryz.prog 93 #[.int .u8 119] w fun e w' => SetE w w' e (some [(48, 57), (65, 90), (95, 95), (97, 122)]) := by
  go_enter Tryz.func93, Tryz.ntmps93
  go_wp2
  go_ret
  exact ⟨_, _, rfl, own_new w _ _ rfl (by decide) _ rfl, Joins.below_alloc1 _ _⟩
theorem got_pos {w w' : World} {e : Ending} {X : Rng} {n : Int} (h : Got w w' e X n) (hX : 0 < X.length) : ∃ b cap, e = .returned (.tuple #[.slice (some ⟨b, 0, none⟩) X.length cap, .int .i64 n]) ∧ valR w.heap.size X w' (.slice (some ⟨b, 0, none⟩) X.length cap) ∧ Below w.heap.size w w' := by
  obtain ⟨ad, m, cap, rfl, ho, rfl, hb⟩ := h
  obtain ⟨b, cap', he⟩ := Joins.ownsRow_form ho hX
  simp only [Value.slice.injEq] at he
  obtain ⟨rfl, _, rfl⟩ := he
  exact ⟨b, cap, rfl, ho, hb⟩
set_option maxHeartbeats 1000000 in
theorem setOf93_up (x y : Int) (L X : Rng) (w : World) (hx : IntKind.u8.wrap (IntKind.u8.wrap (x - 65) + 97) = y) (hxs : x = 68 ∨ x = 83 ∨ x = 87) (hL : 0 < L.length ∧ L.length ≤ 10) (hX : XG L = X) (hX0 : 0 < X.length)
    (C1 : Calls Tryz.prog 93 #[.int .u8 y] w fun e w' => SetE w w' e (some L)) : Calls Tryz.prog 93 #[.int .u8 x] w fun e w' => SetE w w' e (some X) := by
  have key : ∀ w1 b cap, valR w.heap.size L w1 (.slice (some ⟨b, 0, none⟩) L.length cap) → Calls Tryz.prog 88 #[.slice (some ⟨b, 0, none⟩) L.length cap] w1 fun e w' => ∃ b cap, e = .returned (.tuple #[.slice (some ⟨b, 0, none⟩) X.length cap, .int .i64 (cG L)]) ∧ valR w1.heap.size X w' (.slice (some ⟨b, 0, none⟩) X.length cap) ∧ Below w1.heap.size w1 w' := by
    intro w1 b cap h1
    refine (neg_got L (some ⟨b, 0, none⟩) L.length cap w1 rfl (by omega) (row_own rfl h1)).mono fun e w' h => ?_
    rw [hX] at h
    exact got_pos h hX0
  have HX : Hid (XG L = X) := hX
  clear hX
  have C2 : Calls Tryz.prog 93 #[.int .u8 y] w fun e w' => ∃ b cap, e = .returned (.slice (some ⟨b, 0, none⟩) L.length cap) ∧ valR w.heap.size L w' (.slice (some ⟨b, 0, none⟩) L.length cap) ∧ Below w.heap.size w w' := C1
  clear C1
  rcases hxs with rfl | rfl | rfl
  all_goals
    (simp [IntKind.wrap, IntKind.bits, IntKind.signed] at hx
     subst hx
     go_enter Tryz.func93, Tryz.ntmps93
     go_wp2_with (first | (go_at_call 93; with_reducible refine C2.mono ?_; rintro e w1 ⟨b, cap, rfl, h1, B1⟩) | (go_at_call 88; with_reducible refine (key _ _ _ h1).mono ?_; rintro e w2 ⟨b2, cap2, rfl, h2, B2⟩))
     go_ret
     exact ⟨b2, cap2, rfl, Joins.ownsRow_le h2 B1.size, B1.trans (Joins.below_le B2 B1.size)⟩)
set_option maxHeartbeats 1000000 in
theorem setOf93_none (x : Int) (w : World) (h : ¬ x = 100 ∧ ¬ x = 115 ∧ ¬ x = 119 ∧ ¬ x = 68 ∧ ¬ x = 83 ∧ ¬ x = 87) : Calls Tryz.prog 93 #[.int .u8 x] w fun e w' => e = .returned (.slice none 0 0) ∧ w' = w := by
  obtain ⟨h1, h2, h3, h4, h5, h6⟩ := h
  go_enter Tryz.func93, Tryz.ntmps93
  go_wp2
  go_ret
  exact ⟨rfl, rfl⟩
theorem setOf93 (x : Int) (w : World) : Calls Tryz.prog 93 #[.int .u8 x] w fun e w' => SetE w w' e (setL x) := by
  unfold setL
  by_cases h1 : x = 100
  · rw [if_pos h1]; subst h1; exact setOf93_d w
  · rw [if_neg h1]
    by_cases h2 : x = 115
    · rw [if_pos h2]; subst h2; exact setOf93_s w
    · rw [if_neg h2]
      by_cases h3 : x = 119
      · rw [if_pos h3]; subst h3; exact setOf93_w w
      · rw [if_neg h3]
        by_cases h4 : x = 68
        · rw [if_pos h4]; subst h4; exact setOf93_up 68 100 _ _ w (by decide) (.inl rfl) (by decide) rfl (by rw [XG_d]; decide) (setOf93_d w)
        · rw [if_neg h4]
          by_cases h5 : x = 83
          · rw [if_pos h5]; subst h5; exact setOf93_up 83 115 _ _ w (by decide) (.inr (.inl rfl)) (by decide) rfl (by rw [XG_s]; decide) (setOf93_s w)
          · rw [if_neg h5]
            by_cases h6 : x = 87
            · rw [if_pos h6]; subst h6; exact setOf93_up 87 119 _ _ w (by decide) (.inr (.inr rfl)) (by decide) rfl (by rw [XG_w]; decide) (setOf93_w w)
            · rw [if_neg h6]; exact setOf93_none x w ⟨h1, h2, h3, h4, h5, h6⟩
/-- the flags of the innermost level -/
def Fl (w : World) (g : Nat) (c : Cs) (fold all : Bool) : Prop := ∃ ob n cap, c.ov = .slice (some ⟨ob, 0, none⟩) (n + 1) cap ∧ ob ≠ g ∧ n + 1 ≤ cap ∧ n ≤ 65600 ∧ w.cell? ⟨ob, n * 6 + 2, none⟩ = some (.bool fold) ∧ w.cell? ⟨ob, n * 6 + 3, none⟩ = some (.bool all)
theorem cell_mo {w w' : World} {g : Nat} {a : Addr} {v : Value} (hm : Mo w w' g) (h : w.cell? a = some v) (hne : a.block ≠ g) : w'.cell? a = some v := by
  have hlt := cell_lt h
  rw [← h]
  unfold World.cell?
  rw [hm.block _ hlt hne]
theorem Fl.mo {w w' : World} {g : Nat} {c : Cs} {fold all : Bool} (h : Fl w g c fold all) (hm : Mo w w' g) : Fl w' g c fold all := by
  obtain ⟨ob, n, cap, h1, h2, h3, h4, h5, h6⟩ := h
  exact ⟨ob, n, cap, h1, h2, h3, h4, cell_mo hm h5 h2, cell_mo hm h6 h2⟩
theorem flOn {w w' : World} {g : Nat} {c : Cs} {fold all : Bool} (h : Hid (Fl w g c fold all)) (hm : Mo w w' g) : Hid (Fl w' g c fold all) := h.out.mo hm
set_option maxHeartbeats 1000000 in
theorem top41 {g : Nat} {t : List Int} {i : Nat} {c : Cs} {w : World} (R : Hid (RdC w g t i c)) (ob n cap : Nat) (hov : c.ov = .slice (some ⟨ob, 0, none⟩) (n + 1) cap) (hc : n + 1 ≤ cap) (hn : n ≤ 65600) :
    Calls Tryz.prog 41 #[.pointer (some ⟨g, 0, none⟩)] w fun e w' => e = .returned (.pointer (some ⟨ob, n * 6, none⟩)) ∧ Go1 w w' g i := by
  have c2 := Joins.cell_of_block R.out.blk 2
  simp [hov] at c2
  have hn1 : IntKind.i64.wrap ((n : Int) + 1 - 1) = n := by simp [IntKind.wrap, IntKind.bits, IntKind.signed]; omega
  go_enter Tryz.func41, Tryz.ntmps41
  go_wp2_with fail
  go_quiet (fail)
  go_wp2
  go_ret
  exact ⟨rfl, Go1.stay R.out _⟩
theorem valR_below {N : Nat} {X : Rng} {w w' : World} {v : Value} (h : valR N X w v) (hb : Below w.heap.size w w') : valR N X w' v := by
  refine ⟨h.1, ?_⟩
  rcases h.2 with hn | ⟨b, cap, cur, rfl, hbb, hgg, rest⟩
  · exact .inl hn
  · exact .inr ⟨b, cap, cur, rfl, hbb, (hb.block b (Array.getElem?_eq_some_iff.1 hgg).1).trans hgg, rest⟩
theorem valR_mo {N g : Nat} {X : Rng} {w w' : World} {v : Value} (h : valR N X w v) (hm : Mo w w' g) (hg : g < N) : valR N X w' v := by
  refine ⟨h.1, ?_⟩
  rcases h.2 with hn | ⟨b, cap, cur, rfl, hbb, hgg, rest⟩
  · exact .inl hn
  · exact .inr ⟨b, cap, cur, rfl, hbb, (hm.block b (Array.getElem?_eq_some_iff.1 hgg).1 (by omega)).trans hgg, rest⟩
set_option maxHeartbeats 1000000 in
theorem about95_no {g : Nat} {t : List Int} {i : Nat} {c : Cs} {w : World} {wr : Wr} {all : Bool} (R0 : Hid (RW w g t i c wr)) (L : Hid (Fl w g c false all)) (v : Value) :
    Calls Tryz.prog 95 #[.pointer (some ⟨g, 0, none⟩), v] w fun e w' => e = .returned v ∧ Go1 w w' g i := by
  obtain ⟨ob, n, cap, h1, h2, h3, h4, h5, h6⟩ := L.out
  have hle := R0.out.rd.le
  have C1 := top41 (rdC R0) ob n cap h1 h3 h4
  go_enter Tryz.func95, Tryz.ntmps95
  go_wp2_with (go_at_call 41; with_reducible refine C1.mono ?_; rintro e w1 ⟨rfl, G1⟩; have k5 := cell_mo G1.mo h5 h2)
  go_ret
  exact ⟨rfl, G1⟩
set_option maxHeartbeats 1000000 in
theorem about95_yes {g : Nat} {t : List Int} {i : Nat} {c : Cs} {w : World} {wr : Wr} {all : Bool} (R0 : Hid (RW w g t i c wr)) (L : Hid (Fl w g c true all)) (N : Nat) (X : Rng) (v : Value) (hv : Hid (valR N X w v)) (hX : X.length ≤ 5000) (hg : g < N) (hN : N ≤ w.heap.size) :
    Calls Tryz.prog 95 #[.pointer (some ⟨g, 0, none⟩), v] w fun e w' => ∃ v', e = .returned v' ∧ valR N (XF X) w' v' ∧ Mo w w' g ∧ RW w' g t i c wr := by
  obtain ⟨ob, n, cap, h1, h2, h3, h4, h5, h6⟩ := L.out
  have hle := R0.out.rd.le
  have C1 := top41 (rdC R0) ob n cap h1 h3 h4
  obtain ⟨ad, vc, rfl⟩ : ∃ ad vc, v = .slice ad X.length vc := by
    rcases Joins.ownsRow_forms hv.out with ⟨rfl, h⟩ | ⟨b, cap, rfl⟩
    · exact ⟨none, 0, by rw [h]⟩
    · exact ⟨_, _, rfl⟩
  have key : ∀ w1, Mo w w1 g → Calls Tryz.prog 109 #[.slice ad X.length vc] w1 fun e w' => ∃ v' n', e = .returned (.tuple #[v', .int .i64 n']) ∧ valR w1.heap.size (XF X) w' v' ∧ Below w1.heap.size w1 w' := by
    intro w1 h
    have ho := valR_mo hv.out h hg
    refine (fold_got X ad X.length vc w1 rfl (by omega) (row_own rfl ho)).mono fun e w' hG => ?_
    obtain ⟨ad', m', cap', he, ho', hm', hb'⟩ := hG
    subst hm'
    exact ⟨_, _, he, ho', hb'⟩
  go_enter Tryz.func95, Tryz.ntmps95
  go_wp2_with (go_at_call 41; with_reducible refine C1.mono ?_; rintro e w1 ⟨rfl, G1⟩; have k5 := cell_mo G1.mo h5 h2)
  have C2 := key w1 G1.mo
  go_wp2_with (go_at_call 109; with_reducible refine C2.mono ?_; rintro e w2 ⟨v', n', rfl, hv2, B2⟩)
  go_ret
  exact ⟨_, rfl, Joins.ownsRow_le hv2 (Nat.le_trans hN G1.mo.size), G1.mo.trans (Mo.of_below B2), (R0.out.go1 G1 hle).stay B2⟩
/-- a list about case -/
theorem about95 {g : Nat} {t : List Int} {i : Nat} {c : Cs} {w : World} {wr : Wr} {fold all : Bool} (R : Hid (RW w g t i c wr)) (L : Hid (Fl w g c fold all)) (N : Nat) (X : Rng) (v : Value) (hv : Hid (valR N X w v)) (hX : X.length ≤ 5000) (hg : g < N) (hN : N ≤ w.heap.size) :
    Calls Tryz.prog 95 #[.pointer (some ⟨g, 0, none⟩), v] w fun e w' => ∃ v', e = .returned v' ∧ valR N (about fold X) w' v' ∧ Mo w w' g ∧ RW w' g t i c wr := by
  cases fold
  · exact (about95_no R L v).mono fun e w' ⟨h1, h2⟩ => ⟨v, h1, valR_mo hv.out h2.mo hg, h2.mo, R.out.go1 h2 R.out.rd.le⟩
  · exact about95_yes R L N X v hv hX hg hN
end Go.Proofs.YtenanfkmmkmolaaGreatDoor
/- HELPERS: an item of a class. -/
namespace Go.Proofs.YtenanfkmmkmolaaGreatDoor
open Go.RowKit Go.Mx
set_option linter.unusedVariables false
set_option linter.unusedSimpArgs false
theorem norm_pair (lo hi : Int) (w : World) : Calls Tryz.prog 90 #[.slice (some ⟨w.heap.size, 0, none⟩) 1 1] (w.alloc (.cells #[.int .i64 lo, .int .i64 hi] 62)) fun e w' => ∃ v n, e = .returned (.tuple #[v, .int .i64 n]) ∧ valR w.heap.size (XN [(lo, hi)]) w' v ∧ Below w.heap.size w w' := by
  have hr : RowAt (w.alloc (.cells #[.int .i64 lo, .int .i64 hi] 62)).heap.size (w.alloc (.cells #[.int .i64 lo, .int .i64 hi] 62)) (.slice (some ⟨w.heap.size, 0, none⟩) 1 1) [(lo, hi)] := by
    refine ⟨_, _, rfl, .inr ⟨w.heap.size, 0, rfl, by simp, ?_, ?_⟩⟩
    · intro j hj
      obtain rfl : j = 0 := by simp at hj; omega
      simp
    · intro j hj
      obtain rfl : j = 0 := by simp at hj; omega
      simp
  refine (norm_got [(lo, hi)] _ 1 1 _ rfl (by decide) hr).mono fun e w' hG => ?_
  obtain ⟨ad', m', cap', he, ho', hm', hb'⟩ := hG
  subst hm'
  exact ⟨_, _, he, Joins.ownsRow_le ho' (by simp), (Joins.below_alloc1 w _).trans (Joins.below_le hb' (by simp))⟩
theorem XN_len (L : Rng) : (XN L).length ≤ 5000 := outL_len _ _
theorem setN {x : Int} {w : World} (h : setL x = none) : Calls Tryz.prog 93 #[.int .u8 x] w fun e w' => e = .returned (.slice none 0 0) ∧ w' = w := by
  have := setOf93 x w
  rw [h] at this
  exact this
theorem setS {x : Int} {w : World} {L : Rng} (h : setL x = some L) : Calls Tryz.prog 93 #[.int .u8 x] w fun e w' => ∃ b cap, e = .returned (.slice (some ⟨b, 0, none⟩) L.length cap) ∧ valR w.heap.size L w' (.slice (some ⟨b, 0, none⟩) L.length cap) ∧ Below w.heap.size w w' := by
  have := setOf93 x w
  rw [h] at this
  exact this
theorem setL_len {x : Int} {L : Rng} (h : setL x = some L) : L.length ≤ 6 ∧ x ≠ 0 := by
  unfold setL at h
  repeat' split at h
  all_goals first | (simp only [Option.some.injEq] at h; subst h; refine ⟨?_, by omega⟩; first | decide | (rw [XG_d]; decide) | (rw [XG_s]; decide) | (rw [XG_w]; decide)) | (cases h)
theorem escX {g : Nat} {t : List Int} {i : Nat} {c : Cs} {w : World} (R : Hid (RdC w g t i c)) (hx : nx t i = 92) {x : Int} (he : t.getD (i + 1) 0 = x) : Calls Tryz.prog 91 #[.pointer (some ⟨g, 0, none⟩)] w fun e w' => e = .returned (.int .u8 x) ∧ Go1 w w' g i := by
  have := escE R hx
  rw [he] at this
  exact this
set_option maxHeartbeats 1000000 in
theorem item89_a_0 {g : Nat} {t : List Int} {i : Nat} {c : Cs} {w : World} {wr : Wr} (R0 : Hid (RW w g t i c wr)) {fold all : Bool} (L0 : Hid (Fl w g c fold all)) (h : nx t i = 92) {x : Int} (hx : t.getD (i + 1) 0 = x) (hs : setL x = none) {k : Nat} (hz : one t i wr = .error k) : Calls Tryz.prog 89 #[.pointer (some ⟨g, 0, none⟩)] w fun e w' => e = Gave k ∧ Mo w w' g := by
  have hle := R0.out.rd.le
  have hbd := R0.out.rd.bd
  have hgl := R0.out.rd.gl
  go_enter Tryz.func89, Tryz.ntmps89
  have C1 := escX (rdC R0) h hx
  go_wp2_with (go_at_call 91; with_reducible refine C1.mono ?_; rintro e w1 ⟨rfl, G1⟩; have R1 := rwOn R0 G1 (by omega); have y1_1 := Joins.cell_of_block R1.out.rd.blk 1; have u1_1 := Joins.unfrozen_of_block R1.out.rd.blk 1; simp [wrV] at y1_1)
  have C2 := setN (w := w1) (x := x) hs
  go_wp2_with (go_at_call 93; with_reducible refine C2.mono ?_; rintro e w2 ⟨rfl, rfl⟩)
  have C3 := endE (one107 R1) hz
  go_wp2_with (go_at_call 107; with_reducible refine C3.mono ?_; rintro e w3 ⟨rfl, G3⟩)
  exact ⟨rfl, rfl, (G1.mo).trans G3⟩
set_option maxHeartbeats 1000000 in
theorem item89_b_0 {g : Nat} {t : List Int} {i : Nat} {c : Cs} {w : World} {wr : Wr} (R0 : Hid (RW w g t i c wr)) {fold all : Bool} (L0 : Hid (Fl w g c fold all)) (h : nx t i = 92) {x : Int} (hx : t.getD (i + 1) 0 = x) (hs : setL x = none) {lo : Int} {j : Nat} {wr1 : Wr} (hz : one t i wr = .ok ((lo, false), j, wr1)) (h1 : ¬ nx t j = 45) : Calls Tryz.prog 89 #[.pointer (some ⟨g, 0, none⟩)] w fun e w' => ∃ v, e = .returned v ∧ valR w.heap.size [] w' v ∧ Mo w w' g ∧ RW w' g t j c wr1 := by
  have hle := R0.out.rd.le
  have hbd := R0.out.rd.bd
  have hgl := R0.out.rd.gl
  go_enter Tryz.func89, Tryz.ntmps89
  have C1 := escX (rdC R0) h hx
  go_wp2_with (go_at_call 91; with_reducible refine C1.mono ?_; rintro e w1 ⟨rfl, G1⟩; have R1 := rwOn R0 G1 (by omega); have y1_1 := Joins.cell_of_block R1.out.rd.blk 1; have u1_1 := Joins.unfrozen_of_block R1.out.rd.blk 1; simp [wrV] at y1_1)
  have C2 := setN (w := w1) (x := x) hs
  go_wp2_with (go_at_call 93; with_reducible refine C2.mono ?_; rintro e w2 ⟨rfl, rfl⟩)
  have C3 := endOB (one107 R1) hz
  go_wp2_with (go_at_call 107; with_reducible refine C3.mono ?_; rintro e w3 ⟨rfl, M3, RR3⟩; have R3 := hid RR3)
  have hj := R3.out.rd.le
  have C4 := tookN (rdC R3) 45 (by decide) h1
  go_wp2_with (go_at_call 60; with_reducible refine C4.mono ?_; rintro e w4 ⟨rfl, G4⟩; have R4 := rwOn R3 G4 (by omega))
  go_ret
  exact ⟨_, rfl, World.ownsRow_nil _ _ _ _, ((G1.mo).trans M3).trans G4.mo, R4.out⟩
set_option maxHeartbeats 1000000 in
theorem item89_c_0 {g : Nat} {t : List Int} {i : Nat} {c : Cs} {w : World} {wr : Wr} (R0 : Hid (RW w g t i c wr)) {fold all : Bool} (L0 : Hid (Fl w g c fold all)) (h : nx t i = 92) {x : Int} (hx : t.getD (i + 1) 0 = x) (hs : setL x = none) {lo : Int} {j : Nat} {wr1 : Wr} (hz : one t i wr = .ok ((lo, true), j, wr1)) (h1 : ¬ nx t j = 45) : Calls Tryz.prog 89 #[.pointer (some ⟨g, 0, none⟩)] w fun e w' => ∃ v, e = .returned v ∧ valR w.heap.size (about fold (XN [(lo, lo)])) w' v ∧ Mo w w' g ∧ RW w' g t j c wr1 := by
  have hle := R0.out.rd.le
  have hbd := R0.out.rd.bd
  have hgl := R0.out.rd.gl
  go_enter Tryz.func89, Tryz.ntmps89
  have C1 := escX (rdC R0) h hx
  go_wp2_with (go_at_call 91; with_reducible refine C1.mono ?_; rintro e w1 ⟨rfl, G1⟩; have R1 := rwOn R0 G1 (by omega); have y1_1 := Joins.cell_of_block R1.out.rd.blk 1; have u1_1 := Joins.unfrozen_of_block R1.out.rd.blk 1; simp [wrV] at y1_1)
  have C2 := setN (w := w1) (x := x) hs
  go_wp2_with (go_at_call 93; with_reducible refine C2.mono ?_; rintro e w2 ⟨rfl, rfl⟩)
  have C3 := endOB (one107 R1) hz
  go_wp2_with (go_at_call 107; with_reducible refine C3.mono ?_; rintro e w3 ⟨rfl, M3, RR3⟩; have R3 := hid RR3)
  have hj := R3.out.rd.le
  have C4 := tookN (rdC R3) 45 (by decide) h1
  go_wp2_with (go_at_call 60; with_reducible refine C4.mono ?_; rintro e w4 ⟨rfl, G4⟩; have R4 := rwOn R3 G4 (by omega))
  have C5 := norm_pair lo lo w4
  go_wp2_with (go_at_call 90; with_reducible refine C5.mono ?_; rintro e w5 ⟨v5, n5, rfl, V5, B5⟩; have R5 := rwBelow R4 B5)
  have ML : Hid (Mo w w5 g) := (((G1.mo).trans M3).trans G4.mo).trans (Mo.of_below B5)
  have HS : w.heap.size ≤ w4.heap.size := ((((G1.mo).trans M3).trans G4.mo)).size
  have C6 := about95 R5 (flOn L0 ML.out) w.heap.size _ v5 (Joins.ownsRow_le V5 HS) (XN_len _) hgl ML.out.size
  go_wp2_with (go_at_call 95; with_reducible refine C6.mono ?_; rintro e w6 ⟨v6, rfl, V6, M6, RR6⟩)
  go_ret
  exact ⟨_, rfl, V6, ML.out.trans M6, RR6⟩
set_option maxHeartbeats 1000000 in
theorem item89_d_0 {g : Nat} {t : List Int} {i : Nat} {c : Cs} {w : World} {wr : Wr} (R0 : Hid (RW w g t i c wr)) {fold all : Bool} (L0 : Hid (Fl w g c fold all)) (h : nx t i = 92) {x : Int} (hx : t.getD (i + 1) 0 = x) (hs : setL x = none) {lo : Int} {r1 : Bool} {j : Nat} {wr1 : Wr} (hz : one t i wr = .ok ((lo, r1), j, wr1)) (h1 : nx t j = 45) {k : Nat} (hz2 : one t (j + 1) wr1 = .error k) : Calls Tryz.prog 89 #[.pointer (some ⟨g, 0, none⟩)] w fun e w' => e = Gave k ∧ Mo w w' g := by
  have hle := R0.out.rd.le
  have hbd := R0.out.rd.bd
  have hgl := R0.out.rd.gl
  go_enter Tryz.func89, Tryz.ntmps89
  have C1 := escX (rdC R0) h hx
  go_wp2_with (go_at_call 91; with_reducible refine C1.mono ?_; rintro e w1 ⟨rfl, G1⟩; have R1 := rwOn R0 G1 (by omega); have y1_1 := Joins.cell_of_block R1.out.rd.blk 1; have u1_1 := Joins.unfrozen_of_block R1.out.rd.blk 1; simp [wrV] at y1_1)
  have C2 := setN (w := w1) (x := x) hs
  go_wp2_with (go_at_call 93; with_reducible refine C2.mono ?_; rintro e w2 ⟨rfl, rfl⟩)
  have C3 := endOB (one107 R1) hz
  go_wp2_with (go_at_call 107; with_reducible refine C3.mono ?_; rintro e w3 ⟨rfl, M3, RR3⟩; have R3 := hid RR3)
  have hj := R3.out.rd.le
  have hj2 := nx_lt (t := t) (i := j) (by omega)
  have C4 := tookE (rdC R3) 45 (by decide) h1
  go_wp2_with (go_at_call 60; with_reducible refine C4.mono ?_; rintro e w4 ⟨rfl, G4⟩; have R4 := rwOn R3 G4 (by omega))
  have C5 := endE (one107 R4) hz2
  go_wp2_with (go_at_call 107; with_reducible refine C5.mono ?_; rintro e w5 ⟨rfl, G5⟩)
  exact ⟨rfl, rfl, (((G1.mo).trans M3).trans G4.mo).trans G5⟩
set_option maxHeartbeats 1000000 in
theorem item89_e_0 {g : Nat} {t : List Int} {i : Nat} {c : Cs} {w : World} {wr : Wr} (R0 : Hid (RW w g t i c wr)) {fold all : Bool} (L0 : Hid (Fl w g c fold all)) (h : nx t i = 92) {x : Int} (hx : t.getD (i + 1) 0 = x) (hs : setL x = none) {lo : Int} {j : Nat} {wr1 : Wr} (hz : one t i wr = .ok ((lo, false), j, wr1)) (h1 : nx t j = 45) {hi : Int} {r2 : Bool} {k : Nat} {wr2 : Wr} (hz2 : one t (j + 1) wr1 = .ok ((hi, r2), k, wr2)) : Calls Tryz.prog 89 #[.pointer (some ⟨g, 0, none⟩)] w fun e w' => ∃ v, e = .returned v ∧ valR w.heap.size [] w' v ∧ Mo w w' g ∧ RW w' g t k c wr2 := by
  have hle := R0.out.rd.le
  have hbd := R0.out.rd.bd
  have hgl := R0.out.rd.gl
  go_enter Tryz.func89, Tryz.ntmps89
  have C1 := escX (rdC R0) h hx
  go_wp2_with (go_at_call 91; with_reducible refine C1.mono ?_; rintro e w1 ⟨rfl, G1⟩; have R1 := rwOn R0 G1 (by omega); have y1_1 := Joins.cell_of_block R1.out.rd.blk 1; have u1_1 := Joins.unfrozen_of_block R1.out.rd.blk 1; simp [wrV] at y1_1)
  have C2 := setN (w := w1) (x := x) hs
  go_wp2_with (go_at_call 93; with_reducible refine C2.mono ?_; rintro e w2 ⟨rfl, rfl⟩)
  have C3 := endOB (one107 R1) hz
  go_wp2_with (go_at_call 107; with_reducible refine C3.mono ?_; rintro e w3 ⟨rfl, M3, RR3⟩; have R3 := hid RR3)
  have hj := R3.out.rd.le
  have hj2 := nx_lt (t := t) (i := j) (by omega)
  have C4 := tookE (rdC R3) 45 (by decide) h1
  go_wp2_with (go_at_call 60; with_reducible refine C4.mono ?_; rintro e w4 ⟨rfl, G4⟩; have R4 := rwOn R3 G4 (by omega))
  have C5 := endOB (one107 R4) hz2
  go_wp2_with (go_at_call 107; with_reducible refine C5.mono ?_; rintro e w5 ⟨rfl, M5, RR5⟩; have R5 := hid RR5)
  go_ret
  exact ⟨_, rfl, World.ownsRow_nil _ _ _ _, (((G1.mo).trans M3).trans G4.mo).trans M5, R5.out⟩
set_option maxHeartbeats 1000000 in
theorem item89_f_0 {g : Nat} {t : List Int} {i : Nat} {c : Cs} {w : World} {wr : Wr} (R0 : Hid (RW w g t i c wr)) {fold all : Bool} (L0 : Hid (Fl w g c fold all)) (h : nx t i = 92) {x : Int} (hx : t.getD (i + 1) 0 = x) (hs : setL x = none) {lo : Int} {j : Nat} {wr1 : Wr} (hz : one t i wr = .ok ((lo, true), j, wr1)) (h1 : nx t j = 45) {hi : Int} {k : Nat} {wr2 : Wr} (hz2 : one t (j + 1) wr1 = .ok ((hi, false), k, wr2)) : Calls Tryz.prog 89 #[.pointer (some ⟨g, 0, none⟩)] w fun e w' => ∃ v, e = .returned v ∧ valR w.heap.size [] w' v ∧ Mo w w' g ∧ RW w' g t k c wr2 := by
  have hle := R0.out.rd.le
  have hbd := R0.out.rd.bd
  have hgl := R0.out.rd.gl
  go_enter Tryz.func89, Tryz.ntmps89
  have C1 := escX (rdC R0) h hx
  go_wp2_with (go_at_call 91; with_reducible refine C1.mono ?_; rintro e w1 ⟨rfl, G1⟩; have R1 := rwOn R0 G1 (by omega); have y1_1 := Joins.cell_of_block R1.out.rd.blk 1; have u1_1 := Joins.unfrozen_of_block R1.out.rd.blk 1; simp [wrV] at y1_1)
  have C2 := setN (w := w1) (x := x) hs
  go_wp2_with (go_at_call 93; with_reducible refine C2.mono ?_; rintro e w2 ⟨rfl, rfl⟩)
  have C3 := endOB (one107 R1) hz
  go_wp2_with (go_at_call 107; with_reducible refine C3.mono ?_; rintro e w3 ⟨rfl, M3, RR3⟩; have R3 := hid RR3)
  have hj := R3.out.rd.le
  have hj2 := nx_lt (t := t) (i := j) (by omega)
  have C4 := tookE (rdC R3) 45 (by decide) h1
  go_wp2_with (go_at_call 60; with_reducible refine C4.mono ?_; rintro e w4 ⟨rfl, G4⟩; have R4 := rwOn R3 G4 (by omega))
  have C5 := endOB (one107 R4) hz2
  go_wp2_with (go_at_call 107; with_reducible refine C5.mono ?_; rintro e w5 ⟨rfl, M5, RR5⟩; have R5 := hid RR5)
  go_ret
  exact ⟨_, rfl, World.ownsRow_nil _ _ _ _, (((G1.mo).trans M3).trans G4.mo).trans M5, R5.out⟩
set_option maxHeartbeats 1000000 in
theorem item89_g_0 {g : Nat} {t : List Int} {i : Nat} {c : Cs} {w : World} {wr : Wr} (R0 : Hid (RW w g t i c wr)) {fold all : Bool} (L0 : Hid (Fl w g c fold all)) (h : nx t i = 92) {x : Int} (hx : t.getD (i + 1) 0 = x) (hs : setL x = none) {lo : Int} {j : Nat} {wr1 : Wr} (hz : one t i wr = .ok ((lo, true), j, wr1)) (h1 : nx t j = 45) {hi : Int} {k : Nat} {wr2 : Wr} (hz2 : one t (j + 1) wr1 = .ok ((hi, true), k, wr2)) (hl : hi < lo) : Calls Tryz.prog 89 #[.pointer (some ⟨g, 0, none⟩)] w fun e w' => ∃ v, e = .returned v ∧ valR w.heap.size [] w' v ∧ Mo w w' g ∧ RW w' g t k c (note wr2 42 i) := by
  have hle := R0.out.rd.le
  have hbd := R0.out.rd.bd
  have hgl := R0.out.rd.gl
  go_enter Tryz.func89, Tryz.ntmps89
  have C1 := escX (rdC R0) h hx
  go_wp2_with (go_at_call 91; with_reducible refine C1.mono ?_; rintro e w1 ⟨rfl, G1⟩; have R1 := rwOn R0 G1 (by omega); have y1_1 := Joins.cell_of_block R1.out.rd.blk 1; have u1_1 := Joins.unfrozen_of_block R1.out.rd.blk 1; simp [wrV] at y1_1)
  have C2 := setN (w := w1) (x := x) hs
  go_wp2_with (go_at_call 93; with_reducible refine C2.mono ?_; rintro e w2 ⟨rfl, rfl⟩)
  have C3 := endOB (one107 R1) hz
  go_wp2_with (go_at_call 107; with_reducible refine C3.mono ?_; rintro e w3 ⟨rfl, M3, RR3⟩; have R3 := hid RR3)
  have hj := R3.out.rd.le
  have hj2 := nx_lt (t := t) (i := j) (by omega)
  have C4 := tookE (rdC R3) 45 (by decide) h1
  go_wp2_with (go_at_call 60; with_reducible refine C4.mono ?_; rintro e w4 ⟨rfl, G4⟩; have R4 := rwOn R3 G4 (by omega))
  have C5 := endOB (one107 R4) hz2
  go_wp2_with (go_at_call 107; with_reducible refine C5.mono ?_; rintro e w5 ⟨rfl, M5, RR5⟩; have R5 := hid RR5)
  have C6 := note64 R5 42 i
  go_wp2_with (go_at_call 64; with_reducible refine C6.mono ?_; rintro e w6 ⟨rfl, M6, RR6⟩; have R6 := hid RR6)
  go_ret
  exact ⟨_, rfl, World.ownsRow_nil _ _ _ _, ((((G1.mo).trans M3).trans G4.mo).trans M5).trans M6, R6.out⟩
set_option maxHeartbeats 1000000 in
theorem item89_h_0 {g : Nat} {t : List Int} {i : Nat} {c : Cs} {w : World} {wr : Wr} (R0 : Hid (RW w g t i c wr)) {fold all : Bool} (L0 : Hid (Fl w g c fold all)) (h : nx t i = 92) {x : Int} (hx : t.getD (i + 1) 0 = x) (hs : setL x = none) {lo : Int} {j : Nat} {wr1 : Wr} (hz : one t i wr = .ok ((lo, true), j, wr1)) (h1 : nx t j = 45) {hi : Int} {k : Nat} {wr2 : Wr} (hz2 : one t (j + 1) wr1 = .ok ((hi, true), k, wr2)) (hl : ¬ hi < lo) : Calls Tryz.prog 89 #[.pointer (some ⟨g, 0, none⟩)] w fun e w' => ∃ v, e = .returned v ∧ valR w.heap.size (about fold (XN [(lo, hi)])) w' v ∧ Mo w w' g ∧ RW w' g t k c wr2 := by
  have hle := R0.out.rd.le
  have hbd := R0.out.rd.bd
  have hgl := R0.out.rd.gl
  go_enter Tryz.func89, Tryz.ntmps89
  have C1 := escX (rdC R0) h hx
  go_wp2_with (go_at_call 91; with_reducible refine C1.mono ?_; rintro e w1 ⟨rfl, G1⟩; have R1 := rwOn R0 G1 (by omega); have y1_1 := Joins.cell_of_block R1.out.rd.blk 1; have u1_1 := Joins.unfrozen_of_block R1.out.rd.blk 1; simp [wrV] at y1_1)
  have C2 := setN (w := w1) (x := x) hs
  go_wp2_with (go_at_call 93; with_reducible refine C2.mono ?_; rintro e w2 ⟨rfl, rfl⟩)
  have C3 := endOB (one107 R1) hz
  go_wp2_with (go_at_call 107; with_reducible refine C3.mono ?_; rintro e w3 ⟨rfl, M3, RR3⟩; have R3 := hid RR3)
  have hj := R3.out.rd.le
  have hj2 := nx_lt (t := t) (i := j) (by omega)
  have C4 := tookE (rdC R3) 45 (by decide) h1
  go_wp2_with (go_at_call 60; with_reducible refine C4.mono ?_; rintro e w4 ⟨rfl, G4⟩; have R4 := rwOn R3 G4 (by omega))
  have C5 := endOB (one107 R4) hz2
  go_wp2_with (go_at_call 107; with_reducible refine C5.mono ?_; rintro e w5 ⟨rfl, M5, RR5⟩; have R5 := hid RR5)
  have C6 := norm_pair lo hi w5
  go_wp2_with (go_at_call 90; with_reducible refine C6.mono ?_; rintro e w6 ⟨v6, n6, rfl, V6, B6⟩; have R6 := rwBelow R5 B6)
  have ML : Hid (Mo w w6 g) := ((((G1.mo).trans M3).trans G4.mo).trans M5).trans (Mo.of_below B6)
  have HS : w.heap.size ≤ w5.heap.size := (((((G1.mo).trans M3).trans G4.mo).trans M5)).size
  have C7 := about95 R6 (flOn L0 ML.out) w.heap.size _ v6 (Joins.ownsRow_le V6 HS) (XN_len _) hgl ML.out.size
  go_wp2_with (go_at_call 95; with_reducible refine C7.mono ?_; rintro e w7 ⟨v7, rfl, V7, M7, RR7⟩)
  go_ret
  exact ⟨_, rfl, V7, ML.out.trans M7, RR7⟩
set_option maxHeartbeats 1000000 in
theorem item89_a_1 {g : Nat} {t : List Int} {i : Nat} {c : Cs} {w : World} {wr : Wr} (R0 : Hid (RW w g t i c wr)) {fold all : Bool} (L0 : Hid (Fl w g c fold all)) (h : ¬ nx t i = 92) {k : Nat} (hz : one t i wr = .error k) : Calls Tryz.prog 89 #[.pointer (some ⟨g, 0, none⟩)] w fun e w' => e = Gave k ∧ Mo w w' g := by
  have hle := R0.out.rd.le
  have hbd := R0.out.rd.bd
  have hgl := R0.out.rd.gl
  go_enter Tryz.func89, Tryz.ntmps89
  have C1 := escN (rdC R0) h
  go_wp2_with (go_at_call 91; with_reducible refine C1.mono ?_; rintro e w1 ⟨rfl, G1⟩; have R1 := rwOn R0 G1 (by omega); have y1_1 := Joins.cell_of_block R1.out.rd.blk 1; have u1_1 := Joins.unfrozen_of_block R1.out.rd.blk 1; simp [wrV] at y1_1)
  have C2 := setN (w := w1) (x := 0) (by decide)
  go_wp2_with (go_at_call 93; with_reducible refine C2.mono ?_; rintro e w2 ⟨rfl, rfl⟩)
  have C3 := endE (one107 R1) hz
  go_wp2_with (go_at_call 107; with_reducible refine C3.mono ?_; rintro e w3 ⟨rfl, G3⟩)
  exact ⟨rfl, rfl, (G1.mo).trans G3⟩
set_option maxHeartbeats 1000000 in
theorem item89_b_1 {g : Nat} {t : List Int} {i : Nat} {c : Cs} {w : World} {wr : Wr} (R0 : Hid (RW w g t i c wr)) {fold all : Bool} (L0 : Hid (Fl w g c fold all)) (h : ¬ nx t i = 92) {lo : Int} {j : Nat} {wr1 : Wr} (hz : one t i wr = .ok ((lo, false), j, wr1)) (h1 : ¬ nx t j = 45) : Calls Tryz.prog 89 #[.pointer (some ⟨g, 0, none⟩)] w fun e w' => ∃ v, e = .returned v ∧ valR w.heap.size [] w' v ∧ Mo w w' g ∧ RW w' g t j c wr1 := by
  have hle := R0.out.rd.le
  have hbd := R0.out.rd.bd
  have hgl := R0.out.rd.gl
  go_enter Tryz.func89, Tryz.ntmps89
  have C1 := escN (rdC R0) h
  go_wp2_with (go_at_call 91; with_reducible refine C1.mono ?_; rintro e w1 ⟨rfl, G1⟩; have R1 := rwOn R0 G1 (by omega); have y1_1 := Joins.cell_of_block R1.out.rd.blk 1; have u1_1 := Joins.unfrozen_of_block R1.out.rd.blk 1; simp [wrV] at y1_1)
  have C2 := setN (w := w1) (x := 0) (by decide)
  go_wp2_with (go_at_call 93; with_reducible refine C2.mono ?_; rintro e w2 ⟨rfl, rfl⟩)
  have C3 := endOB (one107 R1) hz
  go_wp2_with (go_at_call 107; with_reducible refine C3.mono ?_; rintro e w3 ⟨rfl, M3, RR3⟩; have R3 := hid RR3)
  have hj := R3.out.rd.le
  have C4 := tookN (rdC R3) 45 (by decide) h1
  go_wp2_with (go_at_call 60; with_reducible refine C4.mono ?_; rintro e w4 ⟨rfl, G4⟩; have R4 := rwOn R3 G4 (by omega))
  go_ret
  exact ⟨_, rfl, World.ownsRow_nil _ _ _ _, ((G1.mo).trans M3).trans G4.mo, R4.out⟩
set_option maxHeartbeats 1000000 in
theorem item89_c_1 {g : Nat} {t : List Int} {i : Nat} {c : Cs} {w : World} {wr : Wr} (R0 : Hid (RW w g t i c wr)) {fold all : Bool} (L0 : Hid (Fl w g c fold all)) (h : ¬ nx t i = 92) {lo : Int} {j : Nat} {wr1 : Wr} (hz : one t i wr = .ok ((lo, true), j, wr1)) (h1 : ¬ nx t j = 45) : Calls Tryz.prog 89 #[.pointer (some ⟨g, 0, none⟩)] w fun e w' => ∃ v, e = .returned v ∧ valR w.heap.size (about fold (XN [(lo, lo)])) w' v ∧ Mo w w' g ∧ RW w' g t j c wr1 := by
  have hle := R0.out.rd.le
  have hbd := R0.out.rd.bd
  have hgl := R0.out.rd.gl
  go_enter Tryz.func89, Tryz.ntmps89
  have C1 := escN (rdC R0) h
  go_wp2_with (go_at_call 91; with_reducible refine C1.mono ?_; rintro e w1 ⟨rfl, G1⟩; have R1 := rwOn R0 G1 (by omega); have y1_1 := Joins.cell_of_block R1.out.rd.blk 1; have u1_1 := Joins.unfrozen_of_block R1.out.rd.blk 1; simp [wrV] at y1_1)
  have C2 := setN (w := w1) (x := 0) (by decide)
  go_wp2_with (go_at_call 93; with_reducible refine C2.mono ?_; rintro e w2 ⟨rfl, rfl⟩)
  have C3 := endOB (one107 R1) hz
  go_wp2_with (go_at_call 107; with_reducible refine C3.mono ?_; rintro e w3 ⟨rfl, M3, RR3⟩; have R3 := hid RR3)
  have hj := R3.out.rd.le
  have C4 := tookN (rdC R3) 45 (by decide) h1
  go_wp2_with (go_at_call 60; with_reducible refine C4.mono ?_; rintro e w4 ⟨rfl, G4⟩; have R4 := rwOn R3 G4 (by omega))
  have C5 := norm_pair lo lo w4
  go_wp2_with (go_at_call 90; with_reducible refine C5.mono ?_; rintro e w5 ⟨v5, n5, rfl, V5, B5⟩; have R5 := rwBelow R4 B5)
  have ML : Hid (Mo w w5 g) := (((G1.mo).trans M3).trans G4.mo).trans (Mo.of_below B5)
  have HS : w.heap.size ≤ w4.heap.size := ((((G1.mo).trans M3).trans G4.mo)).size
  have C6 := about95 R5 (flOn L0 ML.out) w.heap.size _ v5 (Joins.ownsRow_le V5 HS) (XN_len _) hgl ML.out.size
  go_wp2_with (go_at_call 95; with_reducible refine C6.mono ?_; rintro e w6 ⟨v6, rfl, V6, M6, RR6⟩)
  go_ret
  exact ⟨_, rfl, V6, ML.out.trans M6, RR6⟩
set_option maxHeartbeats 1000000 in
theorem item89_d_1 {g : Nat} {t : List Int} {i : Nat} {c : Cs} {w : World} {wr : Wr} (R0 : Hid (RW w g t i c wr)) {fold all : Bool} (L0 : Hid (Fl w g c fold all)) (h : ¬ nx t i = 92) {lo : Int} {r1 : Bool} {j : Nat} {wr1 : Wr} (hz : one t i wr = .ok ((lo, r1), j, wr1)) (h1 : nx t j = 45) {k : Nat} (hz2 : one t (j + 1) wr1 = .error k) : Calls Tryz.prog 89 #[.pointer (some ⟨g, 0, none⟩)] w fun e w' => e = Gave k ∧ Mo w w' g := by
  have hle := R0.out.rd.le
  have hbd := R0.out.rd.bd
  have hgl := R0.out.rd.gl
  go_enter Tryz.func89, Tryz.ntmps89
  have C1 := escN (rdC R0) h
  go_wp2_with (go_at_call 91; with_reducible refine C1.mono ?_; rintro e w1 ⟨rfl, G1⟩; have R1 := rwOn R0 G1 (by omega); have y1_1 := Joins.cell_of_block R1.out.rd.blk 1; have u1_1 := Joins.unfrozen_of_block R1.out.rd.blk 1; simp [wrV] at y1_1)
  have C2 := setN (w := w1) (x := 0) (by decide)
  go_wp2_with (go_at_call 93; with_reducible refine C2.mono ?_; rintro e w2 ⟨rfl, rfl⟩)
  have C3 := endOB (one107 R1) hz
  go_wp2_with (go_at_call 107; with_reducible refine C3.mono ?_; rintro e w3 ⟨rfl, M3, RR3⟩; have R3 := hid RR3)
  have hj := R3.out.rd.le
  have hj2 := nx_lt (t := t) (i := j) (by omega)
  have C4 := tookE (rdC R3) 45 (by decide) h1
  go_wp2_with (go_at_call 60; with_reducible refine C4.mono ?_; rintro e w4 ⟨rfl, G4⟩; have R4 := rwOn R3 G4 (by omega))
  have C5 := endE (one107 R4) hz2
  go_wp2_with (go_at_call 107; with_reducible refine C5.mono ?_; rintro e w5 ⟨rfl, G5⟩)
  exact ⟨rfl, rfl, (((G1.mo).trans M3).trans G4.mo).trans G5⟩
set_option maxHeartbeats 1000000 in
theorem item89_e_1 {g : Nat} {t : List Int} {i : Nat} {c : Cs} {w : World} {wr : Wr} (R0 : Hid (RW w g t i c wr)) {fold all : Bool} (L0 : Hid (Fl w g c fold all)) (h : ¬ nx t i = 92) {lo : Int} {j : Nat} {wr1 : Wr} (hz : one t i wr = .ok ((lo, false), j, wr1)) (h1 : nx t j = 45) {hi : Int} {r2 : Bool} {k : Nat} {wr2 : Wr} (hz2 : one t (j + 1) wr1 = .ok ((hi, r2), k, wr2)) : Calls Tryz.prog 89 #[.pointer (some ⟨g, 0, none⟩)] w fun e w' => ∃ v, e = .returned v ∧ valR w.heap.size [] w' v ∧ Mo w w' g ∧ RW w' g t k c wr2 := by
  have hle := R0.out.rd.le
  have hbd := R0.out.rd.bd
  have hgl := R0.out.rd.gl
  go_enter Tryz.func89, Tryz.ntmps89
  have C1 := escN (rdC R0) h
  go_wp2_with (go_at_call 91; with_reducible refine C1.mono ?_; rintro e w1 ⟨rfl, G1⟩; have R1 := rwOn R0 G1 (by omega); have y1_1 := Joins.cell_of_block R1.out.rd.blk 1; have u1_1 := Joins.unfrozen_of_block R1.out.rd.blk 1; simp [wrV] at y1_1)
  have C2 := setN (w := w1) (x := 0) (by decide)
  go_wp2_with (go_at_call 93; with_reducible refine C2.mono ?_; rintro e w2 ⟨rfl, rfl⟩)
  have C3 := endOB (one107 R1) hz
  go_wp2_with (go_at_call 107; with_reducible refine C3.mono ?_; rintro e w3 ⟨rfl, M3, RR3⟩; have R3 := hid RR3)
  have hj := R3.out.rd.le
  have hj2 := nx_lt (t := t) (i := j) (by omega)
  have C4 := tookE (rdC R3) 45 (by decide) h1
  go_wp2_with (go_at_call 60; with_reducible refine C4.mono ?_; rintro e w4 ⟨rfl, G4⟩; have R4 := rwOn R3 G4 (by omega))
  have C5 := endOB (one107 R4) hz2
  go_wp2_with (go_at_call 107; with_reducible refine C5.mono ?_; rintro e w5 ⟨rfl, M5, RR5⟩; have R5 := hid RR5)
  go_ret
  exact ⟨_, rfl, World.ownsRow_nil _ _ _ _, (((G1.mo).trans M3).trans G4.mo).trans M5, R5.out⟩
set_option maxHeartbeats 1000000 in
theorem item89_f_1 {g : Nat} {t : List Int} {i : Nat} {c : Cs} {w : World} {wr : Wr} (R0 : Hid (RW w g t i c wr)) {fold all : Bool} (L0 : Hid (Fl w g c fold all)) (h : ¬ nx t i = 92) {lo : Int} {j : Nat} {wr1 : Wr} (hz : one t i wr = .ok ((lo, true), j, wr1)) (h1 : nx t j = 45) {hi : Int} {k : Nat} {wr2 : Wr} (hz2 : one t (j + 1) wr1 = .ok ((hi, false), k, wr2)) : Calls Tryz.prog 89 #[.pointer (some ⟨g, 0, none⟩)] w fun e w' => ∃ v, e = .returned v ∧ valR w.heap.size [] w' v ∧ Mo w w' g ∧ RW w' g t k c wr2 := by
  have hle := R0.out.rd.le
  have hbd := R0.out.rd.bd
  have hgl := R0.out.rd.gl
  go_enter Tryz.func89, Tryz.ntmps89
  have C1 := escN (rdC R0) h
  go_wp2_with (go_at_call 91; with_reducible refine C1.mono ?_; rintro e w1 ⟨rfl, G1⟩; have R1 := rwOn R0 G1 (by omega); have y1_1 := Joins.cell_of_block R1.out.rd.blk 1; have u1_1 := Joins.unfrozen_of_block R1.out.rd.blk 1; simp [wrV] at y1_1)
  have C2 := setN (w := w1) (x := 0) (by decide)
  go_wp2_with (go_at_call 93; with_reducible refine C2.mono ?_; rintro e w2 ⟨rfl, rfl⟩)
  have C3 := endOB (one107 R1) hz
  go_wp2_with (go_at_call 107; with_reducible refine C3.mono ?_; rintro e w3 ⟨rfl, M3, RR3⟩; have R3 := hid RR3)
  have hj := R3.out.rd.le
  have hj2 := nx_lt (t := t) (i := j) (by omega)
  have C4 := tookE (rdC R3) 45 (by decide) h1
  go_wp2_with (go_at_call 60; with_reducible refine C4.mono ?_; rintro e w4 ⟨rfl, G4⟩; have R4 := rwOn R3 G4 (by omega))
  have C5 := endOB (one107 R4) hz2
  go_wp2_with (go_at_call 107; with_reducible refine C5.mono ?_; rintro e w5 ⟨rfl, M5, RR5⟩; have R5 := hid RR5)
  go_ret
  exact ⟨_, rfl, World.ownsRow_nil _ _ _ _, (((G1.mo).trans M3).trans G4.mo).trans M5, R5.out⟩
set_option maxHeartbeats 1000000 in
theorem item89_g_1 {g : Nat} {t : List Int} {i : Nat} {c : Cs} {w : World} {wr : Wr} (R0 : Hid (RW w g t i c wr)) {fold all : Bool} (L0 : Hid (Fl w g c fold all)) (h : ¬ nx t i = 92) {lo : Int} {j : Nat} {wr1 : Wr} (hz : one t i wr = .ok ((lo, true), j, wr1)) (h1 : nx t j = 45) {hi : Int} {k : Nat} {wr2 : Wr} (hz2 : one t (j + 1) wr1 = .ok ((hi, true), k, wr2)) (hl : hi < lo) : Calls Tryz.prog 89 #[.pointer (some ⟨g, 0, none⟩)] w fun e w' => ∃ v, e = .returned v ∧ valR w.heap.size [] w' v ∧ Mo w w' g ∧ RW w' g t k c (note wr2 42 i) := by
  have hle := R0.out.rd.le
  have hbd := R0.out.rd.bd
  have hgl := R0.out.rd.gl
  go_enter Tryz.func89, Tryz.ntmps89
  have C1 := escN (rdC R0) h
  go_wp2_with (go_at_call 91; with_reducible refine C1.mono ?_; rintro e w1 ⟨rfl, G1⟩; have R1 := rwOn R0 G1 (by omega); have y1_1 := Joins.cell_of_block R1.out.rd.blk 1; have u1_1 := Joins.unfrozen_of_block R1.out.rd.blk 1; simp [wrV] at y1_1)
  have C2 := setN (w := w1) (x := 0) (by decide)
  go_wp2_with (go_at_call 93; with_reducible refine C2.mono ?_; rintro e w2 ⟨rfl, rfl⟩)
  have C3 := endOB (one107 R1) hz
  go_wp2_with (go_at_call 107; with_reducible refine C3.mono ?_; rintro e w3 ⟨rfl, M3, RR3⟩; have R3 := hid RR3)
  have hj := R3.out.rd.le
  have hj2 := nx_lt (t := t) (i := j) (by omega)
  have C4 := tookE (rdC R3) 45 (by decide) h1
  go_wp2_with (go_at_call 60; with_reducible refine C4.mono ?_; rintro e w4 ⟨rfl, G4⟩; have R4 := rwOn R3 G4 (by omega))
  have C5 := endOB (one107 R4) hz2
  go_wp2_with (go_at_call 107; with_reducible refine C5.mono ?_; rintro e w5 ⟨rfl, M5, RR5⟩; have R5 := hid RR5)
  have C6 := note64 R5 42 i
  go_wp2_with (go_at_call 64; with_reducible refine C6.mono ?_; rintro e w6 ⟨rfl, M6, RR6⟩; have R6 := hid RR6)
  go_ret
  exact ⟨_, rfl, World.ownsRow_nil _ _ _ _, ((((G1.mo).trans M3).trans G4.mo).trans M5).trans M6, R6.out⟩
set_option maxHeartbeats 1000000 in
theorem item89_h_1 {g : Nat} {t : List Int} {i : Nat} {c : Cs} {w : World} {wr : Wr} (R0 : Hid (RW w g t i c wr)) {fold all : Bool} (L0 : Hid (Fl w g c fold all)) (h : ¬ nx t i = 92) {lo : Int} {j : Nat} {wr1 : Wr} (hz : one t i wr = .ok ((lo, true), j, wr1)) (h1 : nx t j = 45) {hi : Int} {k : Nat} {wr2 : Wr} (hz2 : one t (j + 1) wr1 = .ok ((hi, true), k, wr2)) (hl : ¬ hi < lo) : Calls Tryz.prog 89 #[.pointer (some ⟨g, 0, none⟩)] w fun e w' => ∃ v, e = .returned v ∧ valR w.heap.size (about fold (XN [(lo, hi)])) w' v ∧ Mo w w' g ∧ RW w' g t k c wr2 := by
  have hle := R0.out.rd.le
  have hbd := R0.out.rd.bd
  have hgl := R0.out.rd.gl
  go_enter Tryz.func89, Tryz.ntmps89
  have C1 := escN (rdC R0) h
  go_wp2_with (go_at_call 91; with_reducible refine C1.mono ?_; rintro e w1 ⟨rfl, G1⟩; have R1 := rwOn R0 G1 (by omega); have y1_1 := Joins.cell_of_block R1.out.rd.blk 1; have u1_1 := Joins.unfrozen_of_block R1.out.rd.blk 1; simp [wrV] at y1_1)
  have C2 := setN (w := w1) (x := 0) (by decide)
  go_wp2_with (go_at_call 93; with_reducible refine C2.mono ?_; rintro e w2 ⟨rfl, rfl⟩)
  have C3 := endOB (one107 R1) hz
  go_wp2_with (go_at_call 107; with_reducible refine C3.mono ?_; rintro e w3 ⟨rfl, M3, RR3⟩; have R3 := hid RR3)
  have hj := R3.out.rd.le
  have hj2 := nx_lt (t := t) (i := j) (by omega)
  have C4 := tookE (rdC R3) 45 (by decide) h1
  go_wp2_with (go_at_call 60; with_reducible refine C4.mono ?_; rintro e w4 ⟨rfl, G4⟩; have R4 := rwOn R3 G4 (by omega))
  have C5 := endOB (one107 R4) hz2
  go_wp2_with (go_at_call 107; with_reducible refine C5.mono ?_; rintro e w5 ⟨rfl, M5, RR5⟩; have R5 := hid RR5)
  have C6 := norm_pair lo hi w5
  go_wp2_with (go_at_call 90; with_reducible refine C6.mono ?_; rintro e w6 ⟨v6, n6, rfl, V6, B6⟩; have R6 := rwBelow R5 B6)
  have ML : Hid (Mo w w6 g) := ((((G1.mo).trans M3).trans G4.mo).trans M5).trans (Mo.of_below B6)
  have HS : w.heap.size ≤ w5.heap.size := (((((G1.mo).trans M3).trans G4.mo).trans M5)).size
  have C7 := about95 R6 (flOn L0 ML.out) w.heap.size _ v6 (Joins.ownsRow_le V6 HS) (XN_len _) hgl ML.out.size
  go_wp2_with (go_at_call 95; with_reducible refine C7.mono ?_; rintro e w7 ⟨v7, rfl, V7, M7, RR7⟩)
  go_ret
  exact ⟨_, rfl, V7, ML.out.trans M7, RR7⟩
set_option maxHeartbeats 1000000 in
theorem item89_s {g : Nat} {t : List Int} {i : Nat} {c : Cs} {w : World} {wr : Wr} (R0 : Hid (RW w g t i c wr)) {fold all : Bool} (L0 : Hid (Fl w g c fold all)) (h : nx t i = 92) {L1 : Rng} {x : Int} (hx : t.getD (i + 1) 0 = x) (hs : setL x = some L1) : Calls Tryz.prog 89 #[.pointer (some ⟨g, 0, none⟩)] w fun e w' => ∃ v, e = .returned v ∧ valR w.heap.size (about fold L1) w' v ∧ Mo w w' g ∧ RW w' g t (i + 2) c wr := by
  have hle := R0.out.rd.le
  have hbd := R0.out.rd.bd
  have hgl := R0.out.rd.gl
  obtain ⟨hl6, hne⟩ := setL_len hs
  have hi2 : i + 2 ≤ t.length := by
    rcases Nat.lt_or_ge (i + 1) t.length with h1 | h1
    · omega
    · exact absurd (by rw [← hx]; simp [List.getD, List.getElem?_eq_none h1]) hne
  go_enter Tryz.func89, Tryz.ntmps89
  have C1 := escX (rdC R0) h hx
  go_wp2_with (go_at_call 91; with_reducible refine C1.mono ?_; rintro e w1 ⟨rfl, G1⟩; have R1 := rwOn R0 G1 (by omega))
  have C2 := setS (w := w1) hs
  go_wp2_with (go_at_call 93; with_reducible refine C2.mono ?_; rintro e w2 ⟨b2, cap2, rfl, V2, B2⟩; have R2 := rwBelow R1 B2; have y2 := Joins.cell_of_block R2.out.rd.blk 1; have u2 := Joins.unfrozen_of_block R2.out.rd.blk 1; simp at y2)
  have G3 : Go1 w2 (w2.setCell ⟨g, 1, none⟩ (.int .i64 ((i : Int) + 2))) g (i + 2) := ⟨0, rfl⟩
  have R3 := rwOn R2 G3 hi2
  have ML : Hid (Mo w (w2.setCell ⟨g, 1, none⟩ (.int .i64 ((i : Int) + 2))) g) := (G1.mo.trans (Mo.of_below B2)).trans G3.mo
  have V3 : Hid (valR w.heap.size L1 (w2.setCell ⟨g, 1, none⟩ (.int .i64 ((i : Int) + 2))) (.slice (some ⟨b2, 0, none⟩) L1.length cap2)) := valR_mo (Joins.ownsRow_le V2 G1.mo.size) G3.mo hgl
  have C4 := about95 R3 (flOn L0 ML.out) w.heap.size _ _ V3 (by omega) hgl ML.out.size
  go_wp2_with (go_at_call 95; with_reducible refine C4.mono ?_; rintro e w4 ⟨v4, rfl, V4, M4, RR4⟩)
  go_ret
  exact ⟨_, rfl, V4, ML.out.trans M4, RR4⟩
end Go.Proofs.YtenanfkmmkmolaaGreatDoor
/- HELPERS: an item of a class, whole; how many ranges it has. -/
namespace Go.Proofs.YtenanfkmmkmolaaGreatDoor
open Go.RowKit Go.Mx
set_option linter.unusedVariables false
set_option linter.unusedSimpArgs false
theorem item89 {g : Nat} {t : List Int} {i : Nat} {c : Cs} {w : World} {wr : Wr} (R0 : Hid (RW w g t i c wr)) {fold all : Bool} (L0 : Hid (Fl w g c fold all)) :
    Calls Tryz.prog 89 #[.pointer (some ⟨g, 0, none⟩)] w fun e w' => EndW e w w' g t c (valR w.heap.size) (item t fold i wr) := by
  unfold item setAt
  by_cases h : nx t i = 92
  · rw [if_pos h]
    cases hs : setL (t.getD (i + 1) 0) with
    | some L1 => exact item89_s R0 L0 h rfl hs
    | none =>
      simp only
      cases hz : one t i wr with
      | error k => exact item89_a_0 R0 L0 h rfl hs hz
      | ok y =>
        obtain ⟨⟨lo, r1⟩, j, wr1⟩ := y
        simp only
        by_cases h1 : nx t j = 45
        · rw [if_pos h1]
          cases hz2 : one t (j + 1) wr1 with
          | error k => exact item89_d_0 R0 L0 h rfl hs hz h1 hz2
          | ok y2 =>
            obtain ⟨⟨hi, r2⟩, k, wr2⟩ := y2
            simp only [itemEnd]
            cases r1
            · exact item89_e_0 R0 L0 h rfl hs hz h1 hz2
            · cases r2
              · exact item89_f_0 R0 L0 h rfl hs hz h1 hz2
              · simp only [Bool.and_self, if_true]
                by_cases hl : hi < lo
                · rw [if_pos hl]; exact item89_g_0 R0 L0 h rfl hs hz h1 hz2 hl
                · rw [if_neg hl]; exact item89_h_0 R0 L0 h rfl hs hz h1 hz2 hl
        · rw [if_neg h1]
          simp only [itemEnd]
          cases r1
          · exact item89_b_0 R0 L0 h rfl hs hz h1
          · rw [if_pos rfl, if_neg (by omega)]; exact item89_c_0 R0 L0 h rfl hs hz h1
  · rw [if_neg h]
    simp only
    cases hz : one t i wr with
    | error k => exact item89_a_1 R0 L0 h hz
    | ok y =>
      obtain ⟨⟨lo, r1⟩, j, wr1⟩ := y
      simp only
      by_cases h1 : nx t j = 45
      · rw [if_pos h1]
        cases hz2 : one t (j + 1) wr1 with
        | error k => exact item89_d_1 R0 L0 h hz h1 hz2
        | ok y2 =>
          obtain ⟨⟨hi, r2⟩, k, wr2⟩ := y2
          simp only [itemEnd]
          cases r1
          · exact item89_e_1 R0 L0 h hz h1 hz2
          · cases r2
            · exact item89_f_1 R0 L0 h hz h1 hz2
            · simp only [Bool.and_self, if_true]
              by_cases hl : hi < lo
              · rw [if_pos hl]; exact item89_g_1 R0 L0 h hz h1 hz2 hl
              · rw [if_neg hl]; exact item89_h_1 R0 L0 h hz h1 hz2 hl
      · rw [if_neg h1]
        simp only [itemEnd]
        cases r1
        · exact item89_b_1 R0 L0 h hz h1
        · rw [if_pos rfl, if_neg (by omega)]; exact item89_c_1 R0 L0 h hz h1
theorem classL_len (L : Rng) (h : L.all okR = true) : (classL L).length ≤ 2 * L.length := by
  have hp : ((allParts L).mergeSort (fun x y => decide (x.1 ≤ y.1))).Perm (allParts L) := List.mergeSort_perm _ _
  have hs : ((allParts L).mergeSort (fun x y => decide (x.1 ≤ y.1))).Pairwise (fun x y => x.1 ≤ y.1) := by
    have := List.pairwise_mergeSort (le := fun x y : Int × Int => decide (x.1 ≤ y.1)) (by intro a b c h1 h2; simp at *; omega) (by intro a b; simp; omega) (allParts L)
    exact this.imp fun h => by simpa using h
  have e := class_gather L _ h hp hs
  have h1 := mergeL_len ((allParts L).mergeSort (fun x y => decide (x.1 ≤ y.1)))
  rw [e, hp.length_eq] at h1
  exact Nat.le_trans h1 (allParts_len L)
theorem allFold_len (L : Rng) : (allFold L).length ≤ 2 * L.length := by
  unfold allFold
  induction L with
  | nil => simp
  | cons a l ih =>
    simp only [List.map_cons, List.flatten_cons, List.length_append, List.length_cons]
    have h1 := moved_len a 65 90 32
    have h2 := moved_len a 97 122 (-32)
    simp only [foldOf, List.length_append]
    omega
theorem XF_len (L : Rng) : (XF L).length ≤ 6 * L.length := by
  unfold XF outL
  cases hr : rightB L
  · simp
  · simp only [if_true]
    split
    · have h1 := classL_len (L ++ allFold L) (by rw [List.all_append, rightB_okR hr, allFold_okR]; rfl)
      have h2 := allFold_len L
      rw [List.length_append] at h1
      omega
    · simp
theorem XN1_len (x : Int × Int) : (XN [x]).length ≤ 2 := by
  unfold XN outL
  cases hr : [x].all okR
  · simp
  · simp only [if_true]
    split
    · exact classL_len [x] hr
    · simp
theorem about_len (fold : Bool) (L : Rng) : (about fold L).length ≤ 6 * L.length := by
  unfold about
  split
  · exact XF_len L
  · omega
theorem hexGo_bd (t : List Int) : ∀ (f i : Nat) (c : Int) (x : Int) (k : Nat), hexGo t f i c = .ok (x, k) → i ≤ k := by
  intro f
  induction f with
  | zero => intro i c x k h; simp [hexGo] at h; omega
  | succ f ih =>
    intro i c x k h
    unfold hexGo at h
    split at h
    · simp at h; omega
    · cases hx : hexDigit t i with
      | error m => rw [hx] at h; cases h
      | ok y =>
        obtain ⟨d, j⟩ := y
        rw [hx] at h
        have := hexDigit_bd hx
        have := ih j _ x k h
        omega
theorem hexNum_bd {t : List Int} {i : Nat} {x : Int} {k : Nat} (h : hexNum t i = .ok (x, k)) : i < k := by
  unfold hexNum at h
  split at h
  · cases hx : hexDigit t (i + 1) with
    | error m => rw [hx] at h; cases h
    | ok y =>
      obtain ⟨d, j⟩ := y
      rw [hx] at h
      have h1 := hexDigit_bd hx
      simp only at h
      cases hy : hexGo t 5 j d with
      | error m => rw [hy] at h; cases h
      | ok z =>
        obtain ⟨c, k2⟩ := z
        rw [hy] at h
        have h2 := hexGo_bd t 5 j d c k2 hy
        simp only at h
        split at h
        · simp at h; omega
        · cases h
  · cases hx : hexDigit t i with
    | error m => rw [hx] at h; cases h
    | ok y =>
      obtain ⟨d, j⟩ := y
      rw [hx] at h
      have h1 := hexDigit_bd hx
      simp only at h
      cases hy : hexDigit t j with
      | error m => rw [hy] at h; cases h
      | ok z =>
        obtain ⟨c, k2⟩ := z
        rw [hy] at h
        have h2 := hexDigit_bd hy
        simp at h
        omega
theorem single_bd {t : List Int} {i : Nat} {x : Int} {k : Nat} (h : single t i = .ok (x, k)) : i < k := by
  unfold single at h
  repeat' split at h
  all_goals first | (have := hexNum_bd h; omega) | (simp at h; omega) | (cases h)
theorem one_bd {t : List Int} {i : Nat} {wr wr2 : Wr} {x : Int × Bool} {k : Nat} (h : one t i wr = .ok (x, k, wr2)) : i < k := by
  unfold one single2 at h
  split at h
  · cases hs : single t i with
    | error m => rw [hs] at h; cases h
    | ok y =>
      obtain ⟨c, j⟩ := y
      rw [hs] at h
      have := single_bd hs
      simp only at h
      split at h <;> simp at h <;> omega
  · cases hs : runeBut t notOne i with
    | error m => rw [hs] at h; cases h
    | ok y =>
      obtain ⟨c, j⟩ := y
      rw [hs] at h
      have := runeBut_bd hs
      simp at h
      omega
theorem itemEnd_len {fold right : Bool} {at_ : Nat} {lo hi : Int} {k k2 : Nat} {wr wr2 : Wr} {L : Rng} (h : itemEnd fold right at_ lo hi k wr = .ok (L, k2, wr2)) : L.length ≤ 12 ∧ k2 = k := by
  unfold itemEnd at h
  split at h
  · split at h
    · simp at h; obtain ⟨rfl, rfl, _⟩ := h; simp
    · simp at h
      obtain ⟨rfl, rfl, _⟩ := h
      have h1 := about_len fold (XN [(lo, hi)])
      have h2 := XN1_len (lo, hi)
      omega
  · simp at h; obtain ⟨rfl, rfl, _⟩ := h; simp
theorem item_bd {t : List Int} {fold : Bool} {i : Nat} {wr wr2 : Wr} {L : Rng} {k : Nat} (h : item t fold i wr = .ok (L, k, wr2)) : i < k ∧ L.length ≤ 18 * (k - i) := by
  unfold item at h
  cases hs : setAt t i with
  | some L1 =>
    rw [hs] at h
    have h6 : L1.length ≤ 6 := by
      unfold setAt at hs
      split at hs
      · exact (setL_len hs).1
      · cases hs
    simp at h
    obtain ⟨rfl, rfl, _⟩ := h
    have := about_len fold L1
    omega
  | none =>
    rw [hs] at h
    simp only at h
    cases hz : one t i wr with
    | error m => rw [hz] at h; cases h
    | ok y =>
      obtain ⟨⟨lo, r1⟩, j, wr1⟩ := y
      rw [hz] at h
      have h1 := one_bd hz
      simp only at h
      split at h
      · cases hz2 : one t (j + 1) wr1 with
        | error m => rw [hz2] at h; cases h
        | ok y2 =>
          obtain ⟨⟨hi, r2⟩, k2, wr3⟩ := y2
          rw [hz2] at h
          have h2 := one_bd hz2
          have h3 := itemEnd_len h
          omega
      · have h3 := itemEnd_len h
        omega
theorem norm_got2 (A : Rng) (ad : Option Addr) (n cap : Nat) (w : World) (hn : A.length = n) (hS : n ≤ 100000000) (hl : RowAt w.heap.size w (.slice ad n cap) A) : Calls Tryz.prog 90 #[.slice ad n cap] w fun e w' => Got w w' e (XN A) (cN A) := by
  refine (norm26 A ad n cap w hn.symm (by omega) hl).mono fun e w' h => ?_
  unfold XN cN
  unfold NormEnd at h
  cases hok : A.all okR
  · rw [hok, if_neg (by simp)] at h
    exact no_got h.1 h.2
  · rw [hok, if_pos rfl] at h
    exact gather_got hok h
end Go.Proofs.YtenanfkmmkmolaaGreatDoor
/- HELPERS: a class is taken. -/
namespace Go.Proofs.YtenanfkmmkmolaaGreatDoor
open Go.RowKit Go.Mx
set_option linter.unusedVariables false
set_option linter.unusedSimpArgs false
/-- the zero node's cells -/
abbrev Z9 : Array Value := #[.int .i64 0, .slice none 0 0, .int .i64 0, .slice none 0 0, .int .i64 0, .int .i64 0, .bool false, .int .i64 0, .string ⟨#[]⟩]
/-- a class node -/
abbrev clsV (rv : Value) : Value := .agg #[.int .i64 2, rv, .int .i64 0, .slice none 0 0, .int .i64 0, .int .i64 0, .bool false, .int .i64 0, .string ⟨#[]⟩]
def valC (N : Nat) (L : Rng) (w : World) (v : Value) : Prop := ∃ rv, v = clsV rv ∧ valR N L w rv
theorem info62 : (Tryz.prog.info? 62).map (fun i => (i.zero, i.size, i.bytes)) = some (some (.agg #[.int .i64 0, .int .i64 0]), 2, 16) := by kernel_rfl
def classTail (neg : Bool) (i : Nat) : Except Nat (Rng × Nat × Wr) → Except Nat (Rng × Nat × Wr)
  | .error k => .error k
  | .ok (L, k, wr2) => .ok ((classEnd neg L).1, k, noteIf (decide (¬ (classEnd neg L).2 = 0)) wr2 3 i)
theorem normS (X : Rng) (ad : Option Addr) (cap : Nat) (w : World) (N : Nat) (hX : X.length ≤ 100000000) (h : valR N X w (.slice ad X.length cap)) : Calls Tryz.prog 90 #[.slice ad X.length cap] w fun e w' => ∃ ad' cap', e = .returned (.tuple #[.slice ad' (XN X).length cap', .int .i64 (cN X)]) ∧ valR w.heap.size (XN X) w' (.slice ad' (XN X).length cap') ∧ Below w.heap.size w w' := by
  refine (norm_got2 X ad X.length cap w rfl hX (row_own rfl h)).mono fun e w' hG => ?_
  obtain ⟨ad', m', cap', he, ho', hm', hb'⟩ := hG
  subst hm'
  exact ⟨_, _, he, ho', hb'⟩
theorem negS (X : Rng) (ad : Option Addr) (cap : Nat) (w : World) (N : Nat) (hX : X.length ≤ 1048576) (h : valR N X w (.slice ad X.length cap)) : Calls Tryz.prog 88 #[.slice ad X.length cap] w fun e w' => ∃ ad' cap', e = .returned (.tuple #[.slice ad' (XG X).length cap', .int .i64 (cG X)]) ∧ valR w.heap.size (XG X) w' (.slice ad' (XG X).length cap') ∧ Below w.heap.size w w' := by
  refine (neg_got X ad X.length cap w rfl hX (row_own rfl h)).mono fun e w' hG => ?_
  obtain ⟨ad', m', cap', he, ho', hm', hb'⟩ := hG
  subst hm'
  exact ⟨_, _, he, ho', hb'⟩
/-- behind an append onto a list that lies above all that was there -/
theorem rw_grown {W w w' : World} {g N : Nat} {t : List Int} {i0 i : Nat} {c : Cs} {wr0 wr : Wr} {v : Value} {X : Rng} (h0 : RW W g t i0 c wr0) (hM : Mo W w g) (h : RW w g t i c wr) (hv : valR N X w v) (hN : W.heap.size ≤ N) (hgr : w.grownBy w' v.ownBlock) : Mo W w' g ∧ RW w' g t i c wr := by
  have hb : ∀ k, k < N → k < w.heap.size → w'.heap[k]? = w.heap[k]? := fun k hk hk2 => hgr.block k hk2 (fun e => by have := (hv.lt k e.symm).1; omega)
  have hgl := h0.rd.gl
  have hM' : Mo W w' g := ⟨hgr.os.trans hM.os, hgr.tape.trans hM.tape, hgr.output.trans hM.output, Nat.le_trans hM.size hgr.size, fun k hk hne => (hb k (by omega) (by have := hM.size; omega)).trans (hM.block k hk hne)⟩
  exact ⟨hM', h0.mo hM' ((hb g (by omega) h.rd.gl).trans h.rd.blk) h.rd.le⟩
theorem two_cells (L : Rng) : ∀ u ∈ fl L, u.oneCell' = true := by
  intro u hu
  simp only [fl, List.mem_flatMap] at hu
  obtain ⟨x, _, hx⟩ := hu
  simp [encR] at hx
  rcases hx with rfl | rfl <;> rfl
theorem row_news {N : Nat} {L : Rng} {w : World} {b cap : Nat} (h : valR N L w (.slice (some ⟨b, 0, none⟩) L.length cap)) : ∀ j u, (fl L)[j]? = some u → w.cell? ((⟨b, 0, none⟩ : Addr).add j) = some u := h.cells (g := b) rfl
/-- the node that comes out -/
theorem cell_end {W : World} {g nb : Nat} {t : List Int} {i0 i : Nat} {c : Cs} {wr0 wr : Wr} (h0 : RW W g t i0 c wr0) (hnb : nb = W.heap.size) {w1 : World} (hM1 : Mo (W.alloc (.cells Z9 26)) w1 g) (h : RW w1 g t i c wr) (cs : Array Value) :
    Mo W (w1.setRow nb cs) g ∧ RW (w1.setRow nb cs) g t i c wr ∧ (w1.setRow nb cs).heap[nb]? = some (.cells cs 26 (0, 0)) := by
  subst hnb
  have hgl := h0.rd.gl
  have hs := hM1.size
  simp at hs
  have hblk : w1.heap[W.heap.size]? = some (.cells Z9 26 (0, 0)) := (hM1.block _ (by simp) (by omega)).trans (heap_alloc_new W _)
  have hM : Mo W (w1.setRow W.heap.size cs) g := ⟨hM1.os, hM1.tape, hM1.output, by simp; omega, fun k hk hne => by rw [setRow_other _ _ _ _ (by omega)]; exact (hM1.block k (by simp; omega) hne).trans (heap_alloc_old W _ hk)⟩
  refine ⟨hM, h0.mo hM ?_ h.rd.le, setRow_heap _ _ _ _ _ _ hblk⟩
  rw [setRow_other _ _ _ _ (by omega)]
  exact h.rd.blk
theorem valR_setRow {N nb : Nat} {L : Rng} {w : World} {rv : Value} {cs : Array Value} (h : valR N L w rv) (hn : nb < N) : valR N L (w.setRow nb cs) rv := by
  refine ⟨h.1, ?_⟩
  rcases h.2 with hn' | ⟨b, cap, cur, rfl, hbb, hgg, rest⟩
  · exact .inl hn'
  · exact .inr ⟨b, cap, cur, rfl, hbb, (setRow_other _ _ _ _ (by omega)).trans hgg, rest⟩
theorem slice_form {N : Nat} {X : Rng} {w : World} {v : Value} (h : valR N X w v) : ∃ ad cap, v = .slice ad X.length cap := by
  rcases Joins.ownsRow_forms h with ⟨rfl, hn⟩ | ⟨b, cap, rfl⟩
  · exact ⟨none, 0, by rw [hn]⟩
  · exact ⟨_, _, rfl⟩
theorem endO {α : Type} {f : Nat} {args : Array Value} {w : World} {g : Nat} {t : List Int} {c : Cs} {val : α → World → Value → Prop} {r : Except Nat (α × Nat × Wr)} {a : α} {k : Nat} {wr : Wr} (h : Calls Tryz.prog f args w fun e w' => EndW e w w' g t c val r) (hr : r = .ok (a, k, wr)) :
    Calls Tryz.prog f args w fun e w' => ∃ v, e = .returned v ∧ val a w' v ∧ Mo w w' g ∧ RW w' g t k c wr := by
  subst hr
  exact h
theorem one_node {ad : Option Addr} {n cap : Nat} (_ : Unit) : (#[Value.int .i64 2, .slice ad n cap, .int .i64 0, .slice none 0 0, .int .i64 0, .int .i64 0, .bool false, .int .i64 0, .string ⟨#[]⟩] : Array Value).all (·.oneCell') = true := by
  simp [Value.oneCell']
theorem res_block {W w1 : World} {g nb : Nat} {t : List Int} {i0 : Nat} {c : Cs} {wr0 : Wr} (h0 : RW W g t i0 c wr0) (hnb : nb = W.heap.size) (hM1 : Mo (W.alloc (.cells Z9 26)) w1 g) : w1.heap[nb]? = some (.cells Z9 26 (0, 0)) := by
  subst hnb
  have hgl := h0.rd.gl
  exact (hM1.block _ (by simp) (by omega)).trans (heap_alloc_new W _)
set_option maxHeartbeats 1000000 in
theorem class67_a0 {g : Nat} {t : List Int} {i : Nat} {c : Cs} {w : World} {wr : Wr} (R0 : Hid (RW w g t i c wr)) {fold all : Bool} (L0 : Hid (Fl w g c fold all)) (h : nx t i = 91) (h1 : ¬ nx t (i + 1) = 94) {k : Nat} (hz : item t fold (i + 1) wr = .error k) : Calls Tryz.prog 67 #[.pointer (some ⟨g, 0, none⟩)] w fun e w' => e = Gave k ∧ Mo w w' g := by
  have hle := R0.out.rd.le
  have hbd := R0.out.rd.bd
  have hgl := R0.out.rd.gl
  have hi0 := nx_lt (t := t) (i := i) (by omega)
  have RW1 : Hid (RW (w.alloc (.cells Z9 26)) g t i c wr) := rwBelow R0 (Joins.below_alloc1 w _)
  have LW1 : Hid (Fl (w.alloc (.cells Z9 26)) g c fold all) := flOn L0 (Mo.alloc w g _)
  have c1 := Joins.cell_of_block RW1.out.rd.blk 1
  simp at c1
  have C1 := mustE (rdC RW1) 91 (by decide) h
  go_enter Tryz.func67, Tryz.ntmps67
  go_wp2_with (go_at_call 63; with_reducible refine C1.mono ?_; rintro e w2 ⟨rfl, G2⟩; have R2 := rwOn RW1 G2 (by omega))
  have C2 := tookN (rdC R2) 94 (by decide) h1
  go_wp2_with (go_at_call 60; with_reducible refine C2.mono ?_; rintro e w3 ⟨rfl, G3⟩; have R3 := rwOn R2 G3 (by omega))
  have M3 : Hid (Mo (w.alloc (.cells Z9 26)) w3 g) := G2.mo.trans G3.mo
  have C3 := endE (item89 R3 (flOn LW1 M3.out)) hz
  go_wp2_with (go_at_call 89; with_reducible refine C3.mono ?_; rintro e w4 ⟨rfl, M4⟩)
  exact ⟨rfl, rfl, (Mo.alloc w g _).trans (M3.out.trans M4)⟩
set_option maxHeartbeats 4000000 in
theorem class67_b0 {g : Nat} {t : List Int} {i : Nat} {c : Cs} {w : World} {wr : Wr} (R0 : Hid (RW w g t i c wr)) {fold all : Bool} (L0 : Hid (Fl w g c fold all)) (h : nx t i = 91) (h1 : ¬ nx t (i + 1) = 94) {L1 : Rng} {k1 : Nat} {wr1 : Wr} (hz : item t fold (i + 1) wr = .ok (L1, k1, wr1)) : Calls Tryz.prog 67 #[.pointer (some ⟨g, 0, none⟩)] w fun e w' => EndW e w w' g t c (valC w.heap.size) (classTail false i (items t fold (t.length + 1) L1 k1 wr1)) := by
  have hle := R0.out.rd.le
  have hbd := R0.out.rd.bd
  have hgl := R0.out.rd.gl
  have hi0 := nx_lt (t := t) (i := i) (by omega)
  obtain ⟨b1, b2⟩ := item_bd hz
  generalize hzz : items t fold (t.length + 1) L1 k1 wr1 = z
  have RW1 : Hid (RW (w.alloc (.cells Z9 26)) g t i c wr) := rwBelow R0 (Joins.below_alloc1 w _)
  have LW1 : Hid (Fl (w.alloc (.cells Z9 26)) g c fold all) := flOn L0 (Mo.alloc w g _)
  have c1 := Joins.cell_of_block RW1.out.rd.blk 1
  simp at c1
  have C1 := mustE (rdC RW1) 91 (by decide) h
  go_enter Tryz.func67, Tryz.ntmps67
  go_wp2_with (go_at_call 63; with_reducible refine C1.mono ?_; rintro e w2 ⟨rfl, G2⟩; have R2 := rwOn RW1 G2 (by omega))
  have C2 := tookN (rdC R2) 94 (by decide) h1
  go_wp2_with (go_at_call 60; with_reducible refine C2.mono ?_; rintro e w3 ⟨rfl, G3⟩; have R3 := rwOn R2 G3 (by omega))
  have M3 : Hid (Mo (w.alloc (.cells Z9 26)) w3 g) := G2.mo.trans G3.mo
  have C3 := endO (item89 R3 (flOn LW1 M3.out)) hz
  refine C3.mono ?_
  rintro e w4 ⟨v4, rfl, V4, M4, RR4⟩
  have V4' : Hid (valR (w.alloc (.cells Z9 26)).heap.size L1 w4 v4) := Joins.ownsRow_le V4 M3.out.size
  have M4' : Hid (Mo (w.alloc (.cells Z9 26)) w4 g) := M3.out.trans M4
  have R4 : Hid (RW w4 g t k1 c wr1) := RR4
  have hk1 := RR4.rd.le
  clear V4 M4 RR4
  obtain ⟨ad4, cap4, rfl⟩ := slice_form V4'.out
  go_wp2
  go_loopw [5] (fun v wl => ∃ (k : Nat) (wrk : Wr) (X : Rng) (f : Nat) (ad : Option Addr) (cap : Nat), v = .slice ad X.length cap ∧ i < k ∧ k ≤ t.length ∧ X.length ≤ 18 * (k - i) ∧ t.length + 1 - k ≤ f ∧ Hid (RW wl g t k c wrk) ∧ Hid (Mo (w.alloc (.cells Z9 26)) wl g) ∧ Hid (valR (w.alloc (.cells Z9 26)).heap.size X wl (.slice ad X.length cap)) ∧ Hid (items t fold f X k wrk = z))
    (fun _ wl => t.length + 1 - (match wl.cell? ⟨g, 1, none⟩ with | some (.int _ x) => x.toNat | _ => 0))
  case atStart => exact ⟨k1, wr1, L1, t.length + 1, ad4, cap4, rfl, by omega, hk1, by omega, by omega, R4, M4', V4', hzz⟩
  case round =>
    obtain ⟨k, wrk, X, f, ad, cap, rfl, hik, hk, hX, hf, RK, MK, VK, HZ⟩ := hrel
    clear hzz R4 M4' V4' c1
    obtain ⟨f, rfl⟩ : ∃ f', f = f' + 1 := ⟨f - 1, by omega⟩
    have hz' := HZ.out
    clear HZ
    rw [items] at hz'
    have cK := Joins.cell_of_block RK.out.rd.blk 1
    simp at cK
    by_cases hcl : nx t k = 93
    · have hkl := nx_lt (t := t) (i := k) (by omega)
      rw [if_pos hcl] at hz'
      subst hz'
      have C5 := tookE (rdC RK) 93 (by decide) hcl
      go_wp2_with (go_at_call 60; with_reducible refine C5.mono ?_; rintro e w5 ⟨rfl, G5⟩; have R5 := rwOn RK G5 (by omega))
      have V5 := valR_mo VK.out G5.mo (by simp; omega)
      have C6 := normS X ad cap w5 _ (by omega) V5
      clear V5
      by_cases hc : cN X = 0
      · have HT : classTail false i (.ok (X, k + 1, wrk)) = .ok (XN X, k + 1, wrk) := by simp [classTail, classEnd, noteIf, hc]
        rw [hc] at C6
        go_wp2_with (first | (go_at_call 90; with_reducible refine C6.mono ?_; rintro e w6 ⟨ad6, cap6, rfl, V6, B6⟩; have R6 := rwBelow R5 B6; have M6 : Mo (w.alloc (.cells Z9 26)) w6 g := (MK.out.trans G5.mo).trans (Mo.of_below B6); have V6' : valR (w.heap.size + 1) (XN X) w6 (.slice ad6 (XN X).length cap6) := Joins.ownsRow_le V6 (by have := (MK.out.trans G5.mo).size; simpa using this); obtain ⟨K1, K2, K3⟩ := cell_end R0.out rfl M6 R6.out #[.int .i64 2, .slice ad6 (XN X).length cap6, .int .i64 0, .slice none 0 0, .int .i64 0, .int .i64 0, .bool false, .int .i64 0, .string ⟨#[]⟩]; have hblk := res_block R0.out rfl M6) | (refine wpList_store_row rfl 26 (.tmp 2) (.tmp 46) rfl w.heap.size #[.int .i64 2, .slice ad6 (XN X).length cap6, .int .i64 0, .slice none 0 0, .int .i64 0, .int .i64 0, .bool false, .int .i64 0, .string ⟨#[]⟩] rfl rfl 26 Z9 hblk (by kernel_rfl) rfl (one_node ()) ?_))
        refine bodyPost_ret (results_cell_row rfl _ _ w.heap.size 26 _ (0, 0) _ rfl K3 Tryz.underlying26 rfl (by kernel_rfl)) rfl ?_
        rw [HT]
        exact ⟨_, rfl, ⟨_, rfl, Joins.ownsRow_le (valR_setRow (V6') (Nat.lt_succ_self _)) (Nat.le_succ _)⟩, K1, K2⟩
      · have HT : classTail false i (.ok (X, k + 1, wrk)) = .ok (XN X, k + 1, note wrk 3 i) := by simp [classTail, classEnd, noteIf, hc]
        have hc1 : (cN X == 0) = false := by simpa using hc
        have hc2 : (cN X != 0) = true := by simpa using hc
        generalize cN X = cn at *
        go_wp2_with (go_at_call 90; with_reducible refine C6.mono ?_; rintro e w6 ⟨ad6, cap6, rfl, V6, B6⟩)
        have R6 := rwBelow R5 B6
        have M6 : Mo (w.alloc (.cells Z9 26)) w6 g := (MK.out.trans G5.mo).trans (Mo.of_below B6)
        have V6' : valR (w.heap.size + 1) (XN X) w6 (.slice ad6 (XN X).length cap6) := Joins.ownsRow_le V6 (by have := (MK.out.trans G5.mo).size; simpa using this)
        have C7 := note64 R6 3 i
        go_wp2_with (first | (go_at_call 64; with_reducible refine C7.mono ?_; rintro e w7 ⟨rfl, M7, R7⟩; have V7 := valR_mo V6' M7 (by omega); have M7' := M6.trans M7; obtain ⟨K1, K2, K3⟩ := cell_end R0.out rfl M7' R7 #[.int .i64 2, .slice ad6 (XN X).length cap6, .int .i64 0, .slice none 0 0, .int .i64 0, .int .i64 0, .bool false, .int .i64 0, .string ⟨#[]⟩]; have hblk := res_block R0.out rfl M7') | (refine wpList_store_row rfl 26 (.tmp 2) (.tmp 46) rfl w.heap.size #[.int .i64 2, .slice ad6 (XN X).length cap6, .int .i64 0, .slice none 0 0, .int .i64 0, .int .i64 0, .bool false, .int .i64 0, .string ⟨#[]⟩] rfl rfl 26 Z9 hblk (by kernel_rfl) rfl (one_node ()) ?_))
        refine bodyPost_ret (results_cell_row rfl _ _ w.heap.size 26 _ (0, 0) _ rfl K3 Tryz.underlying26 rfl (by kernel_rfl)) rfl ?_
        rw [HT]
        exact ⟨_, rfl, ⟨_, rfl, Joins.ownsRow_le (valR_setRow (V7) (Nat.lt_succ_self _)) (Nat.le_succ _)⟩, K1, K2⟩
    · rw [if_neg hcl] at hz'
      have C5 := tookN (rdC RK) 93 (by decide) hcl
      go_wp2_with (go_at_call 60; with_reducible refine C5.mono ?_; rintro e w5 ⟨rfl, G5⟩; have R5 := rwOn RK G5 hk)
      have M5 : Hid (Mo (w.alloc (.cells Z9 26)) w5 g) := MK.out.trans G5.mo
      have V5 := valR_mo VK.out G5.mo (by simp; omega)
      cases hi : item t fold k wrk with
      | error j =>
        rw [hi] at hz'
        subst hz'
        have C6 := endE (item89 R5 (flOn LW1 M5.out)) hi
        go_wp2_with (go_at_call 89; with_reducible refine C6.mono ?_; rintro e w6 ⟨rfl, M6⟩)
        exact ⟨rfl, rfl, (Mo.alloc w g _).trans (M5.out.trans M6)⟩
      | ok y =>
        obtain ⟨L2, j, wr2⟩ := y
        rw [hi] at hz'
        obtain ⟨p1, p2⟩ := item_bd hi
        have HZ2 : Hid (items t fold f (X ++ L2) j wr2 = z) := hz'
        clear hz'
        have C6 := endO (item89 R5 (flOn LW1 M5.out)) hi
        refine C6.mono ?_
        rintro e w6 ⟨v6, rfl, V6, M6, RR6⟩
        have hj := RR6.rd.le
        have V6' : Hid (valR (w.alloc (.cells Z9 26)).heap.size X w6 (.slice ad X.length cap)) := valR_mo V5 M6 (by simp; omega)
        have M6' : Hid (Mo (w.alloc (.cells Z9 26)) w6 g) := M5.out.trans M6
        have R6 : Hid (RW w6 g t j c wr2) := RR6
        clear V5 M6 RR6
        obtain ⟨i0, hi0', hz0, hz1, hz2⟩ := info_parts info62
        rcases Joins.ownsRow_forms V6 with ⟨rfl, hn⟩ | ⟨b6, cap6, rfl⟩
        · obtain rfl := List.eq_nil_of_length_eq_zero hn
          clear V6
          have d6 := Joins.cell_of_block R6.out.rd.blk 1
          simp at d6
          have HZ3 : Hid (items t fold f X j wr2 = z) := by have := HZ2.out; rw [List.append_nil] at this; exact this
          go_wp2_with (at_builtin; refine wpList_append_own_none rfl (.tmp 21) (.tmp 23) 23 rfl (w.alloc (.cells Z9 26)).heap.size 62 i0 2 Tryz.underlying23 hi0' (.slice ad X.length cap) X.length (fl X) rfl V6'.out rfl ?_)
          go_wp2
          go_roundw
          case rel => exact ⟨j, wr2, X, f, ad, cap, rfl, by omega, hj, by omega, by omega, R6, M6', V6', HZ3⟩
          case measure => rw [cK, d6]; simp; omega
        · have HN6 : Hid (∀ q u, (fl L2)[q]? = some u → w6.cell? ((⟨b6, 0, none⟩ : Addr).add q) = some u) := row_news V6
          clear V6
          go_wp2_with (at_builtin; refine wpList_append_own _ rfl (.tmp 21) (.tmp 23) 23 rfl (w.alloc (.cells Z9 26)).heap.size 62 i0 (.agg #[.int .i64 0, .int .i64 0]) 2 16 Tryz.underlying23 hi0' hz0 hz1 hz2 rfl (by decide) (.slice ad X.length cap) X.length (fl X) rfl V6'.out ⟨b6, 0, none⟩ L2.length cap6 (fl L2) rfl (fl_len L2) HN6.out (two_cells L2) (by unfold maxLen; omega) (by omega) M6'.out.size ?_; intro v7 w7 ho7 hg7 hx7)
          obtain ⟨M7, R7⟩ := rw_grown RW1.out M6'.out R6.out V6'.out (Nat.le_refl _) hg7
          have V7 : valR (w.alloc (.cells Z9 26)).heap.size (X ++ L2) w7 v7 := by
            show w7.ownsRow _ _ _ _ _ _
            rw [List.length_append, fl_append]
            exact ho7
          obtain ⟨ad7, cap7, rfl⟩ := slice_form V7
          have d6 := Joins.cell_of_block R7.rd.blk 1
          simp at d6
          go_wp2
          go_roundw
          case rel => exact ⟨j, wr2, X ++ L2, f, ad7, cap7, rfl, by omega, hj, by rw [List.length_append]; omega, by omega, R7, M7, V7, HZ2⟩
          case measure => rw [cK, d6]; simp; omega
set_option maxHeartbeats 1000000 in
theorem class67_a1 {g : Nat} {t : List Int} {i : Nat} {c : Cs} {w : World} {wr : Wr} (R0 : Hid (RW w g t i c wr)) {fold all : Bool} (L0 : Hid (Fl w g c fold all)) (h : nx t i = 91) (h1 : nx t (i + 1) = 94) {k : Nat} (hz : item t fold (i + 1 + 1) wr = .error k) : Calls Tryz.prog 67 #[.pointer (some ⟨g, 0, none⟩)] w fun e w' => e = Gave k ∧ Mo w w' g := by
  have hle := R0.out.rd.le
  have hbd := R0.out.rd.bd
  have hgl := R0.out.rd.gl
  have hi0 := nx_lt (t := t) (i := i) (by omega)
  have hi1 := nx_lt (t := t) (i := i + 1) (by omega)
  have RW1 : Hid (RW (w.alloc (.cells Z9 26)) g t i c wr) := rwBelow R0 (Joins.below_alloc1 w _)
  have LW1 : Hid (Fl (w.alloc (.cells Z9 26)) g c fold all) := flOn L0 (Mo.alloc w g _)
  have c1 := Joins.cell_of_block RW1.out.rd.blk 1
  simp at c1
  have C1 := mustE (rdC RW1) 91 (by decide) h
  go_enter Tryz.func67, Tryz.ntmps67
  go_wp2_with (go_at_call 63; with_reducible refine C1.mono ?_; rintro e w2 ⟨rfl, G2⟩; have R2 := rwOn RW1 G2 (by omega))
  have C2 := tookE (rdC R2) 94 (by decide) h1
  go_wp2_with (go_at_call 60; with_reducible refine C2.mono ?_; rintro e w3 ⟨rfl, G3⟩; have R3 := rwOn R2 G3 (by omega))
  have M3 : Hid (Mo (w.alloc (.cells Z9 26)) w3 g) := G2.mo.trans G3.mo
  have C3 := endE (item89 R3 (flOn LW1 M3.out)) hz
  go_wp2_with (go_at_call 89; with_reducible refine C3.mono ?_; rintro e w4 ⟨rfl, M4⟩)
  exact ⟨rfl, rfl, (Mo.alloc w g _).trans (M3.out.trans M4)⟩
set_option maxHeartbeats 4000000 in
theorem class67_b1 {g : Nat} {t : List Int} {i : Nat} {c : Cs} {w : World} {wr : Wr} (R0 : Hid (RW w g t i c wr)) {fold all : Bool} (L0 : Hid (Fl w g c fold all)) (h : nx t i = 91) (h1 : nx t (i + 1) = 94) {L1 : Rng} {k1 : Nat} {wr1 : Wr} (hz : item t fold (i + 1 + 1) wr = .ok (L1, k1, wr1)) : Calls Tryz.prog 67 #[.pointer (some ⟨g, 0, none⟩)] w fun e w' => EndW e w w' g t c (valC w.heap.size) (classTail true i (items t fold (t.length + 1) L1 k1 wr1)) := by
  have hle := R0.out.rd.le
  have hbd := R0.out.rd.bd
  have hgl := R0.out.rd.gl
  have hi0 := nx_lt (t := t) (i := i) (by omega)
  have hi1 := nx_lt (t := t) (i := i + 1) (by omega)
  obtain ⟨b1, b2⟩ := item_bd hz
  generalize hzz : items t fold (t.length + 1) L1 k1 wr1 = z
  have RW1 : Hid (RW (w.alloc (.cells Z9 26)) g t i c wr) := rwBelow R0 (Joins.below_alloc1 w _)
  have LW1 : Hid (Fl (w.alloc (.cells Z9 26)) g c fold all) := flOn L0 (Mo.alloc w g _)
  have c1 := Joins.cell_of_block RW1.out.rd.blk 1
  simp at c1
  have C1 := mustE (rdC RW1) 91 (by decide) h
  go_enter Tryz.func67, Tryz.ntmps67
  go_wp2_with (go_at_call 63; with_reducible refine C1.mono ?_; rintro e w2 ⟨rfl, G2⟩; have R2 := rwOn RW1 G2 (by omega))
  have C2 := tookE (rdC R2) 94 (by decide) h1
  go_wp2_with (go_at_call 60; with_reducible refine C2.mono ?_; rintro e w3 ⟨rfl, G3⟩; have R3 := rwOn R2 G3 (by omega))
  have M3 : Hid (Mo (w.alloc (.cells Z9 26)) w3 g) := G2.mo.trans G3.mo
  have C3 := endO (item89 R3 (flOn LW1 M3.out)) hz
  refine C3.mono ?_
  rintro e w4 ⟨v4, rfl, V4, M4, RR4⟩
  have V4' : Hid (valR (w.alloc (.cells Z9 26)).heap.size L1 w4 v4) := Joins.ownsRow_le V4 M3.out.size
  have M4' : Hid (Mo (w.alloc (.cells Z9 26)) w4 g) := M3.out.trans M4
  have R4 : Hid (RW w4 g t k1 c wr1) := RR4
  have hk1 := RR4.rd.le
  clear V4 M4 RR4
  obtain ⟨ad4, cap4, rfl⟩ := slice_form V4'.out
  go_wp2
  go_loopw [5] (fun v wl => ∃ (k : Nat) (wrk : Wr) (X : Rng) (f : Nat) (ad : Option Addr) (cap : Nat), v = .slice ad X.length cap ∧ i < k ∧ k ≤ t.length ∧ X.length ≤ 18 * (k - i) ∧ t.length + 1 - k ≤ f ∧ Hid (RW wl g t k c wrk) ∧ Hid (Mo (w.alloc (.cells Z9 26)) wl g) ∧ Hid (valR (w.alloc (.cells Z9 26)).heap.size X wl (.slice ad X.length cap)) ∧ Hid (items t fold f X k wrk = z))
    (fun _ wl => t.length + 1 - (match wl.cell? ⟨g, 1, none⟩ with | some (.int _ x) => x.toNat | _ => 0))
  case atStart => exact ⟨k1, wr1, L1, t.length + 1, ad4, cap4, rfl, by omega, hk1, by omega, by omega, R4, M4', V4', hzz⟩
  case round =>
    obtain ⟨k, wrk, X, f, ad, cap, rfl, hik, hk, hX, hf, RK, MK, VK, HZ⟩ := hrel
    clear hzz R4 M4' V4' c1
    obtain ⟨f, rfl⟩ : ∃ f', f = f' + 1 := ⟨f - 1, by omega⟩
    have hz' := HZ.out
    clear HZ
    rw [items] at hz'
    have cK := Joins.cell_of_block RK.out.rd.blk 1
    simp at cK
    by_cases hcl : nx t k = 93
    · have hkl := nx_lt (t := t) (i := k) (by omega)
      rw [if_pos hcl] at hz'
      subst hz'
      have C5 := tookE (rdC RK) 93 (by decide) hcl
      go_wp2_with (go_at_call 60; with_reducible refine C5.mono ?_; rintro e w5 ⟨rfl, G5⟩; have R5 := rwOn RK G5 (by omega))
      have V5 := valR_mo VK.out G5.mo (by simp; omega)
      have C6 := normS X ad cap w5 _ (by omega) V5
      clear V5
      by_cases hc : cN X = 0
      · rw [hc] at C6
        go_wp2_with (go_at_call 90; with_reducible refine C6.mono ?_; rintro e w6 ⟨ad6, cap6, rfl, V6, B6⟩)
        have R6 := rwBelow R5 B6
        have M6 : Mo (w.alloc (.cells Z9 26)) w6 g := (MK.out.trans G5.mo).trans (Mo.of_below B6)
        have V6' : valR (w.heap.size + 1) (XN X) w6 (.slice ad6 (XN X).length cap6) := Joins.ownsRow_le V6 (by have := (MK.out.trans G5.mo).size; simpa using this)
        have C7 := negS (XN X) ad6 cap6 w6 _ (by have := XN_len X; omega) V6'
        by_cases hd : cG (XN X) = 0
        · have HT : classTail true i (.ok (X, k + 1, wrk)) = .ok (XG (XN X), k + 1, wrk) := by simp [classTail, classEnd, noteIf, hc, hd]
          rw [hd] at C7
          go_wp2_with (first | (go_at_call 88; with_reducible refine C7.mono ?_; rintro e w7 ⟨ad7, cap7, rfl, V7, B7⟩; have R7 := rwBelow R6 B7; have M7 := M6.trans (Mo.of_below B7); have V7' : valR (w.heap.size + 1) (XG (XN X)) w7 (.slice ad7 (XG (XN X)).length cap7) := Joins.ownsRow_le V7 (by have := M6.size; simpa using this); obtain ⟨K1, K2, K3⟩ := cell_end R0.out rfl M7 R7.out #[.int .i64 2, .slice ad7 (XG (XN X)).length cap7, .int .i64 0, .slice none 0 0, .int .i64 0, .int .i64 0, .bool false, .int .i64 0, .string ⟨#[]⟩]; have hblk := res_block R0.out rfl M7) | (refine wpList_store_row rfl 26 (.tmp 2) (.tmp 46) rfl w.heap.size #[.int .i64 2, .slice ad7 (XG (XN X)).length cap7, .int .i64 0, .slice none 0 0, .int .i64 0, .int .i64 0, .bool false, .int .i64 0, .string ⟨#[]⟩] rfl rfl 26 Z9 hblk (by kernel_rfl) rfl (one_node ()) ?_))
          refine bodyPost_ret (results_cell_row rfl _ _ w.heap.size 26 _ (0, 0) _ rfl K3 Tryz.underlying26 rfl (by kernel_rfl)) rfl ?_
          rw [HT]
          exact ⟨_, rfl, ⟨_, rfl, Joins.ownsRow_le (valR_setRow (V7') (Nat.lt_succ_self _)) (Nat.le_succ _)⟩, K1, K2⟩
        · have HT : classTail true i (.ok (X, k + 1, wrk)) = .ok (XG (XN X), k + 1, note wrk 3 i) := by simp [classTail, classEnd, noteIf, hc, hd]
          have hd1 : (cG (XN X) != 0) = true := by simpa using hd
          generalize cG (XN X) = cg at *
          go_wp2_with (go_at_call 88; with_reducible refine C7.mono ?_; rintro e w7 ⟨ad7, cap7, rfl, V7, B7⟩)
          have R7 := rwBelow R6 B7
          have M7 := M6.trans (Mo.of_below B7)
          have V7' : valR (w.heap.size + 1) (XG (XN X)) w7 (.slice ad7 (XG (XN X)).length cap7) := Joins.ownsRow_le V7 (by have := M6.size; simpa using this)
          have C8 := note64 R7 3 i
          go_wp2_with (first | (go_at_call 64; with_reducible refine C8.mono ?_; rintro e w8 ⟨rfl, M8, R8⟩; have V8 := valR_mo V7' M8 (by omega); have M8' := M7.trans M8; obtain ⟨K1, K2, K3⟩ := cell_end R0.out rfl M8' R8 #[.int .i64 2, .slice ad7 (XG (XN X)).length cap7, .int .i64 0, .slice none 0 0, .int .i64 0, .int .i64 0, .bool false, .int .i64 0, .string ⟨#[]⟩]; have hblk := res_block R0.out rfl M8') | (refine wpList_store_row rfl 26 (.tmp 2) (.tmp 46) rfl w.heap.size #[.int .i64 2, .slice ad7 (XG (XN X)).length cap7, .int .i64 0, .slice none 0 0, .int .i64 0, .int .i64 0, .bool false, .int .i64 0, .string ⟨#[]⟩] rfl rfl 26 Z9 hblk (by kernel_rfl) rfl (one_node ()) ?_))
          refine bodyPost_ret (results_cell_row rfl _ _ w.heap.size 26 _ (0, 0) _ rfl K3 Tryz.underlying26 rfl (by kernel_rfl)) rfl ?_
          rw [HT]
          exact ⟨_, rfl, ⟨_, rfl, Joins.ownsRow_le (valR_setRow (V8) (Nat.lt_succ_self _)) (Nat.le_succ _)⟩, K1, K2⟩
      · have HT : classTail true i (.ok (X, k + 1, wrk)) = .ok (XN X, k + 1, note wrk 3 i) := by simp [classTail, classEnd, noteIf, hc]
        have hc1 : (cN X == 0) = false := by simpa using hc
        have hc2 : (cN X != 0) = true := by simpa using hc
        generalize cN X = cn at *
        go_wp2_with (go_at_call 90; with_reducible refine C6.mono ?_; rintro e w6 ⟨ad6, cap6, rfl, V6, B6⟩)
        have R6 := rwBelow R5 B6
        have M6 : Mo (w.alloc (.cells Z9 26)) w6 g := (MK.out.trans G5.mo).trans (Mo.of_below B6)
        have V6' : valR (w.heap.size + 1) (XN X) w6 (.slice ad6 (XN X).length cap6) := Joins.ownsRow_le V6 (by have := (MK.out.trans G5.mo).size; simpa using this)
        have C7 := note64 R6 3 i
        go_wp2_with (first | (go_at_call 64; with_reducible refine C7.mono ?_; rintro e w7 ⟨rfl, M7, R7⟩; have V7 := valR_mo V6' M7 (by omega); have M7' := M6.trans M7; obtain ⟨K1, K2, K3⟩ := cell_end R0.out rfl M7' R7 #[.int .i64 2, .slice ad6 (XN X).length cap6, .int .i64 0, .slice none 0 0, .int .i64 0, .int .i64 0, .bool false, .int .i64 0, .string ⟨#[]⟩]; have hblk := res_block R0.out rfl M7') | (refine wpList_store_row rfl 26 (.tmp 2) (.tmp 46) rfl w.heap.size #[.int .i64 2, .slice ad6 (XN X).length cap6, .int .i64 0, .slice none 0 0, .int .i64 0, .int .i64 0, .bool false, .int .i64 0, .string ⟨#[]⟩] rfl rfl 26 Z9 hblk (by kernel_rfl) rfl (one_node ()) ?_))
        refine bodyPost_ret (results_cell_row rfl _ _ w.heap.size 26 _ (0, 0) _ rfl K3 Tryz.underlying26 rfl (by kernel_rfl)) rfl ?_
        rw [HT]
        exact ⟨_, rfl, ⟨_, rfl, Joins.ownsRow_le (valR_setRow (V7) (Nat.lt_succ_self _)) (Nat.le_succ _)⟩, K1, K2⟩
    · rw [if_neg hcl] at hz'
      have C5 := tookN (rdC RK) 93 (by decide) hcl
      go_wp2_with (go_at_call 60; with_reducible refine C5.mono ?_; rintro e w5 ⟨rfl, G5⟩; have R5 := rwOn RK G5 hk)
      have M5 : Hid (Mo (w.alloc (.cells Z9 26)) w5 g) := MK.out.trans G5.mo
      have V5 := valR_mo VK.out G5.mo (by simp; omega)
      cases hi : item t fold k wrk with
      | error j =>
        rw [hi] at hz'
        subst hz'
        have C6 := endE (item89 R5 (flOn LW1 M5.out)) hi
        go_wp2_with (go_at_call 89; with_reducible refine C6.mono ?_; rintro e w6 ⟨rfl, M6⟩)
        exact ⟨rfl, rfl, (Mo.alloc w g _).trans (M5.out.trans M6)⟩
      | ok y =>
        obtain ⟨L2, j, wr2⟩ := y
        rw [hi] at hz'
        obtain ⟨p1, p2⟩ := item_bd hi
        have HZ2 : Hid (items t fold f (X ++ L2) j wr2 = z) := hz'
        clear hz'
        have C6 := endO (item89 R5 (flOn LW1 M5.out)) hi
        refine C6.mono ?_
        rintro e w6 ⟨v6, rfl, V6, M6, RR6⟩
        have hj := RR6.rd.le
        have V6' : Hid (valR (w.alloc (.cells Z9 26)).heap.size X w6 (.slice ad X.length cap)) := valR_mo V5 M6 (by simp; omega)
        have M6' : Hid (Mo (w.alloc (.cells Z9 26)) w6 g) := M5.out.trans M6
        have R6 : Hid (RW w6 g t j c wr2) := RR6
        clear V5 M6 RR6
        obtain ⟨i0, hi0', hz0, hz1, hz2⟩ := info_parts info62
        rcases Joins.ownsRow_forms V6 with ⟨rfl, hn⟩ | ⟨b6, cap6, rfl⟩
        · obtain rfl := List.eq_nil_of_length_eq_zero hn
          clear V6
          have d6 := Joins.cell_of_block R6.out.rd.blk 1
          simp at d6
          have HZ3 : Hid (items t fold f X j wr2 = z) := by have := HZ2.out; rw [List.append_nil] at this; exact this
          go_wp2_with (at_builtin; refine wpList_append_own_none rfl (.tmp 21) (.tmp 23) 23 rfl (w.alloc (.cells Z9 26)).heap.size 62 i0 2 Tryz.underlying23 hi0' (.slice ad X.length cap) X.length (fl X) rfl V6'.out rfl ?_)
          go_wp2
          go_roundw
          case rel => exact ⟨j, wr2, X, f, ad, cap, rfl, by omega, hj, by omega, by omega, R6, M6', V6', HZ3⟩
          case measure => rw [cK, d6]; simp; omega
        · have HN6 : Hid (∀ q u, (fl L2)[q]? = some u → w6.cell? ((⟨b6, 0, none⟩ : Addr).add q) = some u) := row_news V6
          clear V6
          go_wp2_with (at_builtin; refine wpList_append_own _ rfl (.tmp 21) (.tmp 23) 23 rfl (w.alloc (.cells Z9 26)).heap.size 62 i0 (.agg #[.int .i64 0, .int .i64 0]) 2 16 Tryz.underlying23 hi0' hz0 hz1 hz2 rfl (by decide) (.slice ad X.length cap) X.length (fl X) rfl V6'.out ⟨b6, 0, none⟩ L2.length cap6 (fl L2) rfl (fl_len L2) HN6.out (two_cells L2) (by unfold maxLen; omega) (by omega) M6'.out.size ?_; intro v7 w7 ho7 hg7 hx7)
          obtain ⟨M7, R7⟩ := rw_grown RW1.out M6'.out R6.out V6'.out (Nat.le_refl _) hg7
          have V7 : valR (w.alloc (.cells Z9 26)).heap.size (X ++ L2) w7 v7 := by
            show w7.ownsRow _ _ _ _ _ _
            rw [List.length_append, fl_append]
            exact ho7
          obtain ⟨ad7, cap7, rfl⟩ := slice_form V7
          have d6 := Joins.cell_of_block R7.rd.blk 1
          simp at d6
          go_wp2
          go_roundw
          case rel => exact ⟨j, wr2, X ++ L2, f, ad7, cap7, rfl, by omega, hj, by rw [List.length_append]; omega, by omega, R7, M7, V7, HZ2⟩
          case measure => rw [cK, d6]; simp; omega
end Go.Proofs.YtenanfkmmkmolaaGreatDoor
/- HELPERS: trees in memory. -/
namespace Go.Proofs.YtenanfkmmkmolaaGreatDoor
open Go.RowKit Go.Mx
set_option linter.unusedVariables false
set_option linter.unusedSimpArgs false
mutual
/-- a node's nine cells, its tree, the blocks that it lies in -/
inductive TV (N : Nat) (w : World) : List Value → Tree → List Nat → Prop
  | mk {kind : Int} {ranges : Rng} {assert : Int} {subs : List Tree} {min max : Int} {lazy : Bool} {index : Int} {name : ByteArray} {rv sv : Value} {cells : List Value} {F : List Nat}
      (hr : w.ownsRow N 62 2 rv ranges.length (fl ranges)) (hs : w.ownsRow N 26 9 sv subs.length cells) (ht : TVs N w cells subs F) :
      TV N w [.int .i64 kind, rv, .int .i64 assert, sv, .int .i64 min, .int .i64 max, .bool lazy, .int .i64 index, .string name] (.node kind ranges assert subs min max lazy index name) (rv.ownBlock.toList ++ (sv.ownBlock.toList ++ F))
/-- a row of them -/
inductive TVs (N : Nat) (w : World) : List Value → List Tree → List Nat → Prop
  | nil : TVs N w [] [] []
  | cons {c cs : List Value} {t : Tree} {ts : List Tree} {F G : List Nat} (h : TV N w c t F) (hs : TVs N w cs ts G) : TVs N w (c ++ cs) (t :: ts) (F ++ G)
end
theorem row_kept {w w' : World} {base e size n : Nat} {v : Value} {xs : List Value} (h : w.ownsRow base e size v n xs) (hk : ∀ b, v.ownBlock = some b → w'.heap[b]? = w.heap[b]?) : w'.ownsRow base e size v n xs := by
  refine ⟨h.1, ?_⟩
  rcases h.2 with hn | ⟨g, cap, cur, rfl, hb, hgg, rest⟩
  · exact .inl hn
  · exact .inr ⟨g, cap, cur, rfl, hb, (hk g rfl).trans hgg, rest⟩
mutual
theorem TV.kept {N : Nat} {w w' : World} {c : List Value} {t : Tree} {F : List Nat} (h : TV N w c t F) (hk : ∀ k ∈ F, w'.heap[k]? = w.heap[k]?) : TV N w' c t F := by
  cases h with
  | mk hr hs ht => exact .mk (row_kept hr fun b hb => hk b (by simp [hb])) (row_kept hs fun b hb => hk b (by simp [hb])) (ht.kept fun k hkk => hk k (by simp [hkk]))
theorem TVs.kept {N : Nat} {w w' : World} {c : List Value} {t : List Tree} {F : List Nat} (h : TVs N w c t F) (hk : ∀ k ∈ F, w'.heap[k]? = w.heap[k]?) : TVs N w' c t F := by
  cases h with
  | nil => exact .nil
  | cons h hs => exact .cons (h.kept fun k hkk => hk k (by simp [hkk])) (hs.kept fun k hkk => hk k (by simp [hkk]))
end
mutual
theorem TV.low {N : Nat} {w : World} {c : List Value} {t : Tree} {F : List Nat} (h : TV N w c t F) : ∀ k ∈ F, N ≤ k ∧ k < w.heap.size := by
  cases h with
  | mk hr hs ht =>
    intro k hk
    simp only [List.mem_append, Option.mem_toList] at hk
    rcases hk with hk | hk | hk
    · exact hr.lt k hk
    · exact hs.lt k hk
    · exact ht.low k hk
theorem TVs.low {N : Nat} {w : World} {c : List Value} {t : List Tree} {F : List Nat} (h : TVs N w c t F) : ∀ k ∈ F, N ≤ k ∧ k < w.heap.size := by
  cases h with
  | nil => intro k hk; cases hk
  | cons h hs =>
    intro k hk
    rcases List.mem_append.1 hk with hk | hk
    · exact h.low k hk
    · exact hs.low k hk
end
mutual
theorem TV.le {N N' : Nat} {w : World} {c : List Value} {t : Tree} {F : List Nat} (h : TV N w c t F) (hN : N' ≤ N) : TV N' w c t F := by
  cases h with
  | mk hr hs ht => exact .mk (Joins.ownsRow_le hr hN) (Joins.ownsRow_le hs hN) (ht.le hN)
theorem TVs.le {N N' : Nat} {w : World} {c : List Value} {t : List Tree} {F : List Nat} (h : TVs N w c t F) (hN : N' ≤ N) : TVs N' w c t F := by
  cases h with
  | nil => exact .nil
  | cons h hs => exact .cons (h.le hN) (hs.le hN)
end
theorem TV.nine {N : Nat} {w : World} {c : List Value} {t : Tree} {F : List Nat} (h : TV N w c t F) : c.length = 9 := by cases h; rfl
theorem TVs.len {N : Nat} {w : World} : ∀ {ts : List Tree} {c : List Value} {F : List Nat}, TVs N w c ts F → c.length = ts.length * 9 := by
  intro ts
  induction ts with
  | nil => intro c F h; cases h; rfl
  | cons t ts ih =>
    intro c F h
    cases h with
    | cons h hs =>
      have h1 := h.nine
      have h2 := ih hs
      simp only [List.length_append, List.length_cons]
      omega
theorem TVs.snoc {N : Nat} {w : World} {c : List Value} {t : Tree} {F : List Nat} (h : TV N w c t F) : ∀ {ts : List Tree} {cs : List Value} {G : List Nat}, TVs N w cs ts G → TVs N w (cs ++ c) (ts ++ [t]) (G ++ F) := by
  intro ts
  induction ts with
  | nil => intro cs G hs; cases hs; have := TVs.cons h TVs.nil; simpa using this
  | cons u us ih =>
    intro cs G hs
    cases hs with
    | cons h1 h2 =>
      have := TVs.cons h1 (ih h2)
      simpa [List.append_assoc] using this
theorem TVs.one {N : Nat} {w : World} {c : List Value} {t : Tree} {F : List Nat} (h : TVs N w c [t] F) : TV N w c t F := by
  cases h with
  | cons h hs => cases hs; simpa using h
theorem TV.ones {N : Nat} {w : World} {c : List Value} {t : Tree} {F : List Nat} (h : TV N w c t F) : TVs N w c [t] F := by
  have := TVs.cons h TVs.nil
  simpa using this
theorem TV.oneCells {N : Nat} {w : World} {c : List Value} {t : Tree} {F : List Nat} (h : TV N w c t F) : ∀ u ∈ c, u.oneCell' = true := by
  cases h with
  | mk hr hs ht =>
    have f : ∀ {e size n : Nat} {v : Value} {xs : List Value}, w.ownsRow N e size v n xs → v.oneCell' = true := by
      intro e size n v xs h
      rcases Joins.ownsRow_forms h with ⟨rfl, _⟩ | ⟨b, cap, rfl⟩ <;> rfl
    intro u hu
    simp only [List.mem_cons, List.not_mem_nil, or_false] at hu
    rcases hu with rfl | rfl | rfl | rfl | rfl | rfl | rfl | rfl | rfl
    all_goals first | rfl | exact f hr | exact f hs
/-- a node's value -/
def valT (N : Nat) (t : Tree) (w : World) (v : Value) : Prop := ∃ cells F, v = .agg cells.toArray ∧ TV N w cells t F ∧ F.Nodup
end Go.Proofs.YtenanfkmmkmolaaGreatDoor
