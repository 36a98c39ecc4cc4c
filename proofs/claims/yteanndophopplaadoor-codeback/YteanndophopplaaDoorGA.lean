/- HELPERS: fields of any operation; what gives up is caught. -/
import Derived.Test.YteanndophopplaaDoorFe
import Derived.Deep.LoopGhost
import Derived.Test.YteanndophopplaaDoorCp
import Derived.Tactics
import Derived.Tactics2
import Derived.Defers
import Derived.Recover
import Derived.Laws.Pointers
import Derived.Stop.Asserts
/- HELPERS: a reader of bytes. -/
namespace Go.Proofs.YteanndophopplaaDoor
open Go.RowKit
set_option linter.unusedVariables false
set_option linter.unusedSimpArgs false
/-- what a reader gives up with -/
abbrev Broke : Ending := .panicked [{ v := .iface 77 (.agg #[]), recovered := false }]
/-- nothing that was there has turned but one block -/
structure Mo (w w' : World) (g : Nat) : Prop where
  os : w'.os = w.os
  tape : w'.tape = w.tape
  output : w'.output = w.output
  size : w.heap.size ≤ w'.heap.size
  block : ∀ k, k < w.heap.size → k ≠ g → w'.heap[k]? = w.heap[k]?
theorem Mo.refl (w : World) (g : Nat) : Mo w w g := ⟨rfl, rfl, rfl, Nat.le_refl _, fun _ _ _ => rfl⟩
theorem Mo.trans {w w1 w2 : World} {g : Nat} (h1 : Mo w w1 g) (h2 : Mo w1 w2 g) : Mo w w2 g :=
  ⟨h2.os.trans h1.os, h2.tape.trans h1.tape, h2.output.trans h1.output, Nat.le_trans h1.size h2.size, fun k hk hn => (h2.block k (Nat.lt_of_lt_of_le hk h1.size) hn).trans (h1.block k hk hn)⟩
theorem Mo.of_below {w w' : World} {g : Nat} (h : Below w.heap.size w w') : Mo w w' g := ⟨h.os, h.tape, h.output, h.size, fun k hk _ => h.block k hk⟩
theorem Mo.below {w w' : World} {g N : Nat} (h : Mo w w' g) (hN : N ≤ g) (hs : N ≤ w.heap.size) : Below N w w' := ⟨h.os, h.tape, h.output, h.size, fun k hk => h.block k (by omega) (by omega)⟩
theorem Mo.alloc (w : World) (g : Nat) (o : Obj) : Mo w (w.alloc o) g := ⟨rfl, rfl, rfl, by simp, fun k hk _ => heap_alloc_old w o hk⟩
theorem Mo.drew (w : World) (g : Nat) : Mo w w.drew g := ⟨rfl, rfl, rfl, Nat.le_refl _, fun _ _ _ => rfl⟩
theorem Mo.drewN (w : World) (g q : Nat) : Mo w (w.drewN q) g := ⟨rfl, rfl, rfl, Nat.le_refl _, fun _ _ _ => rfl⟩
theorem Mo.set (w : World) (g i : Nat) (v : Value) : Mo w (w.setCell ⟨g, i, none⟩ v) g := ⟨rfl, rfl, rfl, by simp [World.setCell], fun k hk hn => Below.heap_setCell _ _ _ _ hn⟩
/-- a reader of bytes: what is left of them -/
structure RB (B rb : Nat) (w : World) (l : List Nat) (a : Option Addr) (c : Nat) : Prop where
  box : w.heap[rb]? = some (.cells #[.slice a l.length c] 87 (0, 0))
  ba : BA w B a l
  low : B ≤ rb
  cap : l.length ≤ c
  lt : ∀ x ∈ l, x < 256
  sm : l.length ≤ 8388608
theorem RB.kept {B rb : Nat} {w w' : World} {l : List Nat} {a : Option Addr} {c : Nat} (h : RB B rb w l a c) (hb : w'.heap[rb]? = w.heap[rb]?) (hk : Below B w w') : RB B rb w' l a c :=
  ⟨hb.trans h.box, h.ba.kept hk.block (Nat.le_refl _), h.low, h.cap, h.lt, h.sm⟩
theorem RB.tail {B rb : Nat} {w : World} {x : Nat} {r : List Nat} {a a' : Option Addr} {c c' : Nat} {n : Nat} (h : RB B rb w (x :: r) a c) (hn : n = r.length) (hc : n ≤ c') (hB : BA w B a' r) : RB B rb (w.setCell ⟨rb, 0, none⟩ (.slice a' n c')) r a' c' := by
  subst hn
  refine ⟨Joins.block_setCell h.box _, hB.kept (fun k hk => Below.heap_setCell _ _ _ _ (by have := h.low; simp; omega)) (Nat.le_refl _), h.low, hc, fun y hy => h.lt y (by simp [hy]), ?_⟩
  have := h.sm
  simp at this
  omega
theorem next57_nil {B rb : Nat} {w : World} {a : Option Addr} {c : Nat} (h : RB B rb w [] a c) : Calls Tryd.prog 57 #[pt rb] w fun e w' => e = Broke ∧ w' = w := by
  have c0 := Joins.cell_of_block h.box 0
  simp at c0
  clear h
  go_enter Tryd.func57, Tryd.ntmps57
  go_wp2
  exact ⟨rfl, rfl, rfl⟩
set_option maxHeartbeats 1000000 in
theorem next57_cons {B rb : Nat} {w : World} {x : Nat} {r : List Nat} {a : Option Addr} {c : Nat} (h : RB B rb w (x :: r) a c) :
    Calls Tryd.prog 57 #[pt rb] w fun e w' => e = .returned (.int .u8 (x : Int)) ∧ (∃ a' c', RB B rb w' r a' c') ∧ Mo w w' rb := by
  have c0 := Joins.cell_of_block h.box 0
  have f0 := Joins.unfrozen_of_block h.box 0
  simp at c0
  obtain ⟨b, o, rfl, hb, hc⟩ : ∃ b o, a = some ⟨b, o, none⟩ ∧ b < B ∧ ∀ k (h : k < (x :: r).length), w.cell? ⟨b, o + k, none⟩ = some (.int .u8 ((x :: r)[k] : Int)) := by
    rcases h.ba with e | e
    · cases e
    · exact e
  have m0 := hc 0 (by simp)
  simp at m0
  have hcap := h.cap
  have hsm := h.sm
  simp at hcap hsm
  have HR := hid h
  obtain ⟨n, hn⟩ : ∃ n, n = r.length := ⟨_, rfl⟩
  rw [← hn] at c0 hcap hsm
  have HN := hid hn
  have HC := hid hc
  clear h hc hn
  go_enter Tryd.func57, Tryd.ntmps57
  go_wp2
  all_goals go_ret
  · refine ⟨rfl, ⟨_, _, HR.out.tail (a' := some ⟨b, o, none⟩) (c' := 0) HN.out (by omega) ?_⟩, Mo.set _ _ _ _⟩
    exact .inl (List.length_eq_zero_iff.1 (by rw [← HN.out]; omega))
  · refine ⟨rfl, ⟨_, _, HR.out.tail (a' := some ⟨b, o + 1, none⟩) (c' := c - 1) HN.out (by omega) ?_⟩, Mo.set _ _ _ _⟩
    refine .inr ⟨b, o + 1, rfl, hb, fun k hk => ?_⟩
    have e := HC.out (k + 1) (by simp; exact hk)
    rw [Nat.add_assoc, Nat.add_comm 1 k]
    simpa using e
end Go.Proofs.YteanndophopplaaDoor
/- HELPERS: a number out of bytes. -/
namespace Go.Proofs.YteanndophopplaaDoor
open Go.RowKit
set_option linter.unusedVariables false
set_option linter.unusedSimpArgs false
/-- what is read so far, and what is to come -/
def More (j acc : Nat) (l0 l : List Nat) : Prop := get7 3 true l0 = (match get7 (3 - j) (decide (j = 0)) l with | none => none | some (n, u) => some (acc + 128 ^ j * n, u))
theorem andNot_128 (x : Nat) (h : x < 256) : bits .andNot .u8 (x : Int) 128 = ((x % 128 : Nat) : Int) := by
  have e := u8_andNot_nat x 128 h (by decide)
  have e2 := Nat.and_two_pow_sub_one_eq_mod x 7
  simp at e2
  simp only [show 255 - 128 = 127 by rfl, e2] at e
  exact e
theorem or_i64 (a b : Nat) (ha : a < 4611686018427387904) (hb : b < 4611686018427387904) : bits .or .i64 (a : Int) (b : Int) = ((a ||| b : Nat) : Int) := by
  have hx : a ||| b < 2 ^ 62 := Nat.or_lt_two_pow (by omega) (by omega)
  show IntKind.i64.wrap ((BitVec.ofInt 64 (a : Int) ||| BitVec.ofInt 64 (b : Int)).toNat : Int) = _
  rw [BitVec.toNat_or, ofInt_u64 a (by omega), ofInt_u64 b (by omega)]
  have e : ((a ||| b : Nat) : Int) % 2 ^ 64 = ((a ||| b : Nat) : Int) := Int.emod_eq_of_lt (by omega) (by omega)
  simp only [IntKind.wrap, IntKind.bits, IntKind.signed, e]
  rw [if_neg]
  simp
  omega
theorem or_join (acc y s : Nat) (h : acc < 2 ^ s) (hs : s ≤ 14) (hy : y < 128) : bits .or .i64 (acc : Int) ((y * 2 ^ s : Nat) : Int) = ((acc + y * 2 ^ s : Nat) : Int) := by
  have h2 : 2 ^ s ≤ 2 ^ 14 := Nat.pow_le_pow_right (by omega) hs
  have h3 : y * 2 ^ s ≤ 127 * 2 ^ 14 := Nat.mul_le_mul (by omega) h2
  rw [or_i64 _ _ (by omega) (by omega), Nat.or_comm, nat_join s _ _ (by simp) h]
  rw [Nat.add_comm]
theorem get7_more {f : Nat} {first : Bool} {x : Nat} {r : List Nat} (hx : x < 256) (h : 128 ≤ x) : get7 (f + 1) first (x :: r) = (match get7 f false r with | none => none | some (n, u) => some (x % 128 + 128 * n, u)) := by
  show (if 256 ≤ x then none else if 128 ≤ x then _ else _) = _
  rw [if_neg (by omega), if_pos h]
  cases get7 f false r <;> rfl
theorem get7_last {f : Nat} {first : Bool} {x : Nat} {r : List Nat} (h : ¬ 128 ≤ x) (h0 : ¬ (x = 0 ∧ first = false)) : get7 (f + 1) first (x :: r) = some (x, r) := by
  show (if 256 ≤ x then none else if 128 ≤ x then _ else _) = _
  rw [if_neg (by omega), if_neg h, if_neg h0]
theorem get7_zero {f : Nat} {r : List Nat} : get7 (f + 1) false (0 :: r) = none := by
  show (if 256 ≤ 0 then none else if 128 ≤ 0 then _ else _) = _
  rw [if_neg (by omega), if_neg (by omega), if_pos ⟨rfl, rfl⟩]
set_option maxRecDepth 100000 in
set_option maxHeartbeats 4000000 in
theorem number56 {B rb : Nat} {w : World} {l : List Nat} {a : Option Addr} {c : Nat} (h : RB B rb w l a c) :
    Calls Tryd.prog 56 #[pt rb] w fun e w' => Mo w w' rb ∧ ((get7 3 true l = none ∧ e = Broke) ∨ ∃ n u, get7 3 true l = some (n, u) ∧ e = .returned (.int .i64 (n : Int)) ∧ ∃ a' c', RB B rb w' u a' c') := by
  have HR := hid h
  clear h
  go_enter Tryd.func56, Tryd.ntmps56
  go_wp2_with fail
  go_loopw [3, 4] (fun y z wq => ∃ (j acc : Nat) (l' : List Nat), y = .int .i64 (acc : Int) ∧ z = .int .i64 ((7 * j : Nat) : Int) ∧ j ≤ 3 ∧ Hid (∃ a' c', RB B rb wq l' a' c') ∧ Hid (More j acc l l') ∧ acc < 128 ^ j ∧ Hid (Mo w wq rb)) (fun _ y _ => 21 - (intOf y).toNat)
  case atStart =>
    refine ⟨0, 0, l, rfl, rfl, by omega, ⟨a, c, HR.out⟩, ?_, by simp, Mo.refl _ _⟩
    show get7 3 true l = (match get7 3 true l with | none => none | some (n, u) => some (0 + 128 ^ 0 * n, u))
    cases get7 3 true l with
    | none => rfl
    | some p => simp
  case round =>
    clear HR
    obtain ⟨j, acc, l', rfl, rfl, hj, HR, HM, hacc, HO⟩ := hrel
    obtain ⟨a', c', hR⟩ := HR.out
    obtain rfl | rfl | rfl | rfl : j = 0 ∨ j = 1 ∨ j = 2 ∨ j = 3 := by omega
    · have HM' : Hid (get7 3 true l = (match get7 3 true l' with | none => none | some (n, u) => some (acc + 128 ^ 0 * n, u))) := HM.out
      clear HM
      cases l' with
      | nil =>
        have C := next57_nil hR
        clear hR
        go_wp2_with (go_at_call 57; (with_reducible refine C.mono ?_); rintro e w1 ⟨rfl, rfl⟩)
        exact ⟨rfl, HO.out, .inl ⟨by rw [HM'.out]; rfl, rfl⟩⟩
      | cons x r =>
        have C := next57_cons hR
        have hx := hR.lt x (by simp)
        have an := andNot_128 x hx
        have orj := or_join acc (x % 128) 0 hacc (by omega) (by omega)
        clear hR
        by_cases h8 : 128 ≤ x
        · have b1 : decide ((x : Int) ≥ 128) = true := by simp; omega
          have b2 : (128 : Int) ≤ (x : Int) := by omega
          have HG : Hid (get7 3 true l = (match get7 2 false r with | none => none | some (n, u) => some (acc + x % 128 * 2 ^ 0 + 128 ^ 1 * n, u))) := by
            show _ = _
            rw [HM'.out, get7_more hx h8]
            cases get7 2 false r with
            | none => rfl
            | some p => simp only; congr 2; omega
          go_wp2_with (go_at_call 57; (with_reducible refine C.mono ?_); rintro e w1 ⟨rfl, hR1, hM1⟩; have HR1 := hid hR1; have HM1 := hid hM1; clear hR1 hM1 C)
          refine ⟨⟨1, acc + x % 128 * 2 ^ 0, r, ?_, rfl, by omega, HR1.out, HG.out, ?_, HO.out.trans HM1.out⟩, by simp [intOf]⟩
          · first
            | rw [← orj]; rfl
            | (congr 1; rw [← orj]; simp)
          · simp at hacc ⊢; omega
        · have b1 : decide ((x : Int) ≥ 128) = false := by simp; omega
          have b2 : ¬ (128 : Int) ≤ (x : Int) := by omega
          have HG : Hid (get7 3 true l = some (acc + x % 128 * 2 ^ 0, r)) := by
            show _ = _
            rw [HM'.out, get7_last h8 (by simp)]
            simp only; congr 2; omega
          go_wp2_with (go_at_call 57; (with_reducible refine C.mono ?_); rintro e w1 ⟨rfl, hR1, hM1⟩; have HR1 := hid hR1; have HM1 := hid hM1; clear hR1 hM1 C)
          all_goals go_ret
          all_goals refine ⟨HO.out.trans HM1.out, .inr ⟨acc + x % 128 * 2 ^ 0, r, HG.out, ret_int ?_, HR1.out⟩⟩
          all_goals first
            | rw [← orj]; rfl
            | (rw [← orj]; simp; done)
            | (obtain rfl : x = 0 := (by omega); rw [← orj]; simp)
    · have HM' : Hid (get7 3 true l = (match get7 2 false l' with | none => none | some (n, u) => some (acc + 128 ^ 1 * n, u))) := HM.out
      clear HM
      cases l' with
      | nil =>
        have C := next57_nil hR
        clear hR
        go_wp2_with (go_at_call 57; (with_reducible refine C.mono ?_); rintro e w1 ⟨rfl, rfl⟩)
        exact ⟨rfl, HO.out, .inl ⟨by rw [HM'.out]; rfl, rfl⟩⟩
      | cons x r =>
        have C := next57_cons hR
        have hx := hR.lt x (by simp)
        have an := andNot_128 x hx
        have orj := or_join acc (x % 128) 7 hacc (by omega) (by omega)
        clear hR
        by_cases h8 : 128 ≤ x
        · have b1 : decide ((x : Int) ≥ 128) = true := by simp; omega
          have b2 : (128 : Int) ≤ (x : Int) := by omega
          have HG : Hid (get7 3 true l = (match get7 1 false r with | none => none | some (n, u) => some (acc + x % 128 * 2 ^ 7 + 128 ^ 2 * n, u))) := by
            show _ = _
            rw [HM'.out, get7_more hx h8]
            cases get7 1 false r with
            | none => rfl
            | some p => simp only; congr 2; omega
          go_wp2_with (go_at_call 57; (with_reducible refine C.mono ?_); rintro e w1 ⟨rfl, hR1, hM1⟩; have HR1 := hid hR1; have HM1 := hid hM1; clear hR1 hM1 C)
          refine ⟨⟨2, acc + x % 128 * 2 ^ 7, r, ?_, rfl, by omega, HR1.out, HG.out, ?_, HO.out.trans HM1.out⟩, by simp [intOf]⟩
          · first
            | rw [← orj]; rfl
            | (congr 1; rw [← orj]; simp)
          · simp at hacc ⊢; omega
        · have b1 : decide ((x : Int) ≥ 128) = false := by simp; omega
          have b2 : ¬ (128 : Int) ≤ (x : Int) := by omega
          by_cases h0 : x = 0
          · subst h0
            have HG : Hid (get7 3 true l = none) := by
              show _ = _
              rw [HM'.out, get7_zero]
            go_wp2_with (go_at_call 57; (with_reducible refine C.mono ?_); rintro e w1 ⟨rfl, hR1, hM1⟩; have HR1 := hid hR1; have HM1 := hid hM1; clear hR1 hM1 C)
            exact ⟨rfl, HO.out.trans HM1.out, .inl ⟨HG.out, rfl⟩⟩
          · have d1 : ((x : Int) == 0) = false := by simp; omega
            have d2 : ¬ ((x : Int) = 0) := by omega
            have HG : Hid (get7 3 true l = some (acc + x % 128 * 2 ^ 7, r)) := by
              show _ = _
              rw [HM'.out, get7_last h8 (by simp [h0])]
              simp only; congr 2; omega
            go_wp2_with (go_at_call 57; (with_reducible refine C.mono ?_); rintro e w1 ⟨rfl, hR1, hM1⟩; have HR1 := hid hR1; have HM1 := hid hM1; clear hR1 hM1 C)
            all_goals go_ret
            all_goals refine ⟨HO.out.trans HM1.out, .inr ⟨acc + x % 128 * 2 ^ 7, r, HG.out, ret_int ?_, HR1.out⟩⟩
            all_goals first
              | rw [← orj]; rfl
              | (rw [← orj]; simp)
    · have HM' : Hid (get7 3 true l = (match get7 1 false l' with | none => none | some (n, u) => some (acc + 128 ^ 2 * n, u))) := HM.out
      clear HM
      cases l' with
      | nil =>
        have C := next57_nil hR
        clear hR
        go_wp2_with (go_at_call 57; (with_reducible refine C.mono ?_); rintro e w1 ⟨rfl, rfl⟩)
        exact ⟨rfl, HO.out, .inl ⟨by rw [HM'.out]; rfl, rfl⟩⟩
      | cons x r =>
        have C := next57_cons hR
        have hx := hR.lt x (by simp)
        have an := andNot_128 x hx
        have orj := or_join acc (x % 128) 14 hacc (by omega) (by omega)
        clear hR
        by_cases h8 : 128 ≤ x
        · have b1 : decide ((x : Int) ≥ 128) = true := by simp; omega
          have b2 : (128 : Int) ≤ (x : Int) := by omega
          have HG : Hid (get7 3 true l = (match get7 0 false r with | none => none | some (n, u) => some (acc + x % 128 * 2 ^ 14 + 128 ^ 3 * n, u))) := by
            show _ = _
            rw [HM'.out, get7_more hx h8]
            cases get7 0 false r with
            | none => rfl
            | some p => simp only; congr 2; omega
          go_wp2_with (go_at_call 57; (with_reducible refine C.mono ?_); rintro e w1 ⟨rfl, hR1, hM1⟩; have HR1 := hid hR1; have HM1 := hid hM1; clear hR1 hM1 C)
          refine ⟨⟨3, acc + x % 128 * 2 ^ 14, r, ?_, rfl, by omega, HR1.out, HG.out, ?_, HO.out.trans HM1.out⟩, by simp [intOf]⟩
          · first
            | rw [← orj]; rfl
            | (congr 1; rw [← orj]; simp)
          · simp at hacc ⊢; omega
        · have b1 : decide ((x : Int) ≥ 128) = false := by simp; omega
          have b2 : ¬ (128 : Int) ≤ (x : Int) := by omega
          by_cases h0 : x = 0
          · subst h0
            have HG : Hid (get7 3 true l = none) := by
              show _ = _
              rw [HM'.out, get7_zero]
            go_wp2_with (go_at_call 57; (with_reducible refine C.mono ?_); rintro e w1 ⟨rfl, hR1, hM1⟩; have HR1 := hid hR1; have HM1 := hid hM1; clear hR1 hM1 C)
            exact ⟨rfl, HO.out.trans HM1.out, .inl ⟨HG.out, rfl⟩⟩
          · have d1 : ((x : Int) == 0) = false := by simp; omega
            have d2 : ¬ ((x : Int) = 0) := by omega
            have HG : Hid (get7 3 true l = some (acc + x % 128 * 2 ^ 14, r)) := by
              show _ = _
              rw [HM'.out, get7_last h8 (by simp [h0])]
              simp only; congr 2; omega
            go_wp2_with (go_at_call 57; (with_reducible refine C.mono ?_); rintro e w1 ⟨rfl, hR1, hM1⟩; have HR1 := hid hR1; have HM1 := hid hM1; clear hR1 hM1 C)
            all_goals go_ret
            all_goals refine ⟨HO.out.trans HM1.out, .inr ⟨acc + x % 128 * 2 ^ 14, r, HG.out, ret_int ?_, HR1.out⟩⟩
            all_goals first
              | rw [← orj]; rfl
              | (rw [← orj]; simp)
    · have HM' : Hid (get7 3 true l = none) := HM.out
      clear HM hR
      go_wp2
      exact ⟨rfl, HO.out, .inl ⟨HM'.out, rfl⟩⟩
end Go.Proofs.YteanndophopplaaDoor
/- HELPERS: ranges out of a reader. -/
namespace Go.Proofs.YteanndophopplaaDoor
open Go.RowKit
set_option linter.unusedVariables false
set_option linter.unusedSimpArgs false
abbrev mkI (k : Int) : Iv := ⟨k, 0, 0, 0, none, 0, 0⟩
theorem makeR (c : Nat) (hc : c * 16 ≤ 140737488355328) (w : World) : (Instr.makeSlice 47 (.int .i64 (c : Int)) (.int .i64 (c : Int))).run Tryd.prog w = .ok (.slice (some ⟨w.heap.size, 0, none⟩) c c) (w.alloc (.cells (madeCells (Value.agg #[.int .i64 0, .int .i64 0]).cells (c * 2)) 51)) := by
  obtain ⟨i0, hi0, hz0, hz1, hz2⟩ := info_parts info49
  have h := run_make (P := Tryd.prog) w 47 51 i0 (.agg #[.int .i64 0, .int .i64 0]) Tryd.underlying47 hi0 hz0 .i64 .i64 c c (by omega) (by omega) (by rw [hz2]; omega) (by omega)
  simp only [Int.toNat_natCast, hz1] at h
  exact h
theorem makeI (c : Nat) (hc : c * 56 ≤ 140737488355328) (w : World) : (Instr.makeSlice 22 (.int .i64 (c : Int)) (.int .i64 (c : Int))).run Tryd.prog w = .ok (.slice (some ⟨w.heap.size, 0, none⟩) c c) (w.alloc (.cells (madeCells Z5.cells (c * 5)) 49)) := by
  obtain ⟨i0, hi0, hz0, hz1, hz2⟩ := info_parts info51
  have h := run_make (P := Tryd.prog) w 22 49 i0 Z5 Tryd.underlying22 hi0 hz0 .i64 .i64 c c (by omega) (by omega) (by rw [hz2]; omega) (by omega)
  simp only [Int.toNat_natCast, hz1] at h
  exact h
theorem made_rep (z : Array Value) (hz : 0 < z.size) : ∀ c : Nat, (madeCells z (c * z.size)).toList = (List.replicate c z.toList).flatten := by
  intro c
  apply List.ext_getElem?
  intro i
  have key : ∀ (c i : Nat), i < c * z.size → (List.replicate c z.toList).flatten[i]? = z[i % z.size]? := by
    intro c
    induction c with
    | zero => intro i h; simp at h
    | succ c ih =>
      intro i h
      rw [List.replicate_succ, List.flatten_cons]
      by_cases hi : i < z.size
      · rw [List.getElem?_append_left (by simpa using hi), Nat.mod_eq_of_lt hi]; simp
      · rw [List.getElem?_append_right (by simpa using Nat.le_of_not_lt hi)]
        have h2 : i - z.size < c * z.size := by rw [Nat.add_mul] at h; omega
        have := ih (i - z.size) h2
        rw [show i - z.toList.length = i - z.size by simp, this]
        rw [← Nat.mod_eq_sub_mod (by omega)]
  by_cases hi : i < c * z.size
  · rw [key c i hi]
    have hm : i % z.size < z.size := Nat.mod_lt _ hz
    simp [madeCells, hi, hm]
  · rw [List.getElem?_eq_none (by simp [madeCells]; omega), List.getElem?_eq_none (by simp; omega)]
theorem made_rowI (c N : Nat) (w : World) (hN : N ≤ w.heap.size) (hc : c ≤ maxLen) : (w.alloc (.cells (madeCells Z5.cells (c * 5)) 49)).ownsRow N 49 5 (.slice (some ⟨w.heap.size, 0, none⟩) c c) c ((List.replicate c (mkI 0)).flatMap Iv.cs) := by
  have h := World.ownsRow_lit (base := N) (e := 49) (size := 5) w (madeCells Z5.cells (c * 5)) c hN hc (by rw [size_madeCells])
  have e := made_rep Z5.cells (by decide) c
  rw [show Z5.cells.size = 5 from rfl] at e
  rw [e] at h
  have e2 : (List.replicate c Z5.cells.toList).flatten = (List.replicate c (mkI 0)).flatMap Iv.cs := by
    rw [List.flatMap_def, List.map_replicate]; rfl
  rw [e2] at h
  exact h
theorem made_rowR (c N : Nat) (w : World) (hN : N ≤ w.heap.size) (hc : c ≤ maxLen) : (w.alloc (.cells (madeCells (Value.agg #[.int .i64 0, .int .i64 0]).cells (c * 2)) 51)).ownsRow N 51 2 (.slice (some ⟨w.heap.size, 0, none⟩) c c) c (O2 (List.replicate c (0, 0))) := by
  have h := World.ownsRow_lit (base := N) (e := 51) (size := 2) w (madeCells (Value.agg #[.int .i64 0, .int .i64 0]).cells (c * 2)) c hN hc (by rw [size_madeCells])
  have e := made_rep (Value.agg #[.int .i64 0, .int .i64 0]).cells (by decide) c
  rw [show (Value.agg #[.int .i64 0, .int .i64 0]).cells.size = 2 from rfl] at e
  rw [e] at h
  have e2 : (List.replicate c (Value.agg #[.int .i64 0, .int .i64 0]).cells.toList).flatten = O2 (List.replicate c (0, 0)) := by
    unfold O2
    rw [List.flatMap_def, List.map_replicate]; rfl
  rw [e2] at h
  exact h
/-- what a reader in memory is like -/
structure Rdr {α : Type} (B rb : Nat) (RD : World → List α → Prop) : Prop where
  kept : ∀ w w' l, RD w l → w'.heap[rb]? = w.heap[rb]? → (∀ b, b < B → w'.heap[b]? = w.heap[b]?) → RD w' l
  lt : ∀ w l, RD w l → rb < w.heap.size
  low : B ≤ rb
/-- what a reader's number does -/
abbrev NumR {α : Type} (f rb : Nat) (RD : World → List α → Prop) (C : Codec α) : Prop := ∀ (w : World) (l : List α), RD w l →
  Calls Tryd.prog f #[pt rb] w fun e w' => Mo w w' rb ∧ ((C.get l = none ∧ e = Broke) ∨ ∃ n u, C.get l = some (n, u) ∧ e = .returned (.int .i64 (n : Int)) ∧ RD w' u)
theorem NumR.none {α : Type} {f rb : Nat} {RD : World → List α → Prop} {C : Codec α} (h : NumR f rb RD C) {w : World} {l : List α} (hR : RD w l) (hg : C.get l = none) : Calls Tryd.prog f #[pt rb] w fun e w' => e = Broke ∧ Mo w w' rb :=
  (h w l hR).mono (by
    rintro e w' ⟨hM, ⟨_, rfl⟩ | ⟨n, u, h2, _⟩⟩
    · exact ⟨rfl, hM⟩
    · rw [hg] at h2; cases h2)
theorem NumR.some {α : Type} {f rb : Nat} {RD : World → List α → Prop} {C : Codec α} (h : NumR f rb RD C) {w : World} {l u : List α} {n : Nat} (hR : RD w l) (hg : C.get l = .some (n, u)) : Calls Tryd.prog f #[pt rb] w fun e w' => e = .returned (.int .i64 (n : Int)) ∧ RD w' u ∧ Mo w w' rb :=
  (h w l hR).mono (by
    rintro e w' ⟨hM, ⟨h2, _⟩ | ⟨n', u', h2, rfl, h3⟩⟩
    · rw [hg] at h2; cases h2
    · rw [hg] at h2; cases h2; exact ⟨rfl, h3, hM⟩)
theorem O2_at2 (A : List (Int × Int)) (c0 c1 : Int) (B : List (Int × Int)) (x : Int) : (O2 (A ++ (c0, c1) :: B)).set (A.length * 2) (.int .i64 x) = O2 (A ++ (x, c1) :: B) ∧ (O2 (A ++ (c0, c1) :: B)).set (A.length * 2 + 1) (.int .i64 x) = O2 (A ++ (c0, x) :: B) := by
  have e : ∀ a b : Int, O2 (A ++ (a, b) :: B) = O2 A ++ (Value.int .i64 a :: Value.int .i64 b :: O2 B) := fun a b => by simp [O2]
  rw [e, e, e]
  have hl : (O2 A).length = A.length * 2 := O2_len A
  rw [List.set_append_right _ _ (by omega), List.set_append_right _ _ (by omega), hl]
  simp
/-- the row of ranges that is filled -/
abbrev RowF (w : World) (N g c : Nat) (A : List (Int × Int)) (k : Nat) : Prop := w.ownsRow N 51 2 (.slice (some ⟨g, 0, none⟩) c c) c (O2 (A ++ List.replicate k (0, 0)))
theorem RowF.set {w w1 w2 : World} {N g c rb : Nat} {A : List (Int × Int)} {k : Nat} {lo hi : Int} (h : RowF w N g c A (k + 1)) (hg : g ≠ rb) (h1 : Mo w w1 rb) (h2 : Mo (w1.setCell ⟨g, A.length * 2, none⟩ (.int .i64 lo)) w2 rb) :
    RowF (w2.setCell ⟨g, A.length * 2 + 1, none⟩ (.int .i64 hi)) N g c (A ++ [(lo, hi)]) k := by
  have hb := (h.lt g rfl).2
  have a1 : w1.ownsRow N 51 2 (.slice (some ⟨g, 0, none⟩) c c) c (O2 (A ++ (0, 0) :: List.replicate k (0, 0))) := row_kept h (fun b e => by simp [Value.ownBlock] at e; subst e; exact h1.block _ hb hg)
  have a2 := row_setC a1 (A.length * 2) (.int .i64 lo)
  rw [(O2_at2 _ _ _ _ _).1] at a2
  have hb2 := (a2.lt g rfl).2
  have a3 : w2.ownsRow N 51 2 (.slice (some ⟨g, 0, none⟩) c c) c (O2 (A ++ (lo, 0) :: List.replicate k (0, 0))) := row_kept a2 (fun b e => by simp [Value.ownBlock] at e; subst e; exact h2.block _ hb2 hg)
  have a4 := row_setC a3 (A.length * 2 + 1) (.int .i64 hi)
  rw [(O2_at2 _ _ _ _ _).2] at a4
  have e : (A ++ [(lo, hi)]) ++ List.replicate k (0, 0) = A ++ (lo, hi) :: List.replicate k (0, 0) := by simp
  show World.ownsRow _ _ _ _ _ _ (O2 ((A ++ [(lo, hi)]) ++ List.replicate k (0, 0)))
  rw [e]
  exact a4
theorem RowF.at_ {w w1 : World} {N g c rb : Nat} {A : List (Int × Int)} {k : Nat} (h : RowF w N g c A (k + 1)) (hg : g ≠ rb) (h1 : Mo w w1 rb) (hc : A.length + (k + 1) = c) : (∃ v, w1.cell? ⟨g, A.length * 2, none⟩ = some v) ∧ w1.frozen? ⟨g, A.length * 2, none⟩ = false ∧ (∃ v, w1.cell? ⟨g, A.length * 2 + 1, none⟩ = some v) ∧ w1.frozen? ⟨g, A.length * 2 + 1, none⟩ = false := by
  have hb := (h.lt g rfl).2
  have a1 : RowF w1 N g c A (k + 1) := row_kept h (fun b e => by simp [Value.ownBlock] at e; subst e; exact h1.block _ hb hg)
  have ht := row_there a1 (j := A.length * 2) (m := 2) (by omega)
  exact ⟨Option.isSome_iff_exists.1 (ht 0 (by omega)).1, (ht 0 (by omega)).2, Option.isSome_iff_exists.1 (ht 1 (by omega)).1, (ht 1 (by omega)).2⟩
theorem RowF.mid {w w1 w2 : World} {N g c rb : Nat} {A : List (Int × Int)} {k : Nat} {lo : Int} (h : RowF w N g c A (k + 1)) (hg : g ≠ rb) (h1 : Mo w w1 rb) (h2 : Mo (w1.setCell ⟨g, A.length * 2, none⟩ (.int .i64 lo)) w2 rb) (hc : A.length + (k + 1) = c) : (∃ v, w2.cell? ⟨g, A.length * 2 + 1, none⟩ = some v) ∧ w2.frozen? ⟨g, A.length * 2 + 1, none⟩ = false := by
  have hb := (h.lt g rfl).2
  have a1 : w1.ownsRow N 51 2 (.slice (some ⟨g, 0, none⟩) c c) c (O2 (A ++ (0, 0) :: List.replicate k (0, 0))) := row_kept h (fun b e => by simp [Value.ownBlock] at e; subst e; exact h1.block _ hb hg)
  have a2 := row_setC a1 (A.length * 2) (.int .i64 lo)
  have hb2 := (a2.lt g rfl).2
  have a3 := row_kept a2 (w' := w2) (fun b e => by simp [Value.ownBlock] at e; subst e; exact h2.block _ hb2 hg)
  have ht := row_there a3 (j := A.length * 2) (m := 2) (by omega)
  exact ⟨Option.isSome_iff_exists.1 (ht 1 (by omega)).1, (ht 1 (by omega)).2⟩
theorem Mo.setNew {w w' : World} {rb : Nat} (h : Mo w w' rb) {a : Addr} (v : Value) (ha : w.heap.size ≤ a.block) : Mo w (w'.setCell a v) rb :=
  ⟨h.os, h.tape, h.output, by have := h.size; simp [World.setCell]; exact this, fun k hk hn => (Below.heap_setCell _ _ _ _ (by omega)).trans (h.block k hk hn)⟩
/-- how many ranges, then these; up to so many -/
def getRS {α : Type} (C : Codec α) (L : Nat) (l : List α) : Option (List (Int × Int) × List α) := match C.get l with
  | none => none
  | some (c, l1) => if L < c then none else getR C c l1
theorem getRS_none {α : Type} {C : Codec α} {L : Nat} {l : List α} (h : C.get l = none) : getRS C L l = none := by unfold getRS; rw [h]
theorem getRS_some {α : Type} {C : Codec α} {L n : Nat} {l u : List α} (h : C.get l = some (n, u)) : getRS C L l = if L < n then none else getR C n u := by unfold getRS; rw [h]
theorem getR_none1 {α : Type} {C : Codec α} {k : Nat} {l : List α} (h : C.get l = none) : getR C (k + 1) l = none := by unfold getR; rw [h]
theorem getR_none2 {α : Type} {C : Codec α} {k lo : Nat} {l u : List α} (h : C.get l = some (lo, u)) (h2 : C.get u = none) : getR C (k + 1) l = none := by unfold getR; rw [h]; simp only; rw [h2]
theorem getR_some {α : Type} {C : Codec α} {k lo hi : Nat} {l u u2 : List α} (h : C.get l = some (lo, u)) (h2 : C.get u = some (hi, u2)) : getR C (k + 1) l = (match getR C k u2 with | none => none | some (R, l3) => some (((lo : Int), (hi : Int)) :: R, l3)) := by
  show (match C.get l with | none => none | some (lo, l1) => match C.get l1 with | none => none | some (hi, l2) => match getR C k l2 with | none => none | some (R, l3) => some (((lo : Int), (hi : Int)) :: R, l3)) = _
  rw [h]; simp only; rw [h2]
set_option maxRecDepth 100000 in
set_option maxHeartbeats 4000000 in
theorem takeRanges67 {α : Type} {f B rb : Nat} {RD : World → List α → Prop} {C : Codec α} (hN : NumR f rb RD C) (hf : Enters f) (hr : Rdr B rb RD) {w : World} {l : List α} (h : RD w l) :
    Calls Tryd.prog 67 #[mv f rb] w fun e w' => Mo w w' rb ∧ ((getRS C 5000 l = none ∧ e = Broke) ∨ ∃ R u g, getRS C 5000 l = some (R, u) ∧ e = .returned (.slice (some ⟨g, 0, none⟩) R.length R.length) ∧ w'.ownsRow w.heap.size 51 2 (.slice (some ⟨g, 0, none⟩) R.length R.length) R.length (O2 R) ∧ RD w' u) := by
  have hlt := hr.lt _ _ h
  cases hg : C.get l with
  | none =>
    have C1 := hN.none h hg
    go_enter Tryd.func67, Tryd.ntmps67
    go_wp2_with (with_reducible refine C1.mono ?_; rintro e w1 ⟨rfl, hM⟩)
    exact ⟨rfl, hM, .inl ⟨getRS_none hg, rfl⟩⟩
  | some p =>
    obtain ⟨n, u⟩ := p
    have C1 := hN.some h hg
    have HGR := hid (getRS_some (L := 5000) hg)
    clear h hg
    by_cases h5 : 5000 < n
    · have b1 : decide ((n : Int) > 5000) = true := by simp; omega
      have b2 : (5000 : Int) < (n : Int) := by omega
      go_enter Tryd.func67, Tryd.ntmps67
      go_wp2_with (with_reducible refine C1.mono ?_; rintro e w1 ⟨rfl, hR1, hM⟩)
      exact ⟨rfl, hM, .inl ⟨by rw [HGR.out, if_pos h5], rfl⟩⟩
    · have b1 : decide ((n : Int) > 5000) = false := by simp; omega
      have b2 : ¬ ((5000 : Int) < (n : Int)) := by omega
      have HGR2 : Hid (getRS C 5000 l = getR C n u) := by show _ = _; rw [HGR.out, if_neg h5]
      clear HGR
      have mk := makeR n (by omega)
      go_enter Tryd.func67, Tryd.ntmps67
      go_wp2_with (with_reducible refine C1.mono ?_; rintro e w1 ⟨rfl, hR1, hM1⟩; have HR1 := hid hR1; have HM1 := hid hM1; clear hR1 hM1 C1)
      obtain ⟨g, hgg⟩ : ∃ g, g = w1.heap.size := ⟨_, rfl⟩
      obtain ⟨W, hW⟩ : ∃ W, W = w1.alloc (.cells (madeCells #[.int .i64 0, .int .i64 0] (n * 2)) 51) := ⟨_, rfl⟩
      rw [← hgg, ← hW]
      have HRow : Hid (RowF W w.heap.size g n [] n) := by rw [hW, hgg]; exact made_rowR n w.heap.size w1 HM1.out.size (by unfold maxLen; omega)
      have HMW : Hid (Mo w W rb) := by rw [hW]; exact HM1.out.trans (Mo.alloc _ _ _)
      have hgr : g ≠ rb := by have := HM1.out.size; omega
      have hgw : w.heap.size ≤ g := by rw [hgg]; exact HM1.out.size
      have HRD : Hid (RD W u) := by rw [hW]; exact hr.kept _ _ _ HR1.out (heap_alloc_old _ _ (by have := HM1.out.size; omega)) (fun b hb => heap_alloc_old _ _ (by have := HM1.out.size; have := hr.low; omega))
      clear hgg hW HM1 HR1 mk b1 b2
      go_loopw [16] (fun y wq => ∃ (i : Nat) (A : List (Int × Int)) (li : List α), y = .int .i64 (i : Int) ∧ i ≤ n ∧ Hid (A.length = i) ∧ Hid (RowF wq w.heap.size g n A (n - i)) ∧ Hid (Mo w wq rb) ∧ Hid (RD wq li) ∧ Hid (getRS C 5000 l = (match getR C (n - i) li with | none => none | some (R, u2) => some (A ++ R, u2)))) (fun y _ => n - (intOf y).toNat)
      case atStart =>
        refine ⟨0, [], u, rfl, by omega, rfl, HRow.out, HMW.out, HRD.out, ?_⟩
        show _ = _
        rw [HGR2.out, Nat.sub_zero]
        cases getR C n u <;> rfl
      case round =>
        clear HRow HMW HRD HGR2
        obtain ⟨i, A, li, rfl, hi, HA, HRow, HM, HRD, HG⟩ := hrel
        by_cases hil : i < n
        · have b1 : decide ((i : Int) < (n : Int)) = true := by simp; omega
          have b2 : (i : Int) < (n : Int) := by omega
          have ad1 : IntKind.i64.wrap ((i : Int) + 1) = (i : Int) + 1 := by simp [IntKind.wrap, IntKind.bits, IntKind.signed]; omega
          obtain ⟨k, hk⟩ : ∃ k, n - i = k + 1 := ⟨n - i - 1, by omega⟩
          rw [hk] at HRow HG
          have HKL : Hid (A.length + (k + 1) = n) := by show _ = _; rw [HA.out]; omega
          have HK := hid hk
          have hrlt := hr.lt _ _ HRD.out
          clear hk
          cases hg1 : C.get li with
          | none =>
            have C1 := hN.none HRD.out hg1
            go_wp2_with (with_reducible refine C1.mono ?_; rintro e w2 ⟨rfl, hM2⟩)
            exact ⟨rfl, HM.out.trans hM2, .inl ⟨by rw [HG.out, getR_none1 hg1], rfl⟩⟩
          | some p =>
            obtain ⟨lo, u1⟩ := p
            have C1 := hN.some HRD.out hg1
            cases hg2 : C.get u1 with
            | none =>
              have C2 : ∀ W, RD W u1 → _ := fun W hW => hN.none (w := W) hW hg2
              have HN0 : Hid (getRS C 5000 l = none) := by show _ = _; rw [HG.out, getR_none2 hg1 hg2]
              clear hg1 hg2 HG
              go_wp2_with (first | (with_reducible refine C1.mono ?_; rintro e w2 ⟨rfl, hR2, hM2⟩; obtain ⟨⟨v0, k0⟩, f0, _, _⟩ := HRow.out.at_ hgr hM2 HKL.out; rw [HA.out] at k0 f0; have HM2 := hid hM2; have D2 := C2 _ (hr.kept _ _ _ hR2 (Below.heap_setCell _ ⟨g, i * 2, none⟩ (.int .i64 (lo : Int)) _ (by exact Ne.symm hgr)) (fun b hb => Below.heap_setCell _ _ _ _ (by have := hr.low; have := hr.lt _ _ hR2; simp; omega))); clear hM2 hR2 C1) | (with_reducible refine D2.mono ?_; rintro e w3 ⟨rfl, hM3⟩))
              have hg2w : w.heap.size ≤ g := hgw
              exact ⟨rfl, ((HM.out.trans HM2.out).setNew (a := ⟨g, i * 2, none⟩) _ hgw).trans hM3, .inl ⟨HN0.out, rfl⟩⟩
            | some p =>
              obtain ⟨hh, u2⟩ := p
              have C2 : ∀ W, RD W u1 → _ := fun W hW => hN.some (w := W) hW hg2
              have HG2 := hid (getR_some (k := k) hg1 hg2)
              clear hg1 hg2
              go_wp2_with (first | (with_reducible refine C1.mono ?_; rintro e w2 ⟨rfl, hR2, hM2⟩; obtain ⟨⟨v0, k0⟩, f0, _, _⟩ := HRow.out.at_ hgr hM2 HKL.out; rw [HA.out] at k0 f0; have HM2 := hid hM2; have D2 := C2 _ (hr.kept _ _ _ hR2 (Below.heap_setCell _ ⟨g, i * 2, none⟩ (.int .i64 (lo : Int)) _ (by exact Ne.symm hgr)) (fun b hb => Below.heap_setCell _ _ _ _ (by have := hr.low; have := hr.lt _ _ hR2; simp; omega))); clear hM2 hR2 C1) | (with_reducible refine D2.mono ?_; rintro e w3 ⟨rfl, hR3, hM3⟩; obtain ⟨⟨v1, k1⟩, f1⟩ := HRow.out.mid (lo := (lo : Int)) hgr HM2.out (by rw [HA.out]; exact hM3) HKL.out; rw [HA.out] at k1 f1; have HM3 := hid hM3; have HR3 := hid hR3; clear hM3 hR3 D2))
              have hrow := HRow.out.set (hi := (hh : Int)) hgr HM2.out (by rw [HA.out]; exact HM3.out)
              rw [HA.out] at hrow
              refine ⟨⟨i + 1, A ++ [((lo : Int), (hh : Int))], u2, by push_cast; rfl, by omega, by show _ = _; rw [List.length_append, HA.out]; rfl, ?_, ?_, ?_, ?_⟩, by simp [intOf]; omega⟩
              · rw [show n - (i + 1) = k by have := HK.out; omega]; exact hrow
              · exact (((HM.out.trans HM2.out).setNew (a := ⟨g, i * 2, none⟩) _ hgw).trans HM3.out).setNew (a := ⟨g, i * 2 + 1, none⟩) _ hgw
              · exact hr.kept _ _ _ HR3.out (Below.heap_setCell _ ⟨g, i * 2 + 1, none⟩ (.int .i64 (hh : Int)) _ (by exact Ne.symm hgr)) (fun b hb => Below.heap_setCell _ _ _ _ (by have := hr.low; have := hr.lt _ _ HR3.out; simp; omega))
              · show _ = _
                rw [show n - (i + 1) = k by have := HK.out; omega, HG.out, HG2.out]
                cases getR C k u2 with
                | none => rfl
                | some p => simp
        · have b1 : decide ((i : Int) < (n : Int)) = false := by simp; omega
          obtain rfl : i = n := by omega
          rw [Nat.sub_self] at HRow HG
          go_wp2
          all_goals go_ret
          have e0 : A ++ List.replicate 0 ((0 : Int), (0 : Int)) = A := by simp
          have hrow := HRow.out
          unfold RowF at hrow
          rw [e0] at hrow
          refine ⟨HM.out, .inr ⟨A, li, g, ?_, ?_, ?_, HRD.out⟩⟩
          · rw [HG.out]; simp [getR]
          · rw [HA.out]; rfl
          · rw [HA.out]; exact hrow
end Go.Proofs.YteanndophopplaaDoor
/- HELPERS: an instruction's fields out of a reader. -/
namespace Go.Proofs.YteanndophopplaaDoor
open Go.RowKit
set_option linter.unusedVariables false
set_option linter.unusedSimpArgs false
theorem getF_1 {α : Type} {C : Codec α} {L : Nat} {l : List α} : getF C L 1 l = (match C.get l with | none => none | some (x, l1) => match getRS C L l1 with | none => none | some (R, u) => some (⟨1, x, 0, 0, R⟩, u)) := by
  unfold getF getRS
  simp only [if_true]
  cases C.get l with
  | none => rfl
  | some p =>
    simp only
    cases C.get p.2 with
    | none => rfl
    | some q =>
      simp only
      by_cases h : L < q.1
      · rw [if_pos h, if_pos h]
      · rw [if_neg h, if_neg h]; cases getR C q.1 q.2 <;> rfl
theorem getF_2 {α : Type} {C : Codec α} {L : Nat} {l : List α} : getF C L 2 l = (match C.get l with | none => none | some (x, l1) => match C.get l1 with | none => none | some (y, u) => some (⟨2, x, y, 0, []⟩, u)) := by
  unfold getF; simp only [if_true]; rfl
theorem getF_3 {α : Type} {C : Codec α} {L : Nat} {l : List α} : getF C L 3 l = (match C.get l with | none => none | some (a, l1) => match C.get l1 with | none => none | some (x, u) => some (⟨3, x, 0, a, []⟩, u)) := by
  unfold getF; rfl
theorem getF_4 {α : Type} {C : Codec α} {L : Nat} {l : List α} : getF C L 4 l = (match C.get l with | none => none | some (a, l1) => match C.get l1 with | none => none | some (x, u) => some (⟨4, x, 0, a, []⟩, u)) := by
  unfold getF; rfl
theorem getF_5 {α : Type} {C : Codec α} {L : Nat} {l : List α} : getF C L 5 l = (match C.get l with | none => none | some (a, u) => some (⟨5, 0, 0, a, []⟩, u)) := by
  unfold getF; rfl
theorem getF_6 {α : Type} {C : Codec α} {L : Nat} {l : List α} : getF C L 6 l = some (⟨6, 0, 0, 0, []⟩, l) := by
  unfold getF; rfl
theorem getF_7 {α : Type} {C : Codec α} {L : Nat} {l : List α} : getF C L 7 l = (match C.get l with | none => none | some (x, u) => some (⟨7, x, 0, 0, []⟩, u)) := by
  unfold getF; rfl
theorem getF_no {α : Type} {C : Codec α} {L op : Nat} {l : List α} (h : op < 1 ∨ 7 < op) : getF C L op l = none := by
  unfold getF
  rw [if_neg (by omega), if_neg (by omega), if_neg (by omega), if_neg (by omega), if_neg (by omega), if_neg (by omega)]
/-- what comes of fields that are taken -/
abbrev TFP {α : Type} (RD : World → List α → Prop) (w w' : World) (e : Ending) (I : In) (u : List α) : Prop := ∃ M : Iv, e = .returned M.v ∧ M.op = I.op ∧ M.x = I.x ∧ M.y = I.y ∧ M.a = I.a ∧ M.r2 = I.R.length ∧ w'.ownsRow w.heap.size 51 2 M.rv I.R.length (O2 I.R) ∧ RD w' u
abbrev TFPost {α : Type} (rb : Nat) (RD : World → List α → Prop) (C : Codec α) (op : Nat) (l : List α) (w : World) (e : Ending) (w' : World) : Prop := Mo w w' rb ∧ ((getF C 5000 op l = none ∧ e = Broke) ∨ ∃ I u, getF C 5000 op l = some (I, u) ∧ TFP RD w w' e I u)
abbrev B5 (w : World) (b : Nat) (v0 v1 v2 v3 v4 : Value) : Prop := w.heap[b]? = some (.cells #[v0, v1, v2, v3, v4] 49 (0, 0))
theorem frz5 {w : World} {b : Nat} {v0 v1 v2 v3 v4 : Value} (h : B5 w b v0 v1 v2 v3 v4) : w.frozen? ⟨b, 0, none⟩ = false ∧ w.frozen? ⟨b, 1, none⟩ = false ∧ w.frozen? ⟨b, 2, none⟩ = false ∧ w.frozen? ⟨b, 3, none⟩ = false ∧ w.frozen? ⟨b, 4, none⟩ = false :=
  ⟨Joins.unfrozen_of_block h 0, Joins.unfrozen_of_block h 1, Joins.unfrozen_of_block h 2, Joins.unfrozen_of_block h 3, Joins.unfrozen_of_block h 4⟩
theorem B5.set1 {w : World} {b : Nat} {v0 v1 v2 v3 v4 : Value} (h : B5 w b v0 v1 v2 v3 v4) (u : Value) : B5 (w.setCell ⟨b, 1, none⟩ u) b v0 u v2 v3 v4 := Joins.block_setCell h u
theorem B5.set2 {w : World} {b : Nat} {v0 v1 v2 v3 v4 : Value} (h : B5 w b v0 v1 v2 v3 v4) (u : Value) : B5 (w.setCell ⟨b, 2, none⟩ u) b v0 v1 u v3 v4 := Joins.block_setCell h u
theorem B5.set3 {w : World} {b : Nat} {v0 v1 v2 v3 v4 : Value} (h : B5 w b v0 v1 v2 v3 v4) (u : Value) : B5 (w.setCell ⟨b, 3, none⟩ u) b v0 v1 v2 u v4 := Joins.block_setCell h u
theorem B5.set4 {w : World} {b : Nat} {v0 v1 v2 v3 v4 : Value} (h : B5 w b v0 v1 v2 v3 v4) (u : Value) : B5 (w.setCell ⟨b, 4, none⟩ u) b v0 v1 v2 v3 u := Joins.block_setCell h u
/-- five cells are written -/
theorem all5 {w : World} {b : Nat} {v0 v1 v2 v3 v4 : Value} (h : B5 w b v0 v1 v2 v3 v4) (u0 u1 u2 u3 u4 : Value) : B5 (((((w.setCell ⟨b, 0, none⟩ u0).setCell ⟨b, 1, none⟩ u1).setCell ⟨b, 2, none⟩ u2).setCell ⟨b, 3, none⟩ u3).setCell ⟨b, 4, none⟩ u4) b u0 u1 u2 u3 u4 :=
  Joins.block_setCell (Joins.block_setCell (Joins.block_setCell (Joins.block_setCell (Joins.block_setCell h u0) u1) u2) u3) u4
theorem Mo.set5 {w w' : World} {rb b : Nat} (h : Mo w w' rb) (hb : w.heap.size ≤ b) (u0 u1 u2 u3 u4 : Value) : Mo w (((((w'.setCell ⟨b, 0, none⟩ u0).setCell ⟨b, 1, none⟩ u1).setCell ⟨b, 2, none⟩ u2).setCell ⟨b, 3, none⟩ u3).setCell ⟨b, 4, none⟩ u4) rb :=
  ((((h.setNew (a := ⟨b, 0, none⟩) u0 hb).setNew (a := ⟨b, 1, none⟩) u1 hb).setNew (a := ⟨b, 2, none⟩) u2 hb).setNew (a := ⟨b, 3, none⟩) u3 hb).setNew (a := ⟨b, 4, none⟩) u4 hb
theorem set5_old {w : World} {b k : Nat} (h : k ≠ b) (u0 u1 u2 u3 u4 : Value) : (((((w.setCell ⟨b, 0, none⟩ u0).setCell ⟨b, 1, none⟩ u1).setCell ⟨b, 2, none⟩ u2).setCell ⟨b, 3, none⟩ u3).setCell ⟨b, 4, none⟩ u4).heap[k]? = w.heap[k]? := by
  rw [Below.heap_setCell _ _ _ _ h, Below.heap_setCell _ _ _ _ h, Below.heap_setCell _ _ _ _ h, Below.heap_setCell _ _ _ _ h, Below.heap_setCell _ _ _ _ h]
abbrev zI : Value := .int .i64 0
abbrev nilS : Value := .slice none 0 0
/-- where taking begins: two boxes -/
structure T0 {α : Type} (RD : World → List α → Prop) (rb : Nat) (w W : World) (op : Int) (l : List α) : Prop where
  y : B5 W w.heap.size zI zI zI zI nilS
  x : B5 W (w.heap.size + 1) (.int .i64 op) zI zI zI nilS
  mo : Mo w W rb
  rd : RD W l
  lt : rb < w.heap.size
theorem T0.mk' {α : Type} {B rb : Nat} {RD : World → List α → Prop} (hr : Rdr B rb RD) {w : World} {l : List α} (h : RD w l) (op : Int) : T0 RD rb w ((w.alloc (.cells #[zI, zI, zI, zI, nilS] 49)).alloc (.cells #[.int .i64 op, zI, zI, zI, nilS] 49)) op l := by
  have hlt := hr.lt _ _ h
  have hlow := hr.low
  refine ⟨(heap_alloc_old _ _ (by simp)).trans (heap_alloc_new _ _), ?_, (Mo.alloc _ _ _).trans (Mo.alloc _ _ _), ?_, hlt⟩
  · have := heap_alloc_new (w.alloc (.cells #[zI, zI, zI, zI, nilS] 49)) (.cells #[.int .i64 op, zI, zI, zI, nilS] 49)
    have h2 : (w.alloc (.cells #[zI, zI, zI, zI, nilS] 49)).heap.size = w.heap.size + 1 := by simp
    rw [h2] at this; exact this
  · exact hr.kept _ _ _ h ((heap_alloc_old _ _ (by simp; omega)).trans (heap_alloc_old _ _ hlt)) (fun b hb => (heap_alloc_old _ _ (by simp; omega)).trans (heap_alloc_old _ _ (by omega)))
/-- a box of instructions behind a call that turns the reader alone -/
theorem B5.mo {w w' : World} {b rb : Nat} {v0 v1 v2 v3 v4 : Value} (h : B5 w b v0 v1 v2 v3 v4) (hm : Mo w w' rb) (hb : b ≠ rb) : B5 w' b v0 v1 v2 v3 v4 := (hm.block b (Array.getElem?_eq_some_iff.1 h).1 hb).trans h
/-- a cell of another box is written -/
theorem Rdr.set {α : Type} {B rb : Nat} {RD : World → List α → Prop} (hr : Rdr B rb RD) {w : World} {l : List α} (h : RD w l) {a : Addr} (v : Value) (ha : rb < a.block) : RD (w.setCell a v) l :=
  hr.kept _ _ _ h (Below.heap_setCell _ _ _ _ (by omega)) (fun b hb => Below.heap_setCell _ _ _ _ (by have := hr.low; omega))
theorem Rdr.set5 {α : Type} {B rb : Nat} {RD : World → List α → Prop} (hr : Rdr B rb RD) {w : World} {l : List α} (h : RD w l) {b : Nat} (hb : rb < b) (u0 u1 u2 u3 u4 : Value) : RD (((((w.setCell ⟨b, 0, none⟩ u0).setCell ⟨b, 1, none⟩ u1).setCell ⟨b, 2, none⟩ u2).setCell ⟨b, 3, none⟩ u3).setCell ⟨b, 4, none⟩ u4) l :=
  hr.set (hr.set (hr.set (hr.set (hr.set h u0 hb) u1 hb) u2 hb) u3 hb) u4 hb
set_option maxRecDepth 100000 in
set_option maxHeartbeats 4000000 in
theorem take_1 {α : Type} {f B rb : Nat} {RD : World → List α → Prop} {C : Codec α} (hN : NumR f rb RD C) (hf : Enters f) (hr : Rdr B rb RD) {w : World} {l : List α} (h : RD w l) :
    Calls Tryd.prog 51 #[.int .i64 1, mv f rb] w (TFPost rb RD C 1 l w) := by
  have hT := T0.mk' hr h 1
  obtain ⟨W, hW⟩ : ∃ W, W = (w.alloc (.cells #[zI, zI, zI, zI, nilS] 49)).alloc (.cells #[.int .i64 1, zI, zI, zI, nilS] 49) := ⟨_, rfl⟩
  rw [← hW] at hT
  have HT := hid hT
  have HW := hid hW
  have hlt := hT.lt
  obtain ⟨xb, hxb⟩ : ∃ xb, w.heap.size + 1 = xb := ⟨_, rfl⟩
  have HXB := hid hxb
  have hx1 : w.heap.size < xb := by omega
  have hx2 : rb < xb := by omega
  have hnx : xb ≠ rb := by omega
  have hny : w.heap.size ≠ rb := by omega
  have hX0 : B5 W xb (.int .i64 1) zI zI zI nilS := by rw [← hxb]; exact hT.x
  cases hg1 : C.get l with
  | none =>
    have C1 := hN.none hT.rd hg1
    clear hT hW hxb h hX0
    go_enter Tryd.func51, Tryd.ntmps51
    go_upto_region 2 with fail
    rw [← HW.out, HXB.out]
    go_wp2_with (with_reducible refine C1.mono ?_; rintro e w1 ⟨rfl, hM1⟩)
    exact ⟨rfl, HT.out.mo.trans hM1, .inl ⟨by rw [getF_1, hg1], rfl⟩⟩
  | some p =>
    obtain ⟨n1, u1⟩ := p
    have C1 := hN.some hT.rd hg1
    have C2 : ∀ V, RD V u1 → _ := fun V hV => takeRanges67 (w := V) hN hf hr hV
    cases hg2 : getRS C 5000 u1 with
    | none =>
      have D : ∀ V, RD V u1 → Calls Tryd.prog 67 #[mv f rb] V fun e w' => e = Broke ∧ Mo V w' rb := fun V hV => (C2 V hV).mono (by
        rintro e w' ⟨hM, ⟨_, rfl⟩ | ⟨R, u, g, h2, _⟩⟩
        · exact ⟨rfl, hM⟩
        · rw [hg2] at h2; cases h2)
      have HX0 := hid hX0
      clear hT hW hxb h hX0
      go_enter Tryd.func51, Tryd.ntmps51
      go_upto_region 2 with fail
      rw [← HW.out, HXB.out]
      go_wp2_with (first | (with_reducible refine C1.mono ?_; rintro e w1 ⟨rfl, hR1, hM1⟩; obtain ⟨k0, k1, k2, k3, k4⟩ := five (HX0.out.mo hM1 hnx); obtain ⟨f0, f1, f2, f3, f4⟩ := frz5 (HX0.out.mo hM1 hnx); have hX1 : B5 (w1.setCell ⟨xb, 1, none⟩ (.int .i64 (n1 : Int))) xb (.int .i64 1) (.int .i64 (n1 : Int)) zI zI nilS := B5.set1 (HX0.out.mo hM1 hnx) (Value.int .i64 (n1 : Int)); have hY1 : B5 (w1.setCell ⟨xb, 1, none⟩ (.int .i64 (n1 : Int))) w.heap.size zI zI zI zI nilS := (Below.heap_setCell _ ⟨xb, 1, none⟩ _ _ (by exact Nat.ne_of_lt hx1)).trans (HT.out.y.mo hM1 hny); have hRD1 := hr.set hR1 (a := ⟨xb, 1, none⟩) (Value.int .i64 (n1 : Int)) (by exact hx2); have hMo1 : Mo w (w1.setCell ⟨xb, 1, none⟩ (.int .i64 (n1 : Int))) rb := (HT.out.mo.trans hM1).setNew (a := ⟨xb, 1, none⟩) _ (by exact Nat.le_of_lt hx1); have C3 := D _ hRD1; have HMo1 := hid hMo1; clear hX1 hY1 hRD1 hMo1; clear hR1 hM1 C1) | (go_at_call 67; with_reducible refine C3.mono ?_; rintro e w2 ⟨rfl, hM2⟩))
      exact ⟨rfl, HMo1.out.trans hM2, .inl ⟨by rw [getF_1, hg1]; simp only; rw [hg2], rfl⟩⟩
    | some p =>
      obtain ⟨R, u2⟩ := p
      have D : ∀ V, RD V u1 → Calls Tryd.prog 67 #[mv f rb] V fun e w' => Mo V w' rb ∧ ∃ g, e = .returned (.slice (some ⟨g, 0, none⟩) R.length R.length) ∧ w'.ownsRow V.heap.size 51 2 (.slice (some ⟨g, 0, none⟩) R.length R.length) R.length (O2 R) ∧ RD w' u2 := fun V hV => (C2 V hV).mono (by
        rintro e w' ⟨hM, ⟨h2, _⟩ | ⟨R', u', g, h2, rfl, h3, h4⟩⟩
        · rw [hg2] at h2; cases h2
        · rw [hg2] at h2; cases h2; exact ⟨hM, g, rfl, h3, h4⟩)
      obtain ⟨rn, hrn⟩ : ∃ rn, rn = R.length := ⟨_, rfl⟩
      rw [← hrn] at D
      have HRN := hid hrn
      clear hrn
      have HX0 := hid hX0
      clear hT hW hxb h hX0
      go_enter Tryd.func51, Tryd.ntmps51
      go_upto_region 2 with fail
      rw [← HW.out, HXB.out]
      go_wp2_with (first | (with_reducible refine C1.mono ?_; rintro e w1 ⟨rfl, hR1, hM1⟩; obtain ⟨k0, k1, k2, k3, k4⟩ := five (HX0.out.mo hM1 hnx); obtain ⟨f0, f1, f2, f3, f4⟩ := frz5 (HX0.out.mo hM1 hnx); have hX1 : B5 (w1.setCell ⟨xb, 1, none⟩ (.int .i64 (n1 : Int))) xb (.int .i64 1) (.int .i64 (n1 : Int)) zI zI nilS := B5.set1 (HX0.out.mo hM1 hnx) (Value.int .i64 (n1 : Int)); have hY1 : B5 (w1.setCell ⟨xb, 1, none⟩ (.int .i64 (n1 : Int))) w.heap.size zI zI zI zI nilS := (Below.heap_setCell _ ⟨xb, 1, none⟩ _ _ (by exact Nat.ne_of_lt hx1)).trans (HT.out.y.mo hM1 hny); have hRD1 := hr.set hR1 (a := ⟨xb, 1, none⟩) (Value.int .i64 (n1 : Int)) (by exact hx2); have hMo1 : Mo w (w1.setCell ⟨xb, 1, none⟩ (.int .i64 (n1 : Int))) rb := (HT.out.mo.trans hM1).setNew (a := ⟨xb, 1, none⟩) _ (by exact Nat.le_of_lt hx1); have C3 := D _ hRD1; have HMo1 := hid hMo1; have HX1 := hid hX1; have HY1 := hid hY1; clear hX1 hY1 hRD1 hMo1; clear hR1 hM1 C1) | (go_at_call 67; with_reducible refine C3.mono ?_; rintro e w2 ⟨hM2, g, rfl, hrow, hR2⟩; obtain ⟨k0, k1, k2, k3, k4⟩ := five (HX1.out.mo hM2 hnx); obtain ⟨f0, f1, f2, f3, f4⟩ := frz5 (HX1.out.mo hM2 hnx); have hX2 : B5 (w2.setCell ⟨xb, 4, none⟩ (.slice (some ⟨g, 0, none⟩) rn rn)) xb (.int .i64 1) (.int .i64 (n1 : Int)) zI zI (.slice (some ⟨g, 0, none⟩) rn rn) := B5.set4 (HX1.out.mo hM2 hnx) (.slice (some ⟨g, 0, none⟩) rn rn); have hY2 : B5 (w2.setCell ⟨xb, 4, none⟩ (.slice (some ⟨g, 0, none⟩) rn rn)) w.heap.size zI zI zI zI nilS := (Below.heap_setCell _ ⟨xb, 4, none⟩ _ _ (by exact Nat.ne_of_lt hx1)).trans (HY1.out.mo hM2 hny); obtain ⟨e0, e1, e2, e3, e4⟩ := five hX2; obtain ⟨g0, g1, g2, g3, g4⟩ := frz5 hY2; obtain ⟨q0, q1, q2, q3, q4⟩ := five hY2; have HYF := hid hY2; have HRF := hid (hr.set hR2 (a := ⟨xb, 4, none⟩) (.slice (some ⟨g, 0, none⟩) rn rn) (by exact hx2)); have HMF := hid ((HMo1.out.trans hM2).setNew (a := ⟨xb, 4, none⟩) (.slice (some ⟨g, 0, none⟩) rn rn) (by exact Nat.le_of_lt hx1)); have HROW := hid hrow; have HSZ := hid HMo1.out.size; have hgx : g ≠ xb := (by have a := (hrow.lt g rfl).1; have b := (Array.getElem?_eq_some_iff.1 HX1.out).1; omega); have hgy : g ≠ w.heap.size := (by have a := (hrow.lt g rfl).1; have b := (Array.getElem?_eq_some_iff.1 HX1.out).1; omega); have hwg : w.heap.size ≤ g := (by have a := (hrow.lt g rfl).1; have b := (Array.getElem?_eq_some_iff.1 HX1.out).1; omega); clear hrow; clear hX2 hY2 hR2 hM2 C3))
      all_goals
        refine bodyPost_ret (results_cell_row rfl _ _ w.heap.size 49 _ (0, 0) _ rfl (all5 HYF.out _ _ _ _ _) Tryd.underlying49 rfl (by kernel_rfl)) rfl ?_
        refine ⟨HMF.out.set5 (Nat.le_refl _) _ _ _ _ _, .inr ⟨⟨1, n1, 0, 0, R⟩, u2, by rw [getF_1, hg1]; simp only; rw [hg2], ⟨1, n1, 0, 0, some ⟨g, 0, none⟩, rn, rn⟩, rfl, rfl, rfl, rfl, rfl, HRN.out, ?_, hr.set5 HRF.out hlt _ _ _ _ _⟩⟩
        rw [← HRN.out]
        refine own_wide (row_kept HROW.out (fun b e => ?_)) HSZ.out
        simp [Value.ownBlock] at e
        subst e
        rw [set5_old hgy]
        exact Below.heap_setCell _ _ _ _ hgx
set_option maxRecDepth 100000 in
set_option maxHeartbeats 4000000 in
theorem take_2 {α : Type} {f B rb : Nat} {RD : World → List α → Prop} {C : Codec α} (hN : NumR f rb RD C) (hf : Enters f) (hr : Rdr B rb RD) {w : World} {l : List α} (h : RD w l) :
    Calls Tryd.prog 51 #[.int .i64 2, mv f rb] w (TFPost rb RD C 2 l w) := by
  have hT := T0.mk' hr h 2
  obtain ⟨W, hW⟩ : ∃ W, W = (w.alloc (.cells #[zI, zI, zI, zI, nilS] 49)).alloc (.cells #[.int .i64 2, zI, zI, zI, nilS] 49) := ⟨_, rfl⟩
  rw [← hW] at hT
  have HT := hid hT
  have HW := hid hW
  have hlt := hT.lt
  obtain ⟨xb, hxb⟩ : ∃ xb, w.heap.size + 1 = xb := ⟨_, rfl⟩
  have HXB := hid hxb
  have hx1 : w.heap.size < xb := by omega
  have hx2 : rb < xb := by omega
  have hnx : xb ≠ rb := by omega
  have hny : w.heap.size ≠ rb := by omega
  have hX0 : B5 W xb (.int .i64 2) zI zI zI nilS := by rw [← hxb]; exact hT.x
  cases hg1 : C.get l with
  | none =>
    have C1 := hN.none hT.rd hg1
    clear hT hW hxb h hX0
    go_enter Tryd.func51, Tryd.ntmps51
    go_upto_region 2 with fail
    rw [← HW.out, HXB.out]
    go_wp2_with (with_reducible refine C1.mono ?_; rintro e w1 ⟨rfl, hM1⟩)
    exact ⟨rfl, HT.out.mo.trans hM1, .inl ⟨by rw [getF_2, hg1], rfl⟩⟩
  | some p =>
    obtain ⟨n1, u1⟩ := p
    have C1 := hN.some hT.rd hg1
    cases hg2 : C.get u1 with
    | none =>
      have D : ∀ V, RD V u1 → Calls Tryd.prog f #[pt rb] V fun e w' => e = Broke ∧ Mo V w' rb := fun V hV => hN.none hV hg2
      have HX0 := hid hX0
      clear hT hW hxb h hX0
      go_enter Tryd.func51, Tryd.ntmps51
      go_upto_region 2 with fail
      rw [← HW.out, HXB.out]
      go_wp2_with (first | (with_reducible refine C1.mono ?_; rintro e w1 ⟨rfl, hR1, hM1⟩; obtain ⟨k0, k1, k2, k3, k4⟩ := five (HX0.out.mo hM1 hnx); obtain ⟨f0, f1, f2, f3, f4⟩ := frz5 (HX0.out.mo hM1 hnx); have hX1 : B5 (w1.setCell ⟨xb, 1, none⟩ (.int .i64 (n1 : Int))) xb (.int .i64 2) (.int .i64 (n1 : Int)) zI zI nilS := B5.set1 (HX0.out.mo hM1 hnx) (Value.int .i64 (n1 : Int)); have hY1 : B5 (w1.setCell ⟨xb, 1, none⟩ (.int .i64 (n1 : Int))) w.heap.size zI zI zI zI nilS := (Below.heap_setCell _ ⟨xb, 1, none⟩ _ _ (by exact Nat.ne_of_lt hx1)).trans (HT.out.y.mo hM1 hny); have hRD1 := hr.set hR1 (a := ⟨xb, 1, none⟩) (Value.int .i64 (n1 : Int)) (by exact hx2); have hMo1 : Mo w (w1.setCell ⟨xb, 1, none⟩ (.int .i64 (n1 : Int))) rb := (HT.out.mo.trans hM1).setNew (a := ⟨xb, 1, none⟩) _ (by exact Nat.le_of_lt hx1); have C3 := D _ hRD1; have HMo1 := hid hMo1; clear hX1 hY1 hRD1 hMo1; clear hR1 hM1 C1) | (with_reducible refine C3.mono ?_; rintro e w2 ⟨rfl, hM2⟩))
      exact ⟨rfl, HMo1.out.trans hM2, .inl ⟨by rw [getF_2, hg1]; simp only; rw [hg2], rfl⟩⟩
    | some p =>
      obtain ⟨n2, u2⟩ := p
      have D : ∀ V, RD V u1 → Calls Tryd.prog f #[pt rb] V fun e w' => e = .returned (.int .i64 (n2 : Int)) ∧ RD w' u2 ∧ Mo V w' rb := fun V hV => hN.some hV hg2
      have HX0 := hid hX0
      clear hT hW hxb h hX0
      go_enter Tryd.func51, Tryd.ntmps51
      go_upto_region 2 with fail
      rw [← HW.out, HXB.out]
      go_wp2_with (first | (with_reducible refine C1.mono ?_; rintro e w1 ⟨rfl, hR1, hM1⟩; obtain ⟨k0, k1, k2, k3, k4⟩ := five (HX0.out.mo hM1 hnx); obtain ⟨f0, f1, f2, f3, f4⟩ := frz5 (HX0.out.mo hM1 hnx); have hX1 : B5 (w1.setCell ⟨xb, 1, none⟩ (.int .i64 (n1 : Int))) xb (.int .i64 2) (.int .i64 (n1 : Int)) zI zI nilS := B5.set1 (HX0.out.mo hM1 hnx) (Value.int .i64 (n1 : Int)); have hY1 : B5 (w1.setCell ⟨xb, 1, none⟩ (.int .i64 (n1 : Int))) w.heap.size zI zI zI zI nilS := (Below.heap_setCell _ ⟨xb, 1, none⟩ _ _ (by exact Nat.ne_of_lt hx1)).trans (HT.out.y.mo hM1 hny); have hRD1 := hr.set hR1 (a := ⟨xb, 1, none⟩) (Value.int .i64 (n1 : Int)) (by exact hx2); have hMo1 : Mo w (w1.setCell ⟨xb, 1, none⟩ (.int .i64 (n1 : Int))) rb := (HT.out.mo.trans hM1).setNew (a := ⟨xb, 1, none⟩) _ (by exact Nat.le_of_lt hx1); have C3 := D _ hRD1; have HMo1 := hid hMo1; have HX1 := hid hX1; have HY1 := hid hY1; clear hX1 hY1 hRD1 hMo1; clear hR1 hM1 C1) | (with_reducible refine C3.mono ?_; rintro e w2 ⟨rfl, hR2, hM2⟩; obtain ⟨k0, k1, k2, k3, k4⟩ := five (HX1.out.mo hM2 hnx); obtain ⟨f0, f1, f2, f3, f4⟩ := frz5 (HX1.out.mo hM2 hnx); have hX2 : B5 (w2.setCell ⟨xb, 2, none⟩ (.int .i64 (n2 : Int))) xb (.int .i64 2) (.int .i64 (n1 : Int)) (.int .i64 (n2 : Int)) zI nilS := B5.set2 (HX1.out.mo hM2 hnx) (.int .i64 (n2 : Int)); have hY2 : B5 (w2.setCell ⟨xb, 2, none⟩ (.int .i64 (n2 : Int))) w.heap.size zI zI zI zI nilS := (Below.heap_setCell _ ⟨xb, 2, none⟩ _ _ (by exact Nat.ne_of_lt hx1)).trans (HY1.out.mo hM2 hny); obtain ⟨e0, e1, e2, e3, e4⟩ := five hX2; obtain ⟨g0, g1, g2, g3, g4⟩ := frz5 hY2; obtain ⟨q0, q1, q2, q3, q4⟩ := five hY2; have HYF := hid hY2; have HRF := hid (hr.set hR2 (a := ⟨xb, 2, none⟩) (.int .i64 (n2 : Int)) (by exact hx2)); have HMF := hid ((HMo1.out.trans hM2).setNew (a := ⟨xb, 2, none⟩) (.int .i64 (n2 : Int)) (by exact Nat.le_of_lt hx1));  clear hX2 hY2 hR2 hM2 C3))
      all_goals
        refine bodyPost_ret (results_cell_row rfl _ _ w.heap.size 49 _ (0, 0) _ rfl (all5 HYF.out _ _ _ _ _) Tryd.underlying49 rfl (by kernel_rfl)) rfl ?_
        refine ⟨HMF.out.set5 (Nat.le_refl _) _ _ _ _ _, .inr ⟨⟨2, n1, n2, 0, []⟩, u2, by rw [getF_2, hg1]; simp only; rw [hg2], ⟨2, n1, n2, 0, none, 0, 0⟩, rfl, rfl, rfl, rfl, rfl, rfl, World.ownsRow_nil _ _ _ _, hr.set5 HRF.out hlt _ _ _ _ _⟩⟩
set_option maxRecDepth 100000 in
set_option maxHeartbeats 4000000 in
theorem take_3 {α : Type} {f B rb : Nat} {RD : World → List α → Prop} {C : Codec α} (hN : NumR f rb RD C) (hf : Enters f) (hr : Rdr B rb RD) {w : World} {l : List α} (h : RD w l) :
    Calls Tryd.prog 51 #[.int .i64 3, mv f rb] w (TFPost rb RD C 3 l w) := by
  have hT := T0.mk' hr h 3
  obtain ⟨W, hW⟩ : ∃ W, W = (w.alloc (.cells #[zI, zI, zI, zI, nilS] 49)).alloc (.cells #[.int .i64 3, zI, zI, zI, nilS] 49) := ⟨_, rfl⟩
  rw [← hW] at hT
  have HT := hid hT
  have HW := hid hW
  have hlt := hT.lt
  obtain ⟨xb, hxb⟩ : ∃ xb, w.heap.size + 1 = xb := ⟨_, rfl⟩
  have HXB := hid hxb
  have hx1 : w.heap.size < xb := by omega
  have hx2 : rb < xb := by omega
  have hnx : xb ≠ rb := by omega
  have hny : w.heap.size ≠ rb := by omega
  have hX0 : B5 W xb (.int .i64 3) zI zI zI nilS := by rw [← hxb]; exact hT.x
  cases hg1 : C.get l with
  | none =>
    have C1 := hN.none hT.rd hg1
    clear hT hW hxb h hX0
    go_enter Tryd.func51, Tryd.ntmps51
    go_upto_region 2 with fail
    rw [← HW.out, HXB.out]
    go_wp2_with (with_reducible refine C1.mono ?_; rintro e w1 ⟨rfl, hM1⟩)
    exact ⟨rfl, HT.out.mo.trans hM1, .inl ⟨by rw [getF_3, hg1], rfl⟩⟩
  | some p =>
    obtain ⟨n1, u1⟩ := p
    have C1 := hN.some hT.rd hg1
    cases hg2 : C.get u1 with
    | none =>
      have D : ∀ V, RD V u1 → Calls Tryd.prog f #[pt rb] V fun e w' => e = Broke ∧ Mo V w' rb := fun V hV => hN.none hV hg2
      have HX0 := hid hX0
      clear hT hW hxb h hX0
      go_enter Tryd.func51, Tryd.ntmps51
      go_upto_region 2 with fail
      rw [← HW.out, HXB.out]
      go_wp2_with (first | (with_reducible refine C1.mono ?_; rintro e w1 ⟨rfl, hR1, hM1⟩; obtain ⟨k0, k1, k2, k3, k4⟩ := five (HX0.out.mo hM1 hnx); obtain ⟨f0, f1, f2, f3, f4⟩ := frz5 (HX0.out.mo hM1 hnx); have hX1 : B5 (w1.setCell ⟨xb, 3, none⟩ (.int .i64 (n1 : Int))) xb (.int .i64 3) zI zI (.int .i64 (n1 : Int)) nilS := B5.set3 (HX0.out.mo hM1 hnx) (Value.int .i64 (n1 : Int)); have hY1 : B5 (w1.setCell ⟨xb, 3, none⟩ (.int .i64 (n1 : Int))) w.heap.size zI zI zI zI nilS := (Below.heap_setCell _ ⟨xb, 3, none⟩ _ _ (by exact Nat.ne_of_lt hx1)).trans (HT.out.y.mo hM1 hny); have hRD1 := hr.set hR1 (a := ⟨xb, 3, none⟩) (Value.int .i64 (n1 : Int)) (by exact hx2); have hMo1 : Mo w (w1.setCell ⟨xb, 3, none⟩ (.int .i64 (n1 : Int))) rb := (HT.out.mo.trans hM1).setNew (a := ⟨xb, 3, none⟩) _ (by exact Nat.le_of_lt hx1); have C3 := D _ hRD1; have HMo1 := hid hMo1; clear hX1 hY1 hRD1 hMo1; clear hR1 hM1 C1) | (with_reducible refine C3.mono ?_; rintro e w2 ⟨rfl, hM2⟩))
      exact ⟨rfl, HMo1.out.trans hM2, .inl ⟨by rw [getF_3, hg1]; simp only; rw [hg2], rfl⟩⟩
    | some p =>
      obtain ⟨n2, u2⟩ := p
      have D : ∀ V, RD V u1 → Calls Tryd.prog f #[pt rb] V fun e w' => e = .returned (.int .i64 (n2 : Int)) ∧ RD w' u2 ∧ Mo V w' rb := fun V hV => hN.some hV hg2
      have HX0 := hid hX0
      clear hT hW hxb h hX0
      go_enter Tryd.func51, Tryd.ntmps51
      go_upto_region 2 with fail
      rw [← HW.out, HXB.out]
      go_wp2_with (first | (with_reducible refine C1.mono ?_; rintro e w1 ⟨rfl, hR1, hM1⟩; obtain ⟨k0, k1, k2, k3, k4⟩ := five (HX0.out.mo hM1 hnx); obtain ⟨f0, f1, f2, f3, f4⟩ := frz5 (HX0.out.mo hM1 hnx); have hX1 : B5 (w1.setCell ⟨xb, 3, none⟩ (.int .i64 (n1 : Int))) xb (.int .i64 3) zI zI (.int .i64 (n1 : Int)) nilS := B5.set3 (HX0.out.mo hM1 hnx) (Value.int .i64 (n1 : Int)); have hY1 : B5 (w1.setCell ⟨xb, 3, none⟩ (.int .i64 (n1 : Int))) w.heap.size zI zI zI zI nilS := (Below.heap_setCell _ ⟨xb, 3, none⟩ _ _ (by exact Nat.ne_of_lt hx1)).trans (HT.out.y.mo hM1 hny); have hRD1 := hr.set hR1 (a := ⟨xb, 3, none⟩) (Value.int .i64 (n1 : Int)) (by exact hx2); have hMo1 : Mo w (w1.setCell ⟨xb, 3, none⟩ (.int .i64 (n1 : Int))) rb := (HT.out.mo.trans hM1).setNew (a := ⟨xb, 3, none⟩) _ (by exact Nat.le_of_lt hx1); have C3 := D _ hRD1; have HMo1 := hid hMo1; have HX1 := hid hX1; have HY1 := hid hY1; clear hX1 hY1 hRD1 hMo1; clear hR1 hM1 C1) | (with_reducible refine C3.mono ?_; rintro e w2 ⟨rfl, hR2, hM2⟩; obtain ⟨k0, k1, k2, k3, k4⟩ := five (HX1.out.mo hM2 hnx); obtain ⟨f0, f1, f2, f3, f4⟩ := frz5 (HX1.out.mo hM2 hnx); have hX2 : B5 (w2.setCell ⟨xb, 1, none⟩ (.int .i64 (n2 : Int))) xb (.int .i64 3) (.int .i64 (n2 : Int)) zI (.int .i64 (n1 : Int)) nilS := B5.set1 (HX1.out.mo hM2 hnx) (.int .i64 (n2 : Int)); have hY2 : B5 (w2.setCell ⟨xb, 1, none⟩ (.int .i64 (n2 : Int))) w.heap.size zI zI zI zI nilS := (Below.heap_setCell _ ⟨xb, 1, none⟩ _ _ (by exact Nat.ne_of_lt hx1)).trans (HY1.out.mo hM2 hny); obtain ⟨e0, e1, e2, e3, e4⟩ := five hX2; obtain ⟨g0, g1, g2, g3, g4⟩ := frz5 hY2; obtain ⟨q0, q1, q2, q3, q4⟩ := five hY2; have HYF := hid hY2; have HRF := hid (hr.set hR2 (a := ⟨xb, 1, none⟩) (.int .i64 (n2 : Int)) (by exact hx2)); have HMF := hid ((HMo1.out.trans hM2).setNew (a := ⟨xb, 1, none⟩) (.int .i64 (n2 : Int)) (by exact Nat.le_of_lt hx1));  clear hX2 hY2 hR2 hM2 C3))
      all_goals
        refine bodyPost_ret (results_cell_row rfl _ _ w.heap.size 49 _ (0, 0) _ rfl (all5 HYF.out _ _ _ _ _) Tryd.underlying49 rfl (by kernel_rfl)) rfl ?_
        refine ⟨HMF.out.set5 (Nat.le_refl _) _ _ _ _ _, .inr ⟨⟨3, n2, 0, n1, []⟩, u2, by rw [getF_3, hg1]; simp only; rw [hg2], ⟨3, n2, 0, n1, none, 0, 0⟩, rfl, rfl, rfl, rfl, rfl, rfl, World.ownsRow_nil _ _ _ _, hr.set5 HRF.out hlt _ _ _ _ _⟩⟩
set_option maxRecDepth 100000 in
set_option maxHeartbeats 4000000 in
theorem take_4 {α : Type} {f B rb : Nat} {RD : World → List α → Prop} {C : Codec α} (hN : NumR f rb RD C) (hf : Enters f) (hr : Rdr B rb RD) {w : World} {l : List α} (h : RD w l) :
    Calls Tryd.prog 51 #[.int .i64 4, mv f rb] w (TFPost rb RD C 4 l w) := by
  have hT := T0.mk' hr h 4
  obtain ⟨W, hW⟩ : ∃ W, W = (w.alloc (.cells #[zI, zI, zI, zI, nilS] 49)).alloc (.cells #[.int .i64 4, zI, zI, zI, nilS] 49) := ⟨_, rfl⟩
  rw [← hW] at hT
  have HT := hid hT
  have HW := hid hW
  have hlt := hT.lt
  obtain ⟨xb, hxb⟩ : ∃ xb, w.heap.size + 1 = xb := ⟨_, rfl⟩
  have HXB := hid hxb
  have hx1 : w.heap.size < xb := by omega
  have hx2 : rb < xb := by omega
  have hnx : xb ≠ rb := by omega
  have hny : w.heap.size ≠ rb := by omega
  have hX0 : B5 W xb (.int .i64 4) zI zI zI nilS := by rw [← hxb]; exact hT.x
  cases hg1 : C.get l with
  | none =>
    have C1 := hN.none hT.rd hg1
    clear hT hW hxb h hX0
    go_enter Tryd.func51, Tryd.ntmps51
    go_upto_region 2 with fail
    rw [← HW.out, HXB.out]
    go_wp2_with (with_reducible refine C1.mono ?_; rintro e w1 ⟨rfl, hM1⟩)
    exact ⟨rfl, HT.out.mo.trans hM1, .inl ⟨by rw [getF_4, hg1], rfl⟩⟩
  | some p =>
    obtain ⟨n1, u1⟩ := p
    have C1 := hN.some hT.rd hg1
    cases hg2 : C.get u1 with
    | none =>
      have D : ∀ V, RD V u1 → Calls Tryd.prog f #[pt rb] V fun e w' => e = Broke ∧ Mo V w' rb := fun V hV => hN.none hV hg2
      have HX0 := hid hX0
      clear hT hW hxb h hX0
      go_enter Tryd.func51, Tryd.ntmps51
      go_upto_region 2 with fail
      rw [← HW.out, HXB.out]
      go_wp2_with (first | (with_reducible refine C1.mono ?_; rintro e w1 ⟨rfl, hR1, hM1⟩; obtain ⟨k0, k1, k2, k3, k4⟩ := five (HX0.out.mo hM1 hnx); obtain ⟨f0, f1, f2, f3, f4⟩ := frz5 (HX0.out.mo hM1 hnx); have hX1 : B5 (w1.setCell ⟨xb, 3, none⟩ (.int .i64 (n1 : Int))) xb (.int .i64 4) zI zI (.int .i64 (n1 : Int)) nilS := B5.set3 (HX0.out.mo hM1 hnx) (Value.int .i64 (n1 : Int)); have hY1 : B5 (w1.setCell ⟨xb, 3, none⟩ (.int .i64 (n1 : Int))) w.heap.size zI zI zI zI nilS := (Below.heap_setCell _ ⟨xb, 3, none⟩ _ _ (by exact Nat.ne_of_lt hx1)).trans (HT.out.y.mo hM1 hny); have hRD1 := hr.set hR1 (a := ⟨xb, 3, none⟩) (Value.int .i64 (n1 : Int)) (by exact hx2); have hMo1 : Mo w (w1.setCell ⟨xb, 3, none⟩ (.int .i64 (n1 : Int))) rb := (HT.out.mo.trans hM1).setNew (a := ⟨xb, 3, none⟩) _ (by exact Nat.le_of_lt hx1); have C3 := D _ hRD1; have HMo1 := hid hMo1; clear hX1 hY1 hRD1 hMo1; clear hR1 hM1 C1) | (with_reducible refine C3.mono ?_; rintro e w2 ⟨rfl, hM2⟩))
      exact ⟨rfl, HMo1.out.trans hM2, .inl ⟨by rw [getF_4, hg1]; simp only; rw [hg2], rfl⟩⟩
    | some p =>
      obtain ⟨n2, u2⟩ := p
      have D : ∀ V, RD V u1 → Calls Tryd.prog f #[pt rb] V fun e w' => e = .returned (.int .i64 (n2 : Int)) ∧ RD w' u2 ∧ Mo V w' rb := fun V hV => hN.some hV hg2
      have HX0 := hid hX0
      clear hT hW hxb h hX0
      go_enter Tryd.func51, Tryd.ntmps51
      go_upto_region 2 with fail
      rw [← HW.out, HXB.out]
      go_wp2_with (first | (with_reducible refine C1.mono ?_; rintro e w1 ⟨rfl, hR1, hM1⟩; obtain ⟨k0, k1, k2, k3, k4⟩ := five (HX0.out.mo hM1 hnx); obtain ⟨f0, f1, f2, f3, f4⟩ := frz5 (HX0.out.mo hM1 hnx); have hX1 : B5 (w1.setCell ⟨xb, 3, none⟩ (.int .i64 (n1 : Int))) xb (.int .i64 4) zI zI (.int .i64 (n1 : Int)) nilS := B5.set3 (HX0.out.mo hM1 hnx) (Value.int .i64 (n1 : Int)); have hY1 : B5 (w1.setCell ⟨xb, 3, none⟩ (.int .i64 (n1 : Int))) w.heap.size zI zI zI zI nilS := (Below.heap_setCell _ ⟨xb, 3, none⟩ _ _ (by exact Nat.ne_of_lt hx1)).trans (HT.out.y.mo hM1 hny); have hRD1 := hr.set hR1 (a := ⟨xb, 3, none⟩) (Value.int .i64 (n1 : Int)) (by exact hx2); have hMo1 : Mo w (w1.setCell ⟨xb, 3, none⟩ (.int .i64 (n1 : Int))) rb := (HT.out.mo.trans hM1).setNew (a := ⟨xb, 3, none⟩) _ (by exact Nat.le_of_lt hx1); have C3 := D _ hRD1; have HMo1 := hid hMo1; have HX1 := hid hX1; have HY1 := hid hY1; clear hX1 hY1 hRD1 hMo1; clear hR1 hM1 C1) | (with_reducible refine C3.mono ?_; rintro e w2 ⟨rfl, hR2, hM2⟩; obtain ⟨k0, k1, k2, k3, k4⟩ := five (HX1.out.mo hM2 hnx); obtain ⟨f0, f1, f2, f3, f4⟩ := frz5 (HX1.out.mo hM2 hnx); have hX2 : B5 (w2.setCell ⟨xb, 1, none⟩ (.int .i64 (n2 : Int))) xb (.int .i64 4) (.int .i64 (n2 : Int)) zI (.int .i64 (n1 : Int)) nilS := B5.set1 (HX1.out.mo hM2 hnx) (.int .i64 (n2 : Int)); have hY2 : B5 (w2.setCell ⟨xb, 1, none⟩ (.int .i64 (n2 : Int))) w.heap.size zI zI zI zI nilS := (Below.heap_setCell _ ⟨xb, 1, none⟩ _ _ (by exact Nat.ne_of_lt hx1)).trans (HY1.out.mo hM2 hny); obtain ⟨e0, e1, e2, e3, e4⟩ := five hX2; obtain ⟨g0, g1, g2, g3, g4⟩ := frz5 hY2; obtain ⟨q0, q1, q2, q3, q4⟩ := five hY2; have HYF := hid hY2; have HRF := hid (hr.set hR2 (a := ⟨xb, 1, none⟩) (.int .i64 (n2 : Int)) (by exact hx2)); have HMF := hid ((HMo1.out.trans hM2).setNew (a := ⟨xb, 1, none⟩) (.int .i64 (n2 : Int)) (by exact Nat.le_of_lt hx1));  clear hX2 hY2 hR2 hM2 C3))
      all_goals
        refine bodyPost_ret (results_cell_row rfl _ _ w.heap.size 49 _ (0, 0) _ rfl (all5 HYF.out _ _ _ _ _) Tryd.underlying49 rfl (by kernel_rfl)) rfl ?_
        refine ⟨HMF.out.set5 (Nat.le_refl _) _ _ _ _ _, .inr ⟨⟨4, n2, 0, n1, []⟩, u2, by rw [getF_4, hg1]; simp only; rw [hg2], ⟨4, n2, 0, n1, none, 0, 0⟩, rfl, rfl, rfl, rfl, rfl, rfl, World.ownsRow_nil _ _ _ _, hr.set5 HRF.out hlt _ _ _ _ _⟩⟩
set_option maxRecDepth 100000 in
set_option maxHeartbeats 4000000 in
theorem take_5 {α : Type} {f B rb : Nat} {RD : World → List α → Prop} {C : Codec α} (hN : NumR f rb RD C) (hf : Enters f) (hr : Rdr B rb RD) {w : World} {l : List α} (h : RD w l) :
    Calls Tryd.prog 51 #[.int .i64 5, mv f rb] w (TFPost rb RD C 5 l w) := by
  have hT := T0.mk' hr h 5
  obtain ⟨W, hW⟩ : ∃ W, W = (w.alloc (.cells #[zI, zI, zI, zI, nilS] 49)).alloc (.cells #[.int .i64 5, zI, zI, zI, nilS] 49) := ⟨_, rfl⟩
  rw [← hW] at hT
  have HT := hid hT
  have HW := hid hW
  have hlt := hT.lt
  obtain ⟨xb, hxb⟩ : ∃ xb, w.heap.size + 1 = xb := ⟨_, rfl⟩
  have HXB := hid hxb
  have hx1 : w.heap.size < xb := by omega
  have hx2 : rb < xb := by omega
  have hnx : xb ≠ rb := by omega
  have hny : w.heap.size ≠ rb := by omega
  have hX0 : B5 W xb (.int .i64 5) zI zI zI nilS := by rw [← hxb]; exact hT.x
  cases hg1 : C.get l with
  | none =>
    have C1 := hN.none hT.rd hg1
    clear hT hW hxb h hX0
    go_enter Tryd.func51, Tryd.ntmps51
    go_upto_region 2 with fail
    rw [← HW.out, HXB.out]
    go_wp2_with (with_reducible refine C1.mono ?_; rintro e w1 ⟨rfl, hM1⟩)
    exact ⟨rfl, HT.out.mo.trans hM1, .inl ⟨by rw [getF_5, hg1], rfl⟩⟩
  | some p =>
    obtain ⟨n1, u1⟩ := p
    have C1 := hN.some hT.rd hg1
    have HX0 := hid hX0
    clear hT hW hxb h hX0
    go_enter Tryd.func51, Tryd.ntmps51
    go_upto_region 2 with fail
    rw [← HW.out, HXB.out]
    go_wp2_with (with_reducible refine C1.mono ?_; rintro e w1 ⟨rfl, hR1, hM1⟩; obtain ⟨k0, k1, k2, k3, k4⟩ := five (HX0.out.mo hM1 hnx); obtain ⟨f0, f1, f2, f3, f4⟩ := frz5 (HX0.out.mo hM1 hnx); have hX1 : B5 (w1.setCell ⟨xb, 3, none⟩ (.int .i64 (n1 : Int))) xb (.int .i64 5) zI zI (.int .i64 (n1 : Int)) nilS := B5.set3 (HX0.out.mo hM1 hnx) (Value.int .i64 (n1 : Int)); have hY1 : B5 (w1.setCell ⟨xb, 3, none⟩ (.int .i64 (n1 : Int))) w.heap.size zI zI zI zI nilS := (Below.heap_setCell _ ⟨xb, 3, none⟩ _ _ (by exact Nat.ne_of_lt hx1)).trans (HT.out.y.mo hM1 hny); have hRD1 := hr.set hR1 (a := ⟨xb, 3, none⟩) (Value.int .i64 (n1 : Int)) (by exact hx2); have hMo1 : Mo w (w1.setCell ⟨xb, 3, none⟩ (.int .i64 (n1 : Int))) rb := (HT.out.mo.trans hM1).setNew (a := ⟨xb, 3, none⟩) _ (by exact Nat.le_of_lt hx1); obtain ⟨e0, e1, e2, e3, e4⟩ := five hX1; obtain ⟨g0, g1, g2, g3, g4⟩ := frz5 hY1; obtain ⟨q0, q1, q2, q3, q4⟩ := five hY1; have HYF := hid hY1; have HMF := hid hMo1; have HRF := hid hRD1; clear hX1 hY1 hRD1 hMo1; clear hR1 hM1 C1)
    all_goals
      refine bodyPost_ret (results_cell_row rfl _ _ w.heap.size 49 _ (0, 0) _ rfl (all5 HYF.out _ _ _ _ _) Tryd.underlying49 rfl (by kernel_rfl)) rfl ?_
      refine ⟨HMF.out.set5 (Nat.le_refl _) _ _ _ _ _, .inr ⟨⟨5, 0, 0, n1, []⟩, u1, by rw [getF_5, hg1], ⟨5, 0, 0, n1, none, 0, 0⟩, rfl, rfl, rfl, rfl, rfl, rfl, World.ownsRow_nil _ _ _ _, hr.set5 HRF.out hlt _ _ _ _ _⟩⟩
set_option maxRecDepth 100000 in
set_option maxHeartbeats 4000000 in
theorem take_6 {α : Type} {f B rb : Nat} {RD : World → List α → Prop} {C : Codec α} (hN : NumR f rb RD C) (hf : Enters f) (hr : Rdr B rb RD) {w : World} {l : List α} (h : RD w l) :
    Calls Tryd.prog 51 #[.int .i64 6, mv f rb] w (TFPost rb RD C 6 l w) := by
  have hT := T0.mk' hr h 6
  obtain ⟨W, hW⟩ : ∃ W, W = (w.alloc (.cells #[zI, zI, zI, zI, nilS] 49)).alloc (.cells #[.int .i64 6, zI, zI, zI, nilS] 49) := ⟨_, rfl⟩
  rw [← hW] at hT
  have HT := hid hT
  have HW := hid hW
  have hlt := hT.lt
  obtain ⟨xb, hxb⟩ : ∃ xb, w.heap.size + 1 = xb := ⟨_, rfl⟩
  have HXB := hid hxb
  have hx1 : w.heap.size < xb := by omega
  have hx2 : rb < xb := by omega
  have hnx : xb ≠ rb := by omega
  have hny : w.heap.size ≠ rb := by omega
  have hX0 : B5 W xb (.int .i64 6) zI zI zI nilS := by rw [← hxb]; exact hT.x
  have HYF := hid hT.y
  have HMF := hid hT.mo
  have HRF := hid hT.rd
  obtain ⟨e0, e1, e2, e3, e4⟩ := five hX0
  obtain ⟨g0, g1, g2, g3, g4⟩ := frz5 hT.y
  obtain ⟨q0, q1, q2, q3, q4⟩ := five hT.y
  clear hT hW hxb h hX0
  go_enter Tryd.func51, Tryd.ntmps51
  go_upto_region 2 with fail
  rw [← HW.out, HXB.out]
  go_wp2
  all_goals
    refine bodyPost_ret (results_cell_row rfl _ _ w.heap.size 49 _ (0, 0) _ rfl (all5 HYF.out _ _ _ _ _) Tryd.underlying49 rfl (by kernel_rfl)) rfl ?_
    refine ⟨HMF.out.set5 (Nat.le_refl _) _ _ _ _ _, .inr ⟨⟨6, 0, 0, 0, []⟩, l, by rw [getF_6], ⟨6, 0, 0, 0, none, 0, 0⟩, rfl, rfl, rfl, rfl, rfl, rfl, World.ownsRow_nil _ _ _ _, hr.set5 HRF.out hlt _ _ _ _ _⟩⟩
set_option maxRecDepth 100000 in
set_option maxHeartbeats 4000000 in
theorem take_7 {α : Type} {f B rb : Nat} {RD : World → List α → Prop} {C : Codec α} (hN : NumR f rb RD C) (hf : Enters f) (hr : Rdr B rb RD) {w : World} {l : List α} (h : RD w l) :
    Calls Tryd.prog 51 #[.int .i64 7, mv f rb] w (TFPost rb RD C 7 l w) := by
  have hT := T0.mk' hr h 7
  obtain ⟨W, hW⟩ : ∃ W, W = (w.alloc (.cells #[zI, zI, zI, zI, nilS] 49)).alloc (.cells #[.int .i64 7, zI, zI, zI, nilS] 49) := ⟨_, rfl⟩
  rw [← hW] at hT
  have HT := hid hT
  have HW := hid hW
  have hlt := hT.lt
  obtain ⟨xb, hxb⟩ : ∃ xb, w.heap.size + 1 = xb := ⟨_, rfl⟩
  have HXB := hid hxb
  have hx1 : w.heap.size < xb := by omega
  have hx2 : rb < xb := by omega
  have hnx : xb ≠ rb := by omega
  have hny : w.heap.size ≠ rb := by omega
  have hX0 : B5 W xb (.int .i64 7) zI zI zI nilS := by rw [← hxb]; exact hT.x
  cases hg1 : C.get l with
  | none =>
    have C1 := hN.none hT.rd hg1
    clear hT hW hxb h hX0
    go_enter Tryd.func51, Tryd.ntmps51
    go_upto_region 2 with fail
    rw [← HW.out, HXB.out]
    go_wp2_with (with_reducible refine C1.mono ?_; rintro e w1 ⟨rfl, hM1⟩)
    exact ⟨rfl, HT.out.mo.trans hM1, .inl ⟨by rw [getF_7, hg1], rfl⟩⟩
  | some p =>
    obtain ⟨n1, u1⟩ := p
    have C1 := hN.some hT.rd hg1
    have HX0 := hid hX0
    clear hT hW hxb h hX0
    go_enter Tryd.func51, Tryd.ntmps51
    go_upto_region 2 with fail
    rw [← HW.out, HXB.out]
    go_wp2_with (with_reducible refine C1.mono ?_; rintro e w1 ⟨rfl, hR1, hM1⟩; obtain ⟨k0, k1, k2, k3, k4⟩ := five (HX0.out.mo hM1 hnx); obtain ⟨f0, f1, f2, f3, f4⟩ := frz5 (HX0.out.mo hM1 hnx); have hX1 : B5 (w1.setCell ⟨xb, 1, none⟩ (.int .i64 (n1 : Int))) xb (.int .i64 7) (.int .i64 (n1 : Int)) zI zI nilS := B5.set1 (HX0.out.mo hM1 hnx) (Value.int .i64 (n1 : Int)); have hY1 : B5 (w1.setCell ⟨xb, 1, none⟩ (.int .i64 (n1 : Int))) w.heap.size zI zI zI zI nilS := (Below.heap_setCell _ ⟨xb, 1, none⟩ _ _ (by exact Nat.ne_of_lt hx1)).trans (HT.out.y.mo hM1 hny); have hRD1 := hr.set hR1 (a := ⟨xb, 1, none⟩) (Value.int .i64 (n1 : Int)) (by exact hx2); have hMo1 : Mo w (w1.setCell ⟨xb, 1, none⟩ (.int .i64 (n1 : Int))) rb := (HT.out.mo.trans hM1).setNew (a := ⟨xb, 1, none⟩) _ (by exact Nat.le_of_lt hx1); obtain ⟨e0, e1, e2, e3, e4⟩ := five hX1; obtain ⟨g0, g1, g2, g3, g4⟩ := frz5 hY1; obtain ⟨q0, q1, q2, q3, q4⟩ := five hY1; have HYF := hid hY1; have HMF := hid hMo1; have HRF := hid hRD1; clear hX1 hY1 hRD1 hMo1; clear hR1 hM1 C1)
    all_goals
      refine bodyPost_ret (results_cell_row rfl _ _ w.heap.size 49 _ (0, 0) _ rfl (all5 HYF.out _ _ _ _ _) Tryd.underlying49 rfl (by kernel_rfl)) rfl ?_
      refine ⟨HMF.out.set5 (Nat.le_refl _) _ _ _ _ _, .inr ⟨⟨7, n1, 0, 0, []⟩, u1, by rw [getF_7, hg1], ⟨7, n1, 0, 0, none, 0, 0⟩, rfl, rfl, rfl, rfl, rfl, rfl, World.ownsRow_nil _ _ _ _, hr.set5 HRF.out hlt _ _ _ _ _⟩⟩
end Go.Proofs.YteanndophopplaaDoor
namespace Go.Proofs.YteanndophopplaaDoor
open Go.RowKit Go.Extern.Stop Go.Stop Go.Extern
set_option linter.unusedVariables false
set_option linter.unusedSimpArgs false
set_option maxRecDepth 100000 in
set_option maxHeartbeats 4000000 in
theorem take_no {α : Type} {f B rb : Nat} {RD : World → List α → Prop} {C : Codec α} (hN : NumR f rb RD C) (hf : Enters f) (hr : Rdr B rb RD) {w : World} {l : List α} {op : Nat} (h : RD w l) (ho : op < 1 ∨ 7 < op) :
    Calls Tryd.prog 51 #[.int .i64 (op : Int), mv f rb] w (TFPost rb RD C op l w) := by
  have hT := (T0.mk' hr h (op : Int)).mo
  have HT := hid hT
  have HO := hid (getF_no (C := C) (L := 5000) (l := l) ho)
  have d1 : ¬ ((op : Int) = 1) := by omega
  have d2 : ¬ ((op : Int) = 2) := by omega
  have d3 : ¬ ((op : Int) = 3) := by omega
  have d4 : ¬ ((op : Int) = 4) := by omega
  have d5 : ¬ ((op : Int) = 5) := by omega
  have d6 : ¬ ((op : Int) = 6) := by omega
  have d7 : ¬ ((op : Int) = 7) := by omega
  have e1 : ((op : Int) == 1) = false := by simp; omega
  have e2 : ((op : Int) == 2) = false := by simp; omega
  have e3 : ((op : Int) == 3) = false := by simp; omega
  have e4 : ((op : Int) == 4) = false := by simp; omega
  have e5 : ((op : Int) == 5) = false := by simp; omega
  have e6 : ((op : Int) == 6) = false := by simp; omega
  have e7 : ((op : Int) == 7) = false := by simp; omega
  clear hT ho h
  go_enter Tryd.func51, Tryd.ntmps51
  go_wp2
  exact ⟨rfl, HT.out, .inl ⟨HO.out, rfl⟩⟩
theorem take51 {α : Type} {f B rb : Nat} {RD : World → List α → Prop} {C : Codec α} (hN : NumR f rb RD C) (hf : Enters f) (hr : Rdr B rb RD) {w : World} {l : List α} (op : Nat) (h : RD w l) :
    Calls Tryd.prog 51 #[.int .i64 (op : Int), mv f rb] w (TFPost rb RD C op l w) := by
  by_cases ho : op < 1 ∨ 7 < op
  · exact take_no hN hf hr h ho
  · obtain rfl | rfl | rfl | rfl | rfl | rfl | rfl : op = 1 ∨ op = 2 ∨ op = 3 ∨ op = 4 ∨ op = 5 ∨ op = 6 ∨ op = 7 := by omega
    · exact take_1 hN hf hr h
    · exact take_2 hN hf hr h
    · exact take_3 hN hf hr h
    · exact take_4 hN hf hr h
    · exact take_5 hN hf hr h
    · exact take_6 hN hf hr h
    · exact take_7 hN hf hr h
/-- what was given up with is known -/
theorem wantBroken31 (w : World) : Calls Tryd.prog 31 #[.iface 77 (.agg #[])] w fun e w' => e = .returned (.tuple #[]) ∧ Below w.heap.size w w' := by
  have hta : ∀ (v : Value) (W : World), (Instr.typeAssert (.iface 77 v) 20 77 true).run Tryd.prog W = .ok (.tuple #[v, .bool true]) W := fun v W => by kernel_rfl
  go_enter Tryd.func31, Tryd.ntmps31
  go_wp2
  go_end0
  exact ⟨rfl, Joins.below_alloc1 w _⟩
/-- nothing of what was there has turned but two blocks -/
structure Fr2 (w w' : World) (a b : Nat) : Prop where
  os : w'.os = w.os
  tape : w'.tape = w.tape
  output : w'.output = w.output
  size : w.heap.size ≤ w'.heap.size
  block : ∀ k, k < w.heap.size → k ≠ a → k ≠ b → w'.heap[k]? = w.heap[k]?
abbrev B3 (w : World) (b : Nat) (v0 v1 v2 : Value) : Prop := w.heap[b]? = some (.cells #[v0, v1, v2] 24 (0, 0))
theorem frz3 {w : World} {b : Nat} {v0 v1 v2 : Value} (h : B3 w b v0 v1 v2) : w.frozen? ⟨b, 0, none⟩ = false ∧ w.frozen? ⟨b, 1, none⟩ = false ∧ w.frozen? ⟨b, 2, none⟩ = false :=
  ⟨Joins.unfrozen_of_block h 0, Joins.unfrozen_of_block h 1, Joins.unfrozen_of_block h 2⟩
theorem all3 {w : World} {b : Nat} {v0 v1 v2 : Value} (h : B3 w b v0 v1 v2) (u0 u1 u2 : Value) : B3 (((w.setCell ⟨b, 0, none⟩ u0).setCell ⟨b, 1, none⟩ u1).setCell ⟨b, 2, none⟩ u2) b u0 u1 u2 :=
  Joins.block_setCell (Joins.block_setCell (Joins.block_setCell h u0) u1) u2
theorem set3_old {w : World} {b k : Nat} (h : k ≠ b) (u0 u1 u2 : Value) : (((w.setCell ⟨b, 0, none⟩ u0).setCell ⟨b, 1, none⟩ u1).setCell ⟨b, 2, none⟩ u2).heap[k]? = w.heap[k]? := by
  rw [Below.heap_setCell _ _ _ _ h, Below.heap_setCell _ _ _ _ h, Below.heap_setCell _ _ _ _ h]
theorem fr2_of {w w1 : World} {tb eb : Nat} {v0 v1 v2 : Value} {ev V : Value} (B1 : Below w.heap.size w w1) (E1 : B3 w1 tb v0 v1 v2) (E2 : w1.heap[eb]? = some (.cells #[ev] 30 (0, 0))) (hne : tb ≠ eb) (u0 u1 u2 : Value) :
    B3 (((((w1.setCell ⟨tb, 0, none⟩ u0).setCell ⟨tb, 1, none⟩ u1).setCell ⟨tb, 2, none⟩ u2)).setCell ⟨eb, 0, none⟩ V) tb u0 u1 u2 ∧ ((((w1.setCell ⟨tb, 0, none⟩ u0).setCell ⟨tb, 1, none⟩ u1).setCell ⟨tb, 2, none⟩ u2).setCell ⟨eb, 0, none⟩ V).heap[eb]? = some (.cells #[V] 30 (0, 0)) ∧ Fr2 w ((((w1.setCell ⟨tb, 0, none⟩ u0).setCell ⟨tb, 1, none⟩ u1).setCell ⟨tb, 2, none⟩ u2).setCell ⟨eb, 0, none⟩ V) tb eb := by
  have a := all3 E1 u0 u1 u2
  have b : (((w1.setCell ⟨tb, 0, none⟩ u0).setCell ⟨tb, 1, none⟩ u1).setCell ⟨tb, 2, none⟩ u2).heap[eb]? = some (.cells #[ev] 30 (0, 0)) := (set3_old (Ne.symm hne) _ _ _).trans E2
  refine ⟨(Below.heap_setCell _ _ _ _ hne).trans a, Joins.block_setCell b V, ⟨B1.os, B1.tape, B1.output, by have := B1.size; simp [World.setCell]; exact this, fun k hk h1 h2 => ?_⟩⟩
  rw [Below.heap_setCell _ _ _ _ h2, set3_old h1]
  exact B1.block k hk
set_option maxHeartbeats 2000000 in
theorem defer35_gave (tb eb : Nat) (v0 v1 v2 ev : Value) (older : List PanicEntry) (w : World) (htb : B3 w tb v0 v1 v2) (heb : w.heap[eb]? = some (.cells #[ev] 30 (0, 0))) (hne : tb ≠ eb) :
    CallsD Tryd.prog 35 #[.pointer (some ⟨tb, 0, none⟩), .pointer (some ⟨eb, 0, none⟩)] (.panicking ({ v := .iface 77 (.agg #[]), recovered := false } :: older)) w fun e u' w' =>
      e = .returned (.tuple #[]) ∧ u' = .panicking ({ v := .iface 77 (.agg #[]), recovered := true } :: older) ∧ B3 w' tb nilS zI zI ∧ w'.heap[eb]? = some (.cells #[.int .i64 101] 30 (0, 0)) ∧ Fr2 w w' tb eb := by
  refine callsD_of_wpS Tryd.func35 rfl fun c₀ cs hu => ?_
  apply wpS_seq
  apply wpS_region
  simp [wpOpsS, go_sem, recoverD, hu, Tryd.ntmps35, Exit.thenS]
  refine wpS_of_wp ?_
  have hfr : ∀ (x y v : Value), (#[x, y] ++ ((Array.replicate 7 undef).setIfInBounds 1 v).setIfInBounds 0 v : Array Value) = #[x, y, v, v, undef, undef, undef, undef, undef] := fun x y v => by
    apply Array.toList_inj.1
    simp [Array.replicate, List.replicate]
  rw [hfr]
  have C1 := wantBroken31 w
  obtain ⟨htl, hel⟩ : tb < w.heap.size ∧ eb < w.heap.size := ⟨(Array.getElem?_eq_some_iff.1 htb).1, (Array.getElem?_eq_some_iff.1 heb).1⟩
  have HNE := hid hne
  have hne1 : tb ≠ eb := hne
  have hne2 : eb ≠ tb := Ne.symm hne
  go_wp2_with (go_at_call 31; (with_reducible refine C1.mono ?_); rintro e w1 ⟨rfl, B1⟩; have E1 : B3 w1 tb v0 v1 v2 := (B1.block tb htl).trans htb; have E2 := (B1.block eb hel).trans heb; obtain ⟨c0, c1, c2⟩ := three_cells E1; obtain ⟨f0, f1, f2⟩ := frz3 E1; have k0 : w1.cell? ⟨eb, 0, none⟩ = some ev := Joins.cell_of_block E2 0; have g0 := Joins.unfrozen_of_block E2 0)
  have F := fr2_of (V := .int .i64 101) B1 E1 E2 hne nilS zI zI
  simp only [bodyPostS, results, Tryd.results35]
  simp
  exact F
set_option maxHeartbeats 2000000 in
theorem defer35_idle (tb eb : Nat) (w : World) :
    CallsD Tryd.prog 35 #[.pointer (some ⟨tb, 0, none⟩), .pointer (some ⟨eb, 0, none⟩)] .returning w fun e u' w' => e = .returned (.tuple #[]) ∧ u' = .returning ∧ w' = w := by
  refine callsD_of_wpS Tryd.func35 rfl fun c₀ cs hu => ?_
  apply wpS_seq
  apply wpS_region
  simp [wpOpsS, go_sem, recoverD, hu, Tryd.ntmps35, Exit.thenS]
  refine wpS_of_wp ?_
  have hfr : ∀ (x y v : Value), (#[x, y] ++ ((Array.replicate 7 undef).setIfInBounds 1 v).setIfInBounds 0 v : Array Value) = #[x, y, v, v, undef, undef, undef, undef, undef] := fun x y v => by
    apply Array.toList_inj.1
    simp [Array.replicate, List.replicate]
  rw [hfr]
  go_wp2
  simp only [bodyPostS, results, Tryd.results35]
  cases c₀
  simp_all
set_option maxHeartbeats 2000000 in
theorem defer30_gave (tb eb : Nat) (v0 v1 v2 ev : Value) (older : List PanicEntry) (w : World) (htb : B3 w tb v0 v1 v2) (heb : w.heap[eb]? = some (.cells #[ev] 30 (0, 0))) (hne : tb ≠ eb) :
    CallsD Tryd.prog 30 #[.pointer (some ⟨tb, 0, none⟩), .pointer (some ⟨eb, 0, none⟩)] (.panicking ({ v := .iface 77 (.agg #[]), recovered := false } :: older)) w fun e u' w' =>
      e = .returned (.tuple #[]) ∧ u' = .panicking ({ v := .iface 77 (.agg #[]), recovered := true } :: older) ∧ B3 w' tb nilS zI zI ∧ w'.heap[eb]? = some (.cells #[.int .i64 100] 30 (0, 0)) ∧ Fr2 w w' tb eb := by
  refine callsD_of_wpS Tryd.func30 rfl fun c₀ cs hu => ?_
  apply wpS_seq
  apply wpS_region
  simp [wpOpsS, go_sem, recoverD, hu, Tryd.ntmps30, Exit.thenS]
  refine wpS_of_wp ?_
  have hfr : ∀ (x y v : Value), (#[x, y] ++ ((Array.replicate 7 undef).setIfInBounds 1 v).setIfInBounds 0 v : Array Value) = #[x, y, v, v, undef, undef, undef, undef, undef] := fun x y v => by
    apply Array.toList_inj.1
    simp [Array.replicate, List.replicate]
  rw [hfr]
  have C1 := wantBroken31 w
  obtain ⟨htl, hel⟩ : tb < w.heap.size ∧ eb < w.heap.size := ⟨(Array.getElem?_eq_some_iff.1 htb).1, (Array.getElem?_eq_some_iff.1 heb).1⟩
  have HNE := hid hne
  have hne1 : tb ≠ eb := hne
  have hne2 : eb ≠ tb := Ne.symm hne
  go_wp2_with (go_at_call 31; (with_reducible refine C1.mono ?_); rintro e w1 ⟨rfl, B1⟩; have E1 : B3 w1 tb v0 v1 v2 := (B1.block tb htl).trans htb; have E2 := (B1.block eb hel).trans heb; obtain ⟨c0, c1, c2⟩ := three_cells E1; obtain ⟨f0, f1, f2⟩ := frz3 E1; have k0 : w1.cell? ⟨eb, 0, none⟩ = some ev := Joins.cell_of_block E2 0; have g0 := Joins.unfrozen_of_block E2 0)
  have F := fr2_of (V := .int .i64 100) B1 E1 E2 hne nilS zI zI
  simp only [bodyPostS, results, Tryd.results30]
  simp
  exact F
set_option maxHeartbeats 2000000 in
theorem defer30_idle (tb eb : Nat) (w : World) :
    CallsD Tryd.prog 30 #[.pointer (some ⟨tb, 0, none⟩), .pointer (some ⟨eb, 0, none⟩)] .returning w fun e u' w' => e = .returned (.tuple #[]) ∧ u' = .returning ∧ w' = w := by
  refine callsD_of_wpS Tryd.func30 rfl fun c₀ cs hu => ?_
  apply wpS_seq
  apply wpS_region
  simp [wpOpsS, go_sem, recoverD, hu, Tryd.ntmps30, Exit.thenS]
  refine wpS_of_wp ?_
  have hfr : ∀ (x y v : Value), (#[x, y] ++ ((Array.replicate 7 undef).setIfInBounds 1 v).setIfInBounds 0 v : Array Value) = #[x, y, v, v, undef, undef, undef, undef, undef] := fun x y v => by
    apply Array.toList_inj.1
    simp [Array.replicate, List.replicate]
  rw [hfr]
  go_wp2
  simp only [bodyPostS, results, Tryd.results30]
  cases c₀
  simp_all
end Go.Proofs.YteanndophopplaaDoor
