/- HELPERS: La, LkM, HoM, Lh, Vb, Pb, Lk, Sp, At, Se, Sf, Sg, Pc, Rq, Cp, Pd, Pe, Pf, Ph, Pv, Pw, Px, Py, Pz, Qa, Qb, Qc, Qd, Sh, Cd, Cf, Ar, Pr, Ra, Rc. -/
import Derived.Test.YtiggbgmnibndoaaK01
import Derived.WalkSmall
import Derived.BigQuiet
import Derived.Deep.QuietTactic
import Derived.Deep.RegionWith
import Derived.Deep.WholeRow
import Derived.WalkKit
import Derived.Laws.BitsLemmas
import Derived.Test.YtiggbgmnibndoaaProg
import Derived.ProofKit
import Derived.Laws.EntriesVeiled
import Derived.WalkLawsBesides
import Derived.Lib.SliceRun
import Derived.Deep.OwnRows
import Derived.Deep.Cut
import Derived.Deep.CutRange
import Derived.LoopN
import Derived.Laws.IdiomCopy
import Derived.Deep.Onto
import Derived.Deep.RegionHeld3
import Derived.Deep.RegionHeld2
import Derived.Test.YtiggbgmnibndoaaRows
import Derived.JoinedCond
import Derived.OpenShut
import Derived.SizedLaws
import Derived.Lib.SmallJoins
/- HELPERS: the document's At. -/
namespace Go.Proofs.Ytiggbgmnibndoaa
open Go.RowKit
set_option linter.unusedVariables false
set_option linter.unusedSimpArgs false
/-- is a rune one of a word -/
def wordR (r : Int) : Bool := decide (48 ≤ r ∧ r ≤ 57 ∨ 65 ≤ r ∧ r ≤ 90 ∨ 97 ≤ r ∧ r ≤ 122 ∨ r = 95)
theorem word79 (r : Int) (w : World) : Calls Try.prog 44 #[.int .i64 r] w fun e w' => e = .returned (.bool (wordR r)) ∧ w' = w := by
  go_enter Try.func44, Try.ntmps44
  go_wp2
  all_goals go_ret
  all_goals exact ⟨ret_bool (by rw [Bool.eq_iff_iff]; simp [wordR]; omega), rfl⟩
/-- a text in memory, below N -/
def TextAt (N : Nat) (w : World) (ad : Option Addr) (n : Nat) (l : List Int) : Prop :=
  n = l.length ∧ n ≤ 35184372088832 ∧ (n = 0 ∨ ∃ b off, ad = some ⟨b, off, none⟩ ∧ b < N ∧ ∀ k, k < n → w.cell? ⟨b, off + k, none⟩ = some (.int .i64 (l.getD k 0)))
theorem TextAt.below {N : Nat} {w w' : World} {ad : Option Addr} {n : Nat} {l : List Int} (h : TextAt N w ad n l) (hb : Below N w w') : TextAt N w' ad n l := by
  obtain ⟨h1, h2, h | ⟨b, off, ha, hbN, hc⟩⟩ := h
  · exact ⟨h1, h2, .inl h⟩
  · exact ⟨h1, h2, .inr ⟨b, off, ha, hbN, fun k hk => (hb.cell (p := ⟨b, off + k, none⟩) hbN).trans (hc k hk)⟩⟩
theorem TextAt.mono {N M : Nat} {w : World} {ad : Option Addr} {n : Nat} {l : List Int} (h : TextAt N w ad n l) (hNM : N ≤ M) : TextAt M w ad n l := by
  obtain ⟨h1, h2, h | ⟨b, off, ha, hbN, hc⟩⟩ := h
  · exact ⟨h1, h2, .inl h⟩
  · exact ⟨h1, h2, .inr ⟨b, off, ha, by omega, hc⟩⟩
def begB (p : Nat) : Bool := decide (p = 0)
def endB (l : List Int) (p : Nat) : Bool := decide (p = l.length)
def blB (l : List Int) (p : Nat) : Bool := decide (p = 0) || decide (l.getD (p - 1) 0 = 10)
def elB (l : List Int) (p : Nat) : Bool := decide (p = l.length) || decide (l.getD p 0 = 10)
def waB (l : List Int) (p : Nat) : Bool := decide (0 < p) && wordR (l.getD (p - 1) 0)
def wbB (l : List Int) (p : Nat) : Bool := decide (p < l.length) && wordR (l.getD p 0)
def edgeB (l : List Int) (p : Nat) : Bool := waB l p != wbB l p
def bI (b : Bool) (x : Int) : Int := if b then x else 0
/-- the sum of the first k of six -/
def sumB (b1 b2 b3 b4 b5 : Bool) : Nat → Int
  | 0 => 0
  | 1 => bI b1 1
  | 2 => bI b1 1 + bI b2 2
  | 3 => bI b1 1 + bI b2 2 + bI b3 4
  | 4 => bI b1 1 + bI b2 2 + bI b3 4 + bI b4 8
  | 5 => bI b1 1 + bI b2 2 + bI b3 4 + bI b4 8 + bI b5 16
  | _ => bI b1 1 + bI b2 2 + bI b3 4 + bI b4 8 + bI b5 16 + bI (!b5) 32
/-- what holds at a place -/
def atP (l : List Int) (p : Nat) : Int := sumB (begB p) (endB l p) (blB l p) (elB l p) (edgeB l p) 6
theorem atP_mid (l : List Int) (p : Nat) (h0 : 0 < p) (h1 : p < l.length) :
    atP l p = bI (decide (l.getD (p - 1) 0 = 10)) 4 + bI (decide (l.getD p 0 = 10)) 8 + (if wordR (l.getD (p - 1) 0) != wordR (l.getD p 0) then 16 else 32) := by
  have e1 : begB p = false := by unfold begB; simp; omega
  have e2 : endB l p = false := by unfold endB; simp; omega
  have e3 : blB l p = decide (l.getD (p - 1) 0 = 10) := by unfold blB; simp [show ¬ p = 0 by omega]
  have e4 : elB l p = decide (l.getD p 0 = 10) := by unfold elB; simp [show ¬ p = l.length by omega]
  have e5 : edgeB l p = (wordR (l.getD (p - 1) 0) != wordR (l.getD p 0)) := by unfold edgeB waB wbB; simp [h0, h1]
  unfold atP sumB
  rw [e1, e2, e3, e4, e5]
  cases wordR (l.getD (p - 1) 0) != wordR (l.getD p 0) <;> simp [bI]
theorem atP_first (l : List Int) (h1 : 0 < l.length) : atP l 0 = 5 + bI (decide (l.getD 0 0 = 10)) 8 + (if wordR (l.getD 0 0) then 16 else 32) := by
  have e1 : begB 0 = true := by unfold begB; simp
  have e2 : endB l 0 = false := by unfold endB; simp; omega
  have e3 : blB l 0 = true := by unfold blB; simp
  have e4 : elB l 0 = decide (l.getD 0 0 = 10) := by unfold elB; simp [show ¬ 0 = l.length by omega]
  have e5 : edgeB l 0 = wordR (l.getD 0 0) := by unfold edgeB waB wbB; simp [h1]
  unfold atP sumB
  rw [e1, e2, e3, e4, e5]
  cases wordR (l.getD 0 0) <;> cases decide (l.getD 0 0 = 10) <;> simp [bI]
theorem atP_last (l : List Int) (h1 : 0 < l.length) : atP l l.length = 10 + bI (decide (l.getD (l.length - 1) 0 = 10)) 4 + (if wordR (l.getD (l.length - 1) 0) then 16 else 32) := by
  have e1 : begB l.length = false := by unfold begB; simp; intro h; rw [h] at h1; simp at h1
  have e2 : endB l l.length = true := by unfold endB; simp
  have e3 : blB l l.length = decide (l.getD (l.length - 1) 0 = 10) := by unfold blB; simp [show ¬ l.length = 0 by omega]
  have e4 : elB l l.length = true := by unfold elB; simp
  have e5 : edgeB l l.length = wordR (l.getD (l.length - 1) 0) := by unfold edgeB waB wbB; simp [h1]
  unfold atP sumB
  rw [e1, e2, e3, e4, e5]
  cases wordR (l.getD (l.length - 1) 0) <;> cases decide (l.getD (l.length - 1) 0 = 10) <;> simp [bI]
theorem atP_none : atP [] 0 = 47 := by decide +kernel
set_option maxHeartbeats 2000000 in
theorem ref_none (ad : Option Addr) (cap : Nat) (w : World) :
    Calls Try.prog 37 #[.slice ad 0 cap, .int .i64 0] w fun e w' => e = .returned (.int .i64 47) ∧ w' = w := by
  go_enter Try.func37, Try.ntmps37
  go_wp2
  go_ret
  exact ⟨rfl, rfl⟩
set_option maxHeartbeats 2000000 in
theorem ref_first (b off n cap : Nat) (w : World) (hn : 0 < n) (hm : n ≤ 35184372088832) (y A : Int) (W : Bool) (d0 : w.cell? ⟨b, off, none⟩ = some (.int .i64 y)) (hw : ∀ w, Calls Try.prog 44 #[.int .i64 y] w fun e w' => e = .returned (.bool W) ∧ w' = w)
    (HA : Hid (A = 5 + bI (decide (y = 10)) 8 + (if W then 16 else 32))) :
    Calls Try.prog 37 #[.slice (some ⟨b, off, none⟩) n cap, .int .i64 0] w fun e w' => e = .returned (.int .i64 A) ∧ w' = w := by
  by_cases hy : y = 10
  · cases W
    · have hA : A = 45 := by rw [HA.out]; simp [bI, hy]
      rw [hA]
      clear HA hA
      subst hy
      go_enter Try.func37, Try.ntmps37
      go_wp2_with (go_at_call 44; refine (hw _).mono ?_; rintro e w' ⟨rfl, rfl⟩)
      go_ret
      exact ⟨rfl, rfl⟩
    · have hA : A = 29 := by rw [HA.out]; simp [bI, hy]
      rw [hA]
      clear HA hA
      subst hy
      go_enter Try.func37, Try.ntmps37
      go_wp2_with (go_at_call 44; refine (hw _).mono ?_; rintro e w' ⟨rfl, rfl⟩)
      go_ret
      exact ⟨rfl, rfl⟩
  · have hy1 : (y == 10) = false := by simp [hy]
    cases W
    · have hA : A = 37 := by rw [HA.out]; simp [bI, hy]
      rw [hA]
      clear HA hA hy
      go_enter Try.func37, Try.ntmps37
      go_wp2_with (go_at_call 44; refine (hw _).mono ?_; rintro e w' ⟨rfl, rfl⟩)
      go_ret
      exact ⟨rfl, rfl⟩
    · have hA : A = 21 := by rw [HA.out]; simp [bI, hy]
      rw [hA]
      clear HA hA hy
      go_enter Try.func37, Try.ntmps37
      go_wp2_with (go_at_call 44; refine (hw _).mono ?_; rintro e w' ⟨rfl, rfl⟩)
      go_ret
      exact ⟨rfl, rfl⟩
set_option maxHeartbeats 2000000 in
theorem ref_last (b off p cap : Nat) (w : World) (hn : 0 < p) (hm : p ≤ 35184372088832) (y A : Int) (W : Bool) (d0 : w.cell? ⟨b, off + (p - 1), none⟩ = some (.int .i64 y)) (hw : ∀ w, Calls Try.prog 44 #[.int .i64 y] w fun e w' => e = .returned (.bool W) ∧ w' = w)
    (HA : Hid (A = 10 + bI (decide (y = 10)) 4 + (if W then 16 else 32))) :
    Calls Try.prog 37 #[.slice (some ⟨b, off, none⟩) p cap, .int .i64 p] w fun e w' => e = .returned (.int .i64 A) ∧ w' = w := by
  have hp0 : ((p : Int) == 0) = false := by simp; omega
  by_cases hy : y = 10
  · cases W
    · have hA : A = 46 := by rw [HA.out]; simp [bI, hy]
      rw [hA]
      clear HA hA
      subst hy
      go_enter Try.func37, Try.ntmps37
      go_wp2_with (go_at_call 44; refine (hw _).mono ?_; rintro e w' ⟨rfl, rfl⟩)
      go_ret
      exact ⟨rfl, rfl⟩
    · have hA : A = 30 := by rw [HA.out]; simp [bI, hy]
      rw [hA]
      clear HA hA
      subst hy
      go_enter Try.func37, Try.ntmps37
      go_wp2_with (go_at_call 44; refine (hw _).mono ?_; rintro e w' ⟨rfl, rfl⟩)
      go_ret
      exact ⟨rfl, rfl⟩
  · have hy1 : (y == 10) = false := by simp [hy]
    cases W
    · have hA : A = 42 := by rw [HA.out]; simp [bI, hy]
      rw [hA]
      clear HA hA hy
      go_enter Try.func37, Try.ntmps37
      go_wp2_with (go_at_call 44; refine (hw _).mono ?_; rintro e w' ⟨rfl, rfl⟩)
      go_ret
      exact ⟨rfl, rfl⟩
    · have hA : A = 26 := by rw [HA.out]; simp [bI, hy]
      rw [hA]
      clear HA hA hy
      go_enter Try.func37, Try.ntmps37
      go_wp2_with (go_at_call 44; refine (hw _).mono ?_; rintro e w' ⟨rfl, rfl⟩)
      go_ret
      exact ⟨rfl, rfl⟩
set_option maxHeartbeats 2000000 in
theorem ref_mid (b off n p cap : Nat) (w : World) (hn : 0 < p) (hp : p < n) (hm : n ≤ 35184372088832) (x y A : Int) (U W : Bool) (d0 : w.cell? ⟨b, off + (p - 1), none⟩ = some (.int .i64 x)) (d1 : w.cell? ⟨b, off + p, none⟩ = some (.int .i64 y))
    (hx : ∀ w, Calls Try.prog 44 #[.int .i64 x] w fun e w' => e = .returned (.bool U) ∧ w' = w) (hw : ∀ w, Calls Try.prog 44 #[.int .i64 y] w fun e w' => e = .returned (.bool W) ∧ w' = w)
    (X10 Y10 : Bool) (hX : decide (x = 10) = X10) (hY : decide (y = 10) = Y10) (HA : Hid (A = bI X10 4 + bI Y10 8 + (if U != W then 16 else 32))) :
    Calls Try.prog 37 #[.slice (some ⟨b, off, none⟩) n cap, .int .i64 p] w fun e w' => e = .returned (.int .i64 A) ∧ w' = w := by
  have hp0 : ((p : Int) == 0) = false := by simp; omega
  have hX1 : (x == 10) = X10 := by rw [← hX]; rfl
  have hY1 : (y == 10) = Y10 := by rw [← hY]; rfl
  clear hX hY
  cases X10 <;> cases Y10 <;> cases U <;> cases W
  · obtain rfl : A = 32 := HA.out
    go_enter Try.func37, Try.ntmps37
    go_wp2_with fail
    refine (hx _).mono ?_
    rintro e w' ⟨rfl, rfl⟩
    go_wp2_with fail
    refine (hw _).mono ?_
    rintro e w'' ⟨rfl, rfl⟩
    go_wp2
    go_ret
    exact ⟨rfl, rfl⟩
  · obtain rfl : A = 16 := HA.out
    go_enter Try.func37, Try.ntmps37
    go_wp2_with fail
    refine (hx _).mono ?_
    rintro e w' ⟨rfl, rfl⟩
    go_wp2_with fail
    refine (hw _).mono ?_
    rintro e w'' ⟨rfl, rfl⟩
    go_wp2
    go_ret
    exact ⟨rfl, rfl⟩
  · obtain rfl : A = 16 := HA.out
    go_enter Try.func37, Try.ntmps37
    go_wp2_with fail
    refine (hx _).mono ?_
    rintro e w' ⟨rfl, rfl⟩
    go_wp2_with fail
    refine (hw _).mono ?_
    rintro e w'' ⟨rfl, rfl⟩
    go_wp2
    go_ret
    exact ⟨rfl, rfl⟩
  · obtain rfl : A = 32 := HA.out
    go_enter Try.func37, Try.ntmps37
    go_wp2_with fail
    refine (hx _).mono ?_
    rintro e w' ⟨rfl, rfl⟩
    go_wp2_with fail
    refine (hw _).mono ?_
    rintro e w'' ⟨rfl, rfl⟩
    go_wp2
    go_ret
    exact ⟨rfl, rfl⟩
  · obtain rfl : A = 40 := HA.out
    go_enter Try.func37, Try.ntmps37
    go_wp2_with fail
    refine (hx _).mono ?_
    rintro e w' ⟨rfl, rfl⟩
    go_wp2_with fail
    refine (hw _).mono ?_
    rintro e w'' ⟨rfl, rfl⟩
    go_wp2
    go_ret
    exact ⟨rfl, rfl⟩
  · obtain rfl : A = 24 := HA.out
    go_enter Try.func37, Try.ntmps37
    go_wp2_with fail
    refine (hx _).mono ?_
    rintro e w' ⟨rfl, rfl⟩
    go_wp2_with fail
    refine (hw _).mono ?_
    rintro e w'' ⟨rfl, rfl⟩
    go_wp2
    go_ret
    exact ⟨rfl, rfl⟩
  · obtain rfl : A = 24 := HA.out
    go_enter Try.func37, Try.ntmps37
    go_wp2_with fail
    refine (hx _).mono ?_
    rintro e w' ⟨rfl, rfl⟩
    go_wp2_with fail
    refine (hw _).mono ?_
    rintro e w'' ⟨rfl, rfl⟩
    go_wp2
    go_ret
    exact ⟨rfl, rfl⟩
  · obtain rfl : A = 40 := HA.out
    go_enter Try.func37, Try.ntmps37
    go_wp2_with fail
    refine (hx _).mono ?_
    rintro e w' ⟨rfl, rfl⟩
    go_wp2_with fail
    refine (hw _).mono ?_
    rintro e w'' ⟨rfl, rfl⟩
    go_wp2
    go_ret
    exact ⟨rfl, rfl⟩
  · obtain rfl : A = 36 := HA.out
    go_enter Try.func37, Try.ntmps37
    go_wp2_with fail
    refine (hx _).mono ?_
    rintro e w' ⟨rfl, rfl⟩
    go_wp2_with fail
    refine (hw _).mono ?_
    rintro e w'' ⟨rfl, rfl⟩
    go_wp2
    go_ret
    exact ⟨rfl, rfl⟩
  · obtain rfl : A = 20 := HA.out
    go_enter Try.func37, Try.ntmps37
    go_wp2_with fail
    refine (hx _).mono ?_
    rintro e w' ⟨rfl, rfl⟩
    go_wp2_with fail
    refine (hw _).mono ?_
    rintro e w'' ⟨rfl, rfl⟩
    go_wp2
    go_ret
    exact ⟨rfl, rfl⟩
  · obtain rfl : A = 20 := HA.out
    go_enter Try.func37, Try.ntmps37
    go_wp2_with fail
    refine (hx _).mono ?_
    rintro e w' ⟨rfl, rfl⟩
    go_wp2_with fail
    refine (hw _).mono ?_
    rintro e w'' ⟨rfl, rfl⟩
    go_wp2
    go_ret
    exact ⟨rfl, rfl⟩
  · obtain rfl : A = 36 := HA.out
    go_enter Try.func37, Try.ntmps37
    go_wp2_with fail
    refine (hx _).mono ?_
    rintro e w' ⟨rfl, rfl⟩
    go_wp2_with fail
    refine (hw _).mono ?_
    rintro e w'' ⟨rfl, rfl⟩
    go_wp2
    go_ret
    exact ⟨rfl, rfl⟩
  · obtain rfl : A = 44 := HA.out
    go_enter Try.func37, Try.ntmps37
    go_wp2_with fail
    refine (hx _).mono ?_
    rintro e w' ⟨rfl, rfl⟩
    go_wp2_with fail
    refine (hw _).mono ?_
    rintro e w'' ⟨rfl, rfl⟩
    go_wp2
    go_ret
    exact ⟨rfl, rfl⟩
  · obtain rfl : A = 28 := HA.out
    go_enter Try.func37, Try.ntmps37
    go_wp2_with fail
    refine (hx _).mono ?_
    rintro e w' ⟨rfl, rfl⟩
    go_wp2_with fail
    refine (hw _).mono ?_
    rintro e w'' ⟨rfl, rfl⟩
    go_wp2
    go_ret
    exact ⟨rfl, rfl⟩
  · obtain rfl : A = 28 := HA.out
    go_enter Try.func37, Try.ntmps37
    go_wp2_with fail
    refine (hx _).mono ?_
    rintro e w' ⟨rfl, rfl⟩
    go_wp2_with fail
    refine (hw _).mono ?_
    rintro e w'' ⟨rfl, rfl⟩
    go_wp2
    go_ret
    exact ⟨rfl, rfl⟩
  · obtain rfl : A = 44 := HA.out
    go_enter Try.func37, Try.ntmps37
    go_wp2_with fail
    refine (hx _).mono ?_
    rintro e w' ⟨rfl, rfl⟩
    go_wp2_with fail
    refine (hw _).mono ?_
    rintro e w'' ⟨rfl, rfl⟩
    go_wp2
    go_ret
    exact ⟨rfl, rfl⟩
theorem ref_in (l : List Int) (ad : Option Addr) (n cap p : Nat) (w : World) (N : Nat) (hT : TextAt N w ad n l) (hp : p ≤ n) :
    Calls Try.prog 37 #[.slice ad n cap, .int .i64 p] w fun e w' => e = .returned (.int .i64 (atP l p)) ∧ w' = w := by
  obtain ⟨hn, hm, h⟩ := hT
  by_cases h1 : n = 0
  · have hl : l = [] := List.eq_nil_of_length_eq_zero (by omega)
    obtain rfl : p = 0 := by omega
    subst hl h1
    rw [atP_none]
    exact ref_none ad cap w
  · obtain ⟨b, off, rfl, hbN, hc⟩ := h.resolve_left h1
    by_cases h0 : p = 0
    · subst h0
      exact ref_first b off n cap w (by omega) hm _ _ _ (hc 0 (by omega)) (fun w => word79 _ w) (atP_first l (by omega))
    · by_cases h2 : p = n
      · subst h2
        refine ref_last b off p cap w (by omega) hm _ _ _ (hc (p - 1) (by omega)) (fun w => word79 _ w) ?_
        rw [hn]
        exact atP_last l (by omega)
      · exact ref_mid b off n p cap w (by omega) (by omega) hm _ _ _ _ _ (hc (p - 1) (by omega)) (hc p (by omega)) (fun w => word79 _ w) (fun w => word79 _ w) _ _ rfl rfl (atP_mid l p (by omega) (by omega))
end Go.Proofs.Ytiggbgmnibndoaa
/- HELPERS: plain mathematics of bits: and, or, and not with small numbers; Flip; Holds. -/
namespace Go.Lk
open Go.RowKit
set_option linter.unusedVariables false
set_option linter.unusedSimpArgs false
theorem wrap_i64 (n : Int) : IntKind.i64.wrap n = if 9223372036854775808 ≤ n % 18446744073709551616 then n % 18446744073709551616 - 18446744073709551616 else n % 18446744073709551616 := by
  simp [IntKind.wrap, IntKind.bits, IntKind.signed]
theorem toNat_i64 (x : Int) : (BitVec.ofInt 64 x).toNat = (x % 18446744073709551616).toNat := by
  simp [BitVec.toNat_ofInt]
theorem ofc (c : Nat) (hc : c < 64) : (BitVec.ofInt 64 (c : Int)).toNat = c := by rw [toNat_i64]; omega
theorem low_and (n c : Nat) (hc : c < 64) : n &&& c = (n % 64) &&& c := by
  have h : 63 &&& c = c := by
    have : ∀ c : Fin 64, 63 &&& c.val = c.val := by decide
    exact this ⟨c, hc⟩
  have h2 : n &&& 63 = n % 64 := Nat.and_two_pow_sub_one_eq_mod n 6
  rw [← h2, Nat.and_assoc, h]
theorem bits_def (op : BinOp) (x y : Int) : bits op .i64 x y = IntKind.i64.wrap ((match op with
    | .and => BitVec.ofInt 64 x &&& BitVec.ofInt 64 y
    | .or => BitVec.ofInt 64 x ||| BitVec.ofInt 64 y
    | .xor => BitVec.ofInt 64 x ^^^ BitVec.ofInt 64 y
    | _ => BitVec.ofInt 64 x &&& ~~~BitVec.ofInt 64 y).toNat : Nat) := rfl
theorem and_le_c (n c : Nat) : n &&& c ≤ c := Nat.and_le_right
theorem bit_and (x : Int) (c : Nat) (hc : c < 64) : bits .and .i64 x c = (((x % 64).toNat &&& c : Nat) : Int) := by
  rw [bits_def]
  simp only
  rw [BitVec.toNat_and, ofc c hc, toNat_i64, low_and _ c hc]
  have h1 : (x % 18446744073709551616).toNat % 64 = (x % 64).toNat := by omega
  rw [h1, wrap_i64]
  have := and_le_c (x % 64).toNat c
  omega
def back : Nat → Nat
  | 0 => 2
  | 1 => 1
  | 2 => 8
  | 3 => 4
  | 4 => 16
  | _ => 32
def bk : Nat → Nat → Nat
  | 0, _ => 0
  | k + 1, m => if m.testBit k then bk k m ||| back k else bk k m
def put (k : Nat) (x : Int) : Int := x - x % 64 + (bk k (x % 64).toNat : Nat)
end Go.Lk
/- HELPERS: plain mathematics of bits: when all bits of one number are bits of another. -/
namespace Go.Lk
open Go.RowKit
set_option linter.unusedVariables false
set_option linter.unusedSimpArgs false
/-- the bit j of a number, in two's form -/
def bitI (x : Int) (j : Nat) : Bool := decide ((x / (2 ^ j : Nat)) % 2 = 1)
theorem div_low (x : Int) (j i : Nat) (h : j + i = 63) : (x % 18446744073709551616) / ((2 ^ j : Nat) : Int) % 2 = x / ((2 ^ j : Nat) : Int) % 2 := by
  have hp : (18446744073709551616 : Int) = ((2 ^ j : Nat) : Int) * (2 * ((2 ^ i : Nat) : Int)) := by
    have : (2 : Nat) ^ 64 = 2 ^ j * (2 * 2 ^ i) := by rw [← Nat.pow_succ', ← Nat.pow_add]; congr 1; omega
    have h2 : (((2 : Nat) ^ 64 : Nat) : Int) = ((2 ^ j * (2 * 2 ^ i) : Nat) : Int) := by rw [this]
    rw [Int.natCast_mul, Int.natCast_mul] at h2
    exact h2
  have hpos : ((2 ^ j : Nat) : Int) ≠ 0 := by have := Nat.two_pow_pos j; omega
  have hx : x = x % 18446744073709551616 + ((2 ^ j : Nat) : Int) * (2 * ((2 ^ i : Nat) : Int) * (x / 18446744073709551616)) := by
    have h1 := Int.emod_add_mul_ediv x 18446744073709551616
    rw [← Int.mul_assoc, ← hp]
    omega
  have h2 : x / ((2 ^ j : Nat) : Int) = (x % 18446744073709551616) / ((2 ^ j : Nat) : Int) + 2 * ((2 ^ i : Nat) : Int) * (x / 18446744073709551616) := by
    conv => lhs; rw [hx]
    rw [Int.add_mul_ediv_left _ _ hpos]
  rw [h2, Int.mul_assoc]
  omega
theorem lsb_i64 (x : Int) (j : Nat) (hj : j < 64) : (BitVec.ofInt 64 x).getLsbD j = bitI x j := by
  have h1 : (BitVec.ofInt 64 x).getLsbD j = (BitVec.ofInt 64 x).toNat.testBit j := rfl
  rw [h1, toNat_i64, Nat.testBit_eq_decide_div_mod_eq]
  unfold bitI
  rw [← div_low x j (63 - j) (by omega)]
  have h0 : 0 ≤ x % 18446744073709551616 := by omega
  obtain ⟨r, hr⟩ := Int.eq_ofNat_of_zero_le h0
  rw [hr]
  simp only [Int.toNat_natCast]
  rw [← Int.natCast_ediv]
  congr 1
  simp only [eq_iff_iff]
  omega
theorem wrap_zero (n : Nat) (h : n < 18446744073709551616) : IntKind.i64.wrap (n : Int) = 0 ↔ n = 0 := by
  rw [wrap_i64]
  omega
/-- all bits of x are bits of y -/
theorem holds_iff (x y : Int) : bits .andNot .i64 x y = 0 ↔ ∀ j, j < 64 → bitI x j = true → bitI y j = true := by
  rw [bits_def]
  simp only
  rw [wrap_zero _ (BitVec.isLt _)]
  constructor
  · intro h j hj hx
    have h0 : BitVec.ofInt 64 x &&& ~~~BitVec.ofInt 64 y = 0#64 := BitVec.eq_of_toNat_eq (by rw [h]; rfl)
    have h2 := congrArg (fun v => v.getLsbD j) h0
    simp only [BitVec.getLsbD_and, BitVec.getLsbD_not, lsb_i64 x j hj, lsb_i64 y j hj, hx] at h2
    simpa [hj] using h2
  · intro h
    have h0 : BitVec.ofInt 64 x &&& ~~~BitVec.ofInt 64 y = 0#64 := by
      apply BitVec.eq_of_getLsbD_eq
      intro j hj
      have h2 := h j hj
      simp only [BitVec.getLsbD_and, BitVec.getLsbD_not, lsb_i64 x j hj, lsb_i64 y j hj]
      cases hx : bitI x j
      · simp
      · simp [h2 hx]
    rw [h0]; rfl
def holdsB (x y : Int) : Bool := bits .andNot .i64 x y == 0
end Go.Lk
/- HELPERS: the document's Holds. -/
namespace Go.Proofs.Ytiggbgmnibndoaa
open Go.RowKit Go.Lk
set_option linter.unusedVariables false
set_option linter.unusedSimpArgs false
theorem and_one (x : Int) : bits .and .i64 x 1 = x % 2 := by
  have h := bit_and x 1 (by omega)
  have hA : ∀ m : Fin 64, m.val &&& 1 = m.val % 2 := by decide +kernel
  have h2 := hA ⟨(x % 64).toNat, by omega⟩
  simp only at h2
  rw [show ((1 : Nat) : Int) = 1 from rfl, h2] at h
  rw [h]; omega
theorem sh_bit (x : Int) (k : Nat) (hk : k < 64) : (bits .and .i64 (x / 2 ^ k) 1 == 1) = bitI x k ∧ (bits .and .i64 (x / 2 ^ k) 1 == 0) = !bitI x k := by
  rw [and_one]
  unfold bitI
  have e : ((2 ^ k : Nat) : Int) = (2 : Int) ^ k := by simp
  rw [e]
  generalize x / 2 ^ k = z
  constructor
  · rw [Bool.eq_iff_iff]; simp
  · rw [Bool.eq_iff_iff]; simp; omega
set_option maxHeartbeats 1000000 in
theorem holds57 (x y : Int) (w : World) : Calls Try.prog 38 #[.int .i64 x, .int .i64 y] w fun e w' => e = .returned (.bool (holdsB x y)) ∧ w' = w := by
  have HR : Hid (holdsB x y = true ↔ ∀ j, j < 64 → bitI x j = true → bitI y j = true) := by
    show _ ↔ _
    unfold holdsB
    rw [beq_iff_eq, holds_iff]
  generalize holdsB x y = R at HR ⊢
  go_enter Try.func38, Try.ntmps38
  go_wp2
  go_loopw [5] (fun i wr => ∃ (k : Nat), k ≤ 64 ∧ i = .int .i64 k ∧ wr = w ∧ Hid (∀ j, j < k → bitI x j = true → bitI y j = true)) (fun i _ => 64 - (intOf i).toNat)
  case atStart => exact ⟨0, by omega, rfl, rfl, fun j hj => absurd hj (by omega)⟩
  case round =>
    obtain ⟨k, hk, rfl, rfl, HB⟩ := hrel
    by_cases hlt : k < 64
    · obtain ⟨e1, e2⟩ := sh_bit x k hlt
      obtain ⟨e3, e4⟩ := sh_bit y k hlt
      have hmin : min k 64 = k := by omega
      cases hx : bitI x k
      · have HS : Hid (∀ j, j < k + 1 → bitI x j = true → bitI y j = true) := by
          intro j hj hb
          by_cases hjk : j = k
          · subst hjk; rw [hx] at hb; cases hb
          · exact HB.out j (by omega) hb
        rw [hx] at e1 e2
        clear hx HB
        go_wp2
        go_roundw
        case rel => exact ⟨k + 1, by omega, by go_num, trivial, HS⟩
        case measure => simp [intOf]; omega
      · cases hy : bitI y k
        · have hR : R = false := by
            cases R
            · rfl
            · have h2 := HR.out.1 rfl k hlt hx
              rw [hy] at h2; cases h2
          subst hR
          rw [hx] at e1 e2
          rw [hy] at e3 e4
          clear hx hy HB HR
          go_wp2
          go_ret
          exact ⟨rfl, rfl⟩
        · have HS : Hid (∀ j, j < k + 1 → bitI x j = true → bitI y j = true) := by
            intro j hj hb
            by_cases hjk : j = k
            · subst hjk; exact hy
            · exact HB.out j (by omega) hb
          rw [hx] at e1 e2
          rw [hy] at e3 e4
          clear hx hy HB
          go_wp2
          go_roundw
          case rel => exact ⟨k + 1, by omega, by go_num, trivial, HS⟩
          case measure => simp [intOf]; omega
    · obtain rfl : k = 64 := by omega
      have hR : R = true := HR.out.2 (fun j hj => HB.out j hj)
      subst hR
      go_wp2
      go_ret
      exact ⟨rfl, rfl⟩
end Go.Proofs.Ytiggbgmnibndoaa
/- HELPERS: what an instruction does at a place, for lock step. -/
namespace Go.Proofs.Ytiggbgmnibndoaa
open Go.RowKit Go.Lk
set_option linter.unusedVariables false
set_option linter.unusedSimpArgs false
theorem wrap_ok (x : Int) (h : -9223372036854775808 ≤ x) (h2 : x < 9223372036854775808) : IntKind.i64.wrap x = x := by simp [IntKind.wrap, IntKind.bits, IntKind.signed]; omega
theorem may_ok {l : List In} {s k : Int} (h : mayB l s k = true) : l.length ≤ 20000 ∧ 0 ≤ s ∧ s < l.length ∧ 2 ≤ k ∧ k ≤ 1002 ∧ ∀ I ∈ l, I.okB l.length k = true := by
  simp only [mayB, belowB, capsB, Bool.and_eq_true, decide_eq_true_eq, List.all_eq_true] at h
  exact ⟨h.1.1.1, h.1.1.2.1, h.1.1.2.2, h.1.2.1.1, h.1.2.1.2, h.2⟩
theorem ok_op {I : In} {n k : Int} (h : I.okB n k = true) : (I.op = 1 ∨ I.op = 2 ∨ I.op = 3 ∨ I.op = 4 ∨ I.op = 5 ∨ I.op = 6 ∨ I.op = 7) := by
  simp only [In.okB, Bool.and_eq_true] at h
  have h3 := h.1.2
  unfold isArgB at h3
  split at h3
  · rename_i e; simp at e; omega
  · split at h3
    · rename_i e; simp at e; omega
    · split at h3
      · rename_i e; simp at e; omega
      · split at h3
        · rename_i e; simp at e; omega
        · cases h3
def actI (tx : List Int) (I : In) (j : Nat) : Ac :=
  if I.op = 2 then .alt I.x.toNat I.y.toNat
  else if I.op = 7 then .go I.x.toNat
  else if I.op = 3 then .cap I.x.toNat I.a.toNat
  else if I.op = 4 then (if holdsB I.a (atP tx j) = true then .go I.x.toNat else .stop)
  else if I.op = 1 then (if (decide (j < tx.length) && hsB I.R (tx.getD j 0)) = true then .rune I.x.toNat else .stop)
  else if I.op = 5 then .fit I.a
  else .stop
def act (l : List In) (tx : List Int) (j i : Nat) : Ac := actI tx (l.getD i default) j
def prOf (l : List In) (tx : List Int) (S K : Nat) : Pr := ⟨act l tx, l.length, S, K⟩
theorem ok_x {I : In} {n k : Int} (h : I.okB n k = true) (hx : hasXB I.op = true) : 0 ≤ I.x ∧ I.x < n := by
  simp only [In.okB, Bool.and_eq_true, isTargetB, hx, if_true, belowB, decide_eq_true_eq] at h
  exact h.1.1.1
theorem ok_y {I : In} {n k : Int} (h : I.okB n k = true) (hy : hasYB I.op = true) : 0 ≤ I.y ∧ I.y < n := by
  simp only [In.okB, Bool.and_eq_true, isTargetB, hy, if_true, belowB, decide_eq_true_eq] at h
  exact h.1.1.2
theorem ok_a {I : In} {n k : Int} (h : I.okB n k = true) (ho : I.op = 3) : 0 ≤ I.a ∧ I.a < k := by
  simp only [In.okB, Bool.and_eq_true, isArgB, ho] at h
  have := h.1.2
  simp [belowB] at this
  exact this
theorem ok_a5 {I : In} {n k : Int} (h : I.okB n k = true) (ho : I.op = 5) : 0 ≤ I.a ∧ I.a < 100 := by
  simp only [In.okB, Bool.and_eq_true, isArgB, ho] at h
  have := h.1.2
  simp [belowB] at this
  exact this
theorem ok_R {I : In} {n k : Int} (h : I.okB n k = true) (ho : I.op = 1) : rightB I.R = true := by
  simp only [In.okB, Bool.and_eq_true, isRangesB, ho] at h
  have := h.2
  simp at this
  exact this.2
theorem ok_R0 {I : In} {n k : Int} (h : I.okB n k = true) (ho : I.op ≠ 1) : I.R = [] := by
  simp only [In.okB, Bool.and_eq_true, isRangesB] at h
  have := h.2
  rw [if_neg (by simpa using ho)] at this
  simpa using this
theorem actI_ok {tx : List Int} {I : In} {n : Nat} {k : Int} {j : Nat} (h : I.okB n k = true) : (actI tx I j).ok n := by
  unfold actI
  split
  · rename_i e
    have h1 := ok_x h (by rw [e]; rfl)
    have h2 := ok_y h (by rw [e]; rfl)
    exact ⟨by omega, by omega⟩
  · split
    · rename_i e
      have h1 := ok_x h (by rw [e]; rfl)
      show _ < _
      omega
    · split
      · rename_i e
        have h1 := ok_x h (by rw [e]; rfl)
        show _ < _
        omega
      · split
        · rename_i e
          split
          · have h1 := ok_x h (by rw [e]; rfl)
            show _ < _
            omega
          · trivial
        · split
          · rename_i e
            split
            · have h1 := ok_x h (by rw [e]; rfl)
              show _ < _
              omega
            · trivial
          · split <;> trivial
theorem getD_in' {l : List In} {i : Nat} (hi : i < l.length) : l.getD i default = l[i] := by simp [List.getD_eq_getElem?_getD, List.getElem?_eq_getElem hi]
theorem act_ok {l : List In} {tx : List Int} {s k : Int} (h : mayB l s k = true) (j i : Nat) (hi : i < l.length) : (act l tx j i).ok l.length := by
  unfold act
  rw [getD_in' hi]
  exact actI_ok ((may_ok h).2.2.2.2.2 _ (List.getElem_mem hi))
theorem pr_ok {l : List In} {tx : List Int} {S K : Nat} (h : mayB l (S : Int) (K : Int) = true) : (prOf l tx S K).Ok := by
  have hm := may_ok h
  exact ⟨fun j i hi => act_ok h j i hi, by show S < l.length; omega⟩
theorem act_end (l : List In) (tx : List Int) (i x : Nat) : act l tx tx.length i ≠ .rune x := by
  unfold act actI
  intro h
  split at h
  · cases h
  · split at h
    · cases h
    · split at h
      · cases h
      · split at h
        · split at h <;> cases h
        · split at h
          · simp at h
          · split at h <;> cases h
end Go.Proofs.Ytiggbgmnibndoaa
/- HELPERS: the search in a class. -/
namespace Go.Proofs.Ytiggbgmnibndoaa
open Go.RowKit
set_option linter.unusedVariables false
set_option linter.unusedSimpArgs false
end Go.Proofs.Ytiggbgmnibndoaa
/- HELPERS: the contracts of the small functions of package look: the table of rows, Holds, Word, the methods of a spot. -/
namespace Go.Proofs.Ytiggbgmnibndoaa.Look
open Go.RowKit
set_option linter.unusedVariables false
set_option linter.unusedSimpArgs false
/-- is a number a rune of the domain -/
def dom (r : Int) : Bool := decide (0 ≤ r ∧ r < 55296 ∨ 57343 < r ∧ r ≤ 1114111)
/-- is a rune one of a word -/
def wordR (r : Int) : Bool := decide (48 ≤ r ∧ r ≤ 57 ∨ 65 ≤ r ∧ r ≤ 90 ∨ 97 ≤ r ∧ r ≤ 122 ∨ r = 95)
end Go.Proofs.Ytiggbgmnibndoaa.Look
/- HELPERS: the contracts of the methods of a spot: what holds at a place. -/
namespace Go.Proofs.Ytiggbgmnibndoaa.Look
open Go.RowKit
set_option linter.unusedVariables false
set_option linter.unusedSimpArgs false
/-- a text in memory, below N -/
def TextAt (N : Nat) (w : World) (ad : Option Addr) (n : Nat) (l : List Int) : Prop :=
  n = l.length ∧ n ≤ 35184372088832 ∧ (n = 0 ∨ ∃ b off, ad = some ⟨b, off, none⟩ ∧ b < N ∧ ∀ k, k < n → w.cell? ⟨b, off + k, none⟩ = some (.int .i64 (l.getD k 0)))
theorem TextAt.below {N : Nat} {w w' : World} {ad : Option Addr} {n : Nat} {l : List Int} (h : TextAt N w ad n l) (hb : Below N w w') : TextAt N w' ad n l := by
  obtain ⟨h1, h2, h | ⟨b, off, ha, hbN, hc⟩⟩ := h
  · exact ⟨h1, h2, .inl h⟩
  · exact ⟨h1, h2, .inr ⟨b, off, ha, hbN, fun k hk => (hb.cell (p := ⟨b, off + k, none⟩) hbN).trans (hc k hk)⟩⟩
theorem TextAt.mono {N M : Nat} {w : World} {ad : Option Addr} {n : Nat} {l : List Int} (h : TextAt N w ad n l) (hNM : N ≤ M) : TextAt M w ad n l := by
  obtain ⟨h1, h2, h | ⟨b, off, ha, hbN, hc⟩⟩ := h
  · exact ⟨h1, h2, .inl h⟩
  · exact ⟨h1, h2, .inr ⟨b, off, ha, by omega, hc⟩⟩
def spot (ad : Option Addr) (n cap : Nat) (p : Int) : Value := .agg #[.slice ad n cap, .int .i64 p]
def begB (p : Nat) : Bool := decide (p = 0)
def endB (l : List Int) (p : Nat) : Bool := decide (p = l.length)
def blB (l : List Int) (p : Nat) : Bool := decide (p = 0) || decide (l.getD (p - 1) 0 = 10)
def elB (l : List Int) (p : Nat) : Bool := decide (p = l.length) || decide (l.getD p 0 = 10)
def waB (l : List Int) (p : Nat) : Bool := decide (0 < p) && wordR (l.getD (p - 1) 0)
def wbB (l : List Int) (p : Nat) : Bool := decide (p < l.length) && wordR (l.getD p 0)
end Go.Proofs.Ytiggbgmnibndoaa.Look
/- HELPERS: the contract of At. -/
namespace Go.Proofs.Ytiggbgmnibndoaa.Look
open Go.RowKit
set_option linter.unusedVariables false
set_option linter.unusedSimpArgs false
def edgeB (l : List Int) (p : Nat) : Bool := waB l p != wbB l p
/-- a world that has grown out of w, with a box of two cells at g -/
def Box (w : World) (g : Nat) (v : Value) (p : Int) (w' : World) : Prop := Below w.heap.size w w' ∧ w'.cell? ⟨g, 0, none⟩ = some v ∧ w'.cell? ⟨g, 1, none⟩ = some (.int .i64 p) ∧ g < w'.heap.size
theorem Box.below {w : World} {g : Nat} {v : Value} {p : Int} {w1 w2 : World} (h : Box w g v p w1) (hb : Below w1.heap.size w1 w2) : Box w g v p w2 :=
  ⟨h.1.trans (hb.mono h.1.size), (hb.cell (p := ⟨g, 0, none⟩) h.2.2.2).trans h.2.1, (hb.cell (p := ⟨g, 1, none⟩) h.2.2.2).trans h.2.2.1, Nat.lt_of_lt_of_le h.2.2.2 hb.size⟩
theorem Box.new (w : World) (v : Value) (p : Int) : Box w w.heap.size v p (w.alloc (.cells #[v, .int .i64 p] 110)) := by
  refine ⟨(Below.refl _ _).alloc (Nat.le_refl _) _, ?_, ?_, by simp⟩
  · rw [World.cell?_alloc_at _ _ _ _ rfl]; rfl
  · rw [World.cell?_alloc_at _ _ _ _ rfl]; rfl
theorem Box.drew {w : World} {g : Nat} {v : Value} {p : Int} {w1 : World} (h : Box w g v p w1) : Box w g v p w1.drew :=
  ⟨h.1.trans ⟨rfl, rfl, rfl, Nat.le_refl _, fun _ _ => rfl⟩, h.2.1, h.2.2.1, h.2.2.2⟩
def bI (b : Bool) (x : Int) : Int := if b then x else 0
/-- the sum of the first k of six -/
def sumB (b1 b2 b3 b4 b5 : Bool) : Nat → Int
  | 0 => 0
  | 1 => bI b1 1
  | 2 => bI b1 1 + bI b2 2
  | 3 => bI b1 1 + bI b2 2 + bI b3 4
  | 4 => bI b1 1 + bI b2 2 + bI b3 4 + bI b4 8
  | 5 => bI b1 1 + bI b2 2 + bI b3 4 + bI b4 8 + bI b5 16
  | _ => bI b1 1 + bI b2 2 + bI b3 4 + bI b4 8 + bI b5 16 + bI (!b5) 32
/-- what holds at a place -/
def atP (l : List Int) (p : Nat) : Int := sumB (begB p) (endB l p) (blB l p) (elB l p) (edgeB l p) 6
end Go.Proofs.Ytiggbgmnibndoaa.Look
/- HELPERS: sets of numbers: a bit a number, and the row of those that came. -/
namespace Go.Proofs.Ytiggbgmnibndoaa
open Go.RowKit
set_option linter.unusedVariables false
set_option linter.unusedSimpArgs false
theorem u64_in' (n : Int) (h0 : 0 ≤ n) (h : n < 2 ^ 64) : IntKind.u64.wrap n = n := by
  simp [IntKind.wrap, IntKind.bits, IntKind.signed]
  omega
theorem pow_lt (i : Nat) : 2 ^ (i % 64) < 2 ^ 64 := Nat.pow_lt_pow_right (by decide) (Nat.mod_lt _ (by decide))
abbrev U64 (M : List Nat) : List Value := M.map (fun (x : Nat) => Value.int .u64 (x : Int))
theorem getD_in (M : List Nat) {j : Nat} (hj : j < M.length) : M.getD j 0 = M[j] := by simp [List.getD, hj]
theorem and_pow (a k : Nat) : a &&& 2 ^ k = if a.testBit k then 2 ^ k else 0 := by
  apply Nat.eq_of_testBit_eq
  intro j
  rw [Nat.testBit_and, Nat.testBit_two_pow]
  by_cases hj : k = j
  · subst hj
    by_cases h : a.testBit k = true
    · simp [h, Nat.testBit_two_pow]
    · simp [h]
  · by_cases h : a.testBit k = true
    · simp [h, Nat.testBit_two_pow, hj]
    · simp [h, hj]
/-- the bits of M tell of the numbers below n which are in l -/
structure Marks (n : Nat) (M : List Nat) (l : List Int) : Prop where
  len : M.length = (n + 63) / 64
  fits : ∀ x ∈ M, x < 2 ^ 64
  bit : ∀ i, i < n → (M.getD (i / 64) 0).testBit (i % 64) = decide ((i : Int) ∈ l)
  rng : ∀ x ∈ l, 0 ≤ x ∧ x < n
theorem Marks.get {n : Nat} {M : List Nat} {l : List Int} (h : Marks n M l) (j : Nat) : M.getD j 0 < 2 ^ 64 := by
  by_cases hj : j < M.length
  · rw [getD_in M hj]
    exact h.fits _ (List.getElem_mem hj)
  · rw [show M.getD j 0 = 0 by simp [List.getD, List.getElem?_eq_none (Nat.le_of_not_lt hj)]]
    decide
theorem Marks.has {n i : Nat} {M : List Nat} {l : List Int} (h : Marks n M l) (hi : i < n) :
    (bits .and .u64 ((M.getD (i / 64) 0 : Nat) : Int) ((2 ^ (i % 64) : Nat) : Int) != 0) = decide ((i : Int) ∈ l) := by
  rw [(bits_nat .u64 64 (by decide) u64_in' _ _ (h.get _) (pow_lt i)).1, ← h.bit i hi]
  rw [and_pow]
  have hp : 0 < 2 ^ (i % 64) := Nat.pow_pos (by decide)
  by_cases hb : (M.getD (i / 64) 0).testBit (i % 64) = true
  · rw [if_pos hb, hb]
    have : ((2 ^ (i % 64) : Nat) : Int) ≠ 0 := by omega
    exact bne_iff_ne.2 this
  · rw [if_neg hb]
    simp only [Bool.not_eq_true] at hb
    rw [hb]
    rfl
theorem Marks.add {n i : Nat} {M : List Nat} {l : List Int} (h : Marks n M l) (hi : i < n) :
    Marks n (M.set (i / 64) (M.getD (i / 64) 0 ||| 2 ^ (i % 64))) (l ++ [(i : Int)]) := by
  have hq : i / 64 < M.length := by rw [h.len]; omega
  refine ⟨by rw [List.length_set]; exact h.len, fun x hx => ?_, fun k hk => ?_, fun x hx => ?_⟩
  · rcases List.mem_or_eq_of_mem_set hx with hx | rfl
    · exact h.fits x hx
    · exact Nat.or_lt_two_pow (h.get _) (pow_lt i)
  · have e := h.bit k hk
    by_cases hkq : k / 64 = i / 64
    · rw [hkq, getD_in _ (by rw [List.length_set]; exact hq), List.getElem_set_self, Nat.testBit_or, ← hkq, e, Nat.testBit_two_pow]
      rw [Bool.eq_iff_iff]
      simp
      constructor
      · rintro (h | h)
        · exact .inl h
        · right; omega
      · rintro (h | h)
        · exact .inl h
        · right; omega
    · have hne : (k : Int) ≠ (i : Int) := fun h => hkq (by rw [show k = i by omega])
      rw [show (M.set (i / 64) (M.getD (i / 64) 0 ||| 2 ^ (i % 64))).getD (k / 64) 0 = M.getD (k / 64) 0 by
        simp [List.getD, List.getElem?_set, show ¬ i / 64 = k / 64 by omega], e]
      simp [hne]
  · rcases List.mem_append.1 hx with hx | hx
    · exact h.rng x hx
    · simp at hx; omega
theorem Marks.none (n : Nat) : Marks n (List.replicate ((n + 63) / 64) 0) [] := by
  refine ⟨by simp, fun x hx => ?_, fun i hi => ?_, fun x hx => by cases hx⟩
  · rw [List.eq_of_mem_replicate hx]; decide
  · have : (List.replicate ((n + 63) / 64) 0).getD (i / 64) 0 = 0 := by
      simp only [List.getD, List.getElem?_replicate]
      split <;> rfl
    rw [this]
    simp
/-- a set: its block, its marks, the row of those that came -/
def SetS (N : Nat) (w : World) (g : Nat) (F : List Nat) (n : Nat) (l : List Int) : Prop :=
  ∃ b c ov M, w.heap[g]? = some (.cells #[.int .i64 (n : Int), .slice (some ⟨b, 0, none⟩) ((n + 63) / 64) c, ov] 84 (0, 0)) ∧ N ≤ g ∧ n ≤ 1048576 ∧ w.ownsRow N 101 1 (.slice (some ⟨b, 0, none⟩) ((n + 63) / 64) c) ((n + 63) / 64) (U64 M) ∧ w.ownsRow N 3 1 ov l.length (I64 l) ∧ Marks n M l ∧ l.Nodup ∧ F = g :: b :: ov.ownBlock.toList
theorem SetS.low {N : Nat} {w : World} {g : Nat} {F : List Nat} {n : Nat} {l : List Int} (h : SetS N w g F n l) : ∀ k ∈ F, N ≤ k ∧ k < w.heap.size := by
  obtain ⟨b, c, ov, M, h1, h2, _, h3, h4, _, _, rfl⟩ := h
  intro k hk
  simp only [List.mem_cons, Option.mem_toList] at hk
  rcases hk with rfl | rfl | hk
  · exact ⟨h2, (Array.getElem?_eq_some_iff.1 h1).1⟩
  · exact h3.lt k rfl
  · exact h4.lt k hk
theorem SetS.kept {N : Nat} {w w' : World} {g : Nat} {F : List Nat} {n : Nat} {l : List Int} (h : SetS N w g F n l) (hk : ∀ k ∈ F, w'.heap[k]? = w.heap[k]?) : SetS N w' g F n l := by
  obtain ⟨b, c, ov, M, h1, h2, hn, h3, h4, h5, h6, rfl⟩ := h
  exact ⟨b, c, ov, M, (hk g (by simp)).trans h1, h2, hn, row_kept h3 (fun k hk' => by simp [Value.ownBlock] at hk'; subst hk'; exact hk b (by simp)), row_kept h4 (fun k hk' => hk k (by simp [hk'])), h5, h6, rfl⟩
end Go.Proofs.Ytiggbgmnibndoaa
/- HELPERS: the contracts of the methods of a set. -/
namespace Go.Proofs.Ytiggbgmnibndoaa
open Go.RowKit
set_option linter.unusedVariables false
set_option linter.unusedSimpArgs false
theorem SetS.mem {N : Nat} {w : World} {g : Nat} {F : List Nat} {n : Nat} {l : List Int} (h : SetS N w g F n l) : ∀ x ∈ l, 0 ≤ x ∧ x < n := by
  obtain ⟨b, c, ov, M, h1, h2, hn, h3, h4, h5, h6, rfl⟩ := h
  exact h5.rng
theorem SetS.drew {N : Nat} {w : World} {g : Nat} {F : List Nat} {n : Nat} {l : List Int} (h : SetS N w g F n l) (k : Nat) : SetS N (w.drewN k) g F n l := h
theorem Chg.drewN {w w' : World} {F F' : List Nat} (h : Chg w w' F F') (k : Nat) : Chg w (w'.drewN k) F F' := ⟨h.os, h.tape, h.output, h.size, h.block, h.new⟩
end Go.Proofs.Ytiggbgmnibndoaa
/- HELPERS: a new set, a cleared one; the call at the head of each law. -/
namespace Go.Proofs.Ytiggbgmnibndoaa
open Go.RowKit
set_option linter.unusedVariables false
set_option linter.unusedSimpArgs false
theorem setCells_chg {w w' : World} {F F' : List Nat} (b : Nat) (hb : b ∈ F) : ∀ (vs : List Value) (o : Nat) (w' : World), Chg w w' F F' → Chg w (w'.setCells b o vs) F F'
  | [], o, w', h => h
  | v :: vs, o, w', h => setCells_chg (w' := w') b hb vs (o + 1) _ (h.set v hb)
end Go.Proofs.Ytiggbgmnibndoaa
/- HELPERS: the machine in memory; its small questions. -/
namespace Go.Proofs.Ytiggbgmnibndoaa
open Go.RowKit Go.Lk
set_option linter.unusedVariables false
set_option linter.unusedSimpArgs false
/-- what the machine's cells hold -/
structure Mv where
  ad : Option Addr
  n : Nat
  c : Nat
  S : Nat
  K : Nat
  tad : Option Addr
  tn : Nat
  tc : Nat
  j : Nat
  sb : Nat
  bits : Int
  z1 : Option Addr
  n1 : Nat
  c1 : Nat
  k1 : Nat
  z2 : Option Addr
  n2 : Nat
  c2 : Nat
  k2 : Nat
  ub : Nat
  uc : Nat
  fok : Bool
  f1 : Option Addr
  f2 : Nat
  f3 : Nat
  fw : Int
  fs : Nat
abbrev Mv.cs (b : Nat) (M : Mv) : Array Value := #[.slice M.ad M.n M.c, .int .i64 (M.S : Int), .int .i64 (M.K : Int), .slice M.tad M.tn M.tc, .int .i64 (M.j : Int), .pointer (some ⟨M.sb, 0, none⟩), .int .i64 M.bits, .slice M.z1 M.n1 M.c1, .int .i64 (M.k1 : Int), .slice M.z2 M.n2 M.c2, .int .i64 (M.k2 : Int), .func (.func 30) #[.pointer (some ⟨b, 9, none⟩)] #[], .slice (some ⟨M.ub, 0, none⟩) M.K M.uc, .bool M.fok, .slice M.f1 M.f2 M.f3, .int .i64 M.fw, .int .i64 (M.fs : Int)]
/-- the machine's block -/
def MB (w : World) (b : Nat) (M : Mv) : Prop := w.heap[b]? = some (.cells (M.cs b) 62 (0, 0))
theorem MB.c {w : World} {b : Nat} {M : Mv} (h : MB w b M) (k : Nat) : w.cell? ⟨b, k, none⟩ = (M.cs b)[k]? := Joins.cell_of_block h k
theorem MB.u {w : World} {b : Nat} {M : Mv} (h : MB w b M) (k : Nat) : w.frozen? ⟨b, k, none⟩ = false := Joins.unfrozen_of_block h k
theorem MB.lt {w : World} {b : Nat} {M : Mv} (h : MB w b M) : b < w.heap.size := (Array.getElem?_eq_some_iff.1 h).1
theorem MB.kept {w w' : World} {b : Nat} {M : Mv} (h : MB w b M) (hk : w'.heap[b]? = w.heap[b]?) : MB w' b M := hk.trans h
end Go.Proofs.Ytiggbgmnibndoaa
/- HELPERS: slices.Repeat of one number, any number of times. -/
namespace Go.Proofs.Ytiggbgmnibndoaa
open Go.RowKit
set_option linter.unusedVariables false
set_option linter.unusedSimpArgs false
theorem size3 : (Try.prog.info? 3).map (·.size) = some 1 := by kernel_rfl
abbrev M1 : Value := .int .i64 (-1)
theorem makeN (c : Nat) (hc : c ≤ 10000) (w : World) : (Instr.makeSlice 29 (.int .i64 (c : Int)) (.int .i64 (c : Int))).run Try.prog w = .ok (.slice (some ⟨w.heap.size, 0, none⟩) c c) (w.alloc (.cells (madeCells #[.int .i64 0] c) 3)) :=
  run_make_row' (P := Try.prog) 29 3 (.int .i64 0) 8 Try.underlying29 info3 rfl .i64 .i64 c (by omega) (by omega) w
/-- a row of c cells of which the first ones are written -/
def RI (nb c n : Nat) (W : World) : Prop := ∃ arr : Array Value, W.heap[nb]? = some (.cells arr 3 (0, 0)) ∧ arr.size = c ∧ ∀ i, i < n → arr[i]? = some M1
theorem RI.next {nb c n : Nat} {W : World} (h : RI nb c n W) (hn : n < c) : RI nb c (n + 1) (W.setCell ⟨nb, n, none⟩ M1) := by
  obtain ⟨arr, h1, h2, h3⟩ := h
  refine ⟨arr.setIfInBounds n M1, Joins.block_setCell (i := n) h1 _, by simp [h2], fun i hi => ?_⟩
  by_cases e : i = n
  · subst e; simp [h2, hn]
  · rw [Array.getElem?_setIfInBounds_ne (by omega)]; exact h3 i (by omega)
theorem RI.more {nb c : Nat} : ∀ (k n : Nat) {W : World}, RI nb c n W → n + k ≤ c → RI nb c (n + k) (W.setCells nb n (List.replicate k M1)) := by
  intro k
  induction k with
  | zero => intro n W h _; exact h
  | succ k ih =>
    intro n W h hk
    rw [List.replicate_succ, World.setCells]
    have := ih (n + 1) (h.next (by omega)) (by omega)
    rwa [show n + 1 + k = n + (k + 1) by omega] at this
theorem RI.cell {nb c n : Nat} {W : World} (h : RI nb c n W) {i : Nat} (hi : i < n) : W.cell? ⟨nb, i, none⟩ = some M1 := by
  obtain ⟨arr, h1, h2, h3⟩ := h
  rw [Joins.cell_of_block h1 i]
  exact h3 i hi
theorem RI.some {nb c n : Nat} {W : World} (h : RI nb c n W) {i : Nat} (hi : i < c) : (W.cell? ⟨nb, i, none⟩).isSome = true := by
  obtain ⟨arr, h1, h2, h3⟩ := h
  rw [Joins.cell_of_block h1 i]
  simp [h2, hi]
theorem RI.free {nb c n : Nat} {W : World} (h : RI nb c n W) (i : Nat) : W.frozen? ⟨nb, i, none⟩ = false := by
  obtain ⟨arr, h1, h2, h3⟩ := h
  exact Joins.unfrozen_of_block h1 i
end Go.Proofs.Ytiggbgmnibndoaa
/- HELPERS: a program is copied. -/
namespace Go.Proofs.Ytiggbgmnibndoaa
open Go.RowKit
set_option linter.unusedVariables false
set_option linter.unusedSimpArgs false
abbrev Iv.rv (N : Iv) : Value := .slice N.r1 N.r2 N.r3
abbrev Z5 : Value := .agg #[.int .i64 0, .int .i64 0, .int .i64 0, .int .i64 0, .slice none 0 0]
end Go.Proofs.Ytiggbgmnibndoaa
/- HELPERS: the machine in memory: an assertion asked, a match, a thread put. -/
namespace Go.Proofs.Ytiggbgmnibndoaa
open Go.RowKit Go.Lk
set_option linter.unusedVariables false
set_option linter.unusedSimpArgs false
theorem MB.upd {w : World} {b : Nat} {M : Mv} (h : MB w b M) (k : Nat) (v : Value) (M' : Mv) (he : (M.cs b).setIfInBounds k v = M'.cs b) : MB (w.setCell ⟨b, k, none⟩ v) b M' := by
  have := Joins.block_setCell (i := k) h v
  rw [he] at this
  exact this
/-- what is found, in memory -/
def FD (w : World) (N K : Nat) (M : Mv) (fb : List Nat) : Fd → Prop
  | none => M.fok = false ∧ M.f1 = none ∧ M.f2 = 0 ∧ M.f3 = 0 ∧ M.fw = 0 ∧ fb = []
  | some y => ∃ g, M.fok = true ∧ M.f1 = some ⟨g, 0, none⟩ ∧ M.f2 = K ∧ M.f3 = K ∧ M.fw = y.1 ∧ fb = [g] ∧ w.ownsRow N 3 1 (.slice (some ⟨g, 0, none⟩) K K) K (I64 y.2)
theorem makeK (c : Nat) (hc : c ≤ 10000) (w : World) : (Instr.makeSlice 29 (.int .i64 (c : Int)) (.int .i64 (c : Int))).run Try.prog w = .ok (.slice (some ⟨w.heap.size, 0, none⟩) c c) (w.alloc (.cells (madeCells #[.int .i64 0] c) 3)) := makeN c hc w
theorem made_row (c N : Nat) (w : World) (hN : N ≤ w.heap.size) (hc : c ≤ 10000) : (w.alloc (.cells (madeCells #[.int .i64 0] c) 3)).ownsRow N 3 1 (.slice (some ⟨w.heap.size, 0, none⟩) c c) c (I64 (List.replicate c 0)) := by
  have h' := World.ownsRow_lit (base := N) (e := 3) (size := 1) w (madeCells #[.int .i64 0] c) c hN (by unfold maxLen; omega) (by rw [size_madeCells]; omega)
  rw [toList_madeCells_one] at h'
  simpa using h'
end Go.Proofs.Ytiggbgmnibndoaa
/- HELPERS: rows of threads in memory; a thread is put. -/
namespace Go.Proofs.Ytiggbgmnibndoaa
open Go.RowKit Go.Lk
set_option linter.unusedVariables false
set_option linter.unusedSimpArgs false
/-- a thread: its instruction, the block of its captures, the captures -/
structure En where
  i : Nat
  b : Nat
  c : List Int
instance : Inhabited En := ⟨⟨0, 0, []⟩⟩
def En.th (e : En) : Th := (e.i, e.c)
def En.cs (K : Nat) (e : En) : List Value := [.int .i64 (e.i : Int), .slice (some ⟨e.b, 0, none⟩) K K]
def cellsE (K : Nat) (E : List En) : List Value := E.flatMap (En.cs K)
theorem cellsE_get (K : Nat) : ∀ (E : List En) (k : Nat) (hk : k < E.length) (o : Nat), o < 2 → (cellsE K E)[k * 2 + o]? = (En.cs K E[k])[o]?
  | e :: E, 0, _, o, ho => by
    simp only [cellsE, List.flatMap_cons]
    rw [List.getElem?_append_left (by simp [En.cs]; omega)]
    simp
  | e :: E, k + 1, hk, o, ho => by
    have := cellsE_get K E k (by simpa using hk) o ho
    simp only [cellsE, List.flatMap_cons] at this ⊢
    rw [List.getElem?_append_right (by simp [En.cs]; omega)]
    rw [show (k + 1) * 2 + o - (En.cs K e).length = k * 2 + o by simp [En.cs]; omega]
    simpa using this
/-- a row of threads, each with captures of its own -/
structure RW (w : World) (N K : Nat) (z : Option Addr) (n c : Nat) (E : List En) : Prop where
  len : n = E.length
  row : w.ownsRow N 90 2 (.slice z n c) n (cellsE K E)
  caps : ∀ e ∈ E, w.ownsRow N 3 1 (.slice (some ⟨e.b, 0, none⟩) K K) K (I64 e.c)
  nd : (E.map En.b).Nodup
def zF (z : Option Addr) (n c : Nat) : List Nat := (Value.slice z n c).ownBlock.toList
def RWF (z : Option Addr) (n c : Nat) (E : List En) : List Nat := zF z n c ++ E.map En.b
theorem RW.kept {w w' : World} {N K n c : Nat} {z : Option Addr} {E : List En} (h : RW w N K z n c E) (hk : ∀ k ∈ RWF z n c E, w'.heap[k]? = w.heap[k]?) : RW w' N K z n c E :=
  ⟨h.len, row_kept h.row (fun b hb => hk b (by simp [RWF, zF, hb])), fun e he => row_kept (h.caps e he) (fun b hb => hk b (by simp [Value.ownBlock] at hb; subst hb; simp only [RWF, List.mem_append, List.mem_map]; exact .inr ⟨e, he, rfl⟩)), h.nd⟩
theorem RW.low {w : World} {N K n c : Nat} {z : Option Addr} {E : List En} (h : RW w N K z n c E) : ∀ k ∈ RWF z n c E, N ≤ k ∧ k < w.heap.size := by
  intro k hk
  simp only [RWF, zF, List.mem_append, Option.mem_toList, List.mem_map] at hk
  rcases hk with hk | ⟨e, he, rfl⟩
  · exact h.row.lt k hk
  · exact (h.caps e he).lt _ rfl
theorem RW.same {w w' : World} {N K n c : Nat} {z : Option Addr} {E : List En} (h : RW w N K z n c E) (e : w'.heap = w.heap) : RW w' N K z n c E := h.kept (fun k _ => by rw [e])
/-- the same memory -/
structure Eqw (w w' : World) : Prop where
  heap : w'.heap = w.heap
  os : w'.os = w.os
  tape : w'.tape = w.tape
  output : w'.output = w.output
theorem Eqw.drewN (w : World) (k : Nat) : Eqw w (w.drewN k) := ⟨rfl, rfl, rfl, rfl⟩
theorem Eqw.drew (w : World) : Eqw w w.drew := ⟨rfl, rfl, rfl, rfl⟩
theorem Eqw.trans {a b c : World} (h : Eqw a b) (k : Eqw b c) : Eqw a c := ⟨k.heap.trans h.heap, k.os.trans h.os, k.tape.trans h.tape, k.output.trans h.output⟩
theorem Eqw.blk {w w' : World} (h : Eqw w w') (k : Nat) : w'.heap[k]? = w.heap[k]? := by rw [h.heap]
theorem Eqw.below {w w' : World} (h : Eqw w w') (B : Nat) : Below B w w' := ⟨h.os, h.tape, h.output, by rw [h.heap]; exact Nat.le_refl _, fun k _ => h.blk k⟩
theorem Eqw.row {w w' : World} (h : Eqw w w') {base e size n : Nat} {v : Value} {xs : List Value} (r : w.ownsRow base e size v n xs) : w'.ownsRow base e size v n xs := row_kept r (fun b _ => h.blk b)
theorem Eqw.chg {w w' v : World} (h : Eqw w w') {F F' : List Nat} (c : Chg w' v F F') : Chg w v F F' := ⟨c.os.trans h.os, c.tape.trans h.tape, c.output.trans h.output, by have := c.size; rw [h.heap] at this; exact this, fun k hk hn => (c.block k (by rw [h.heap]; exact hk) hn).trans (h.blk k), fun k hk => by have := c.new k hk; rw [h.heap] at this; exact this⟩
end Go.Proofs.Ytiggbgmnibndoaa
/- HELPERS: a thread is put where there is no room yet. -/
namespace Go.Proofs.Ytiggbgmnibndoaa
open Go.RowKit Go.Lk
set_option linter.unusedVariables false
set_option linter.unusedSimpArgs false
theorem Eqw.alloc {w w' : World} (h : Eqw w w') (o : Obj) : Eqw (w.alloc o) (w'.alloc o) := ⟨by show w'.heap.push o = w.heap.push o; rw [h.heap], h.os, h.tape, h.output⟩
end Go.Proofs.Ytiggbgmnibndoaa
/- HELPERS: what a visit finds in memory. -/
namespace Go.Proofs.Ytiggbgmnibndoaa
open Go.RowKit Go.Lk
set_option linter.unusedVariables false
set_option linter.unusedSimpArgs false
theorem Chg.wide {w w' : World} {F F' G G' : List Nat} (h : Chg w w' F F') (h1 : ∀ k ∈ F, k ∈ G) (h2 : ∀ k ∈ G', k ∈ F' ∨ k ∈ G) : Chg w w' G G' :=
  ⟨h.os, h.tape, h.output, h.size, fun k hk hn => h.block k hk (fun hm => hn (h1 k hm)), fun k hk => by
    rcases h2 k hk with h' | h'
    · exact (h.new k h').imp (h1 k) id
    · exact .inl h'⟩
def ints (l : List Nat) : List Int := l.map fun (k : Nat) => (k : Int)
theorem ints_snoc (l : List Nat) (i : Nat) : ints (l ++ [i]) = ints l ++ [(i : Int)] := by simp [ints]
/-- the blocks that a visit may write to -/
def VF (b : Nat) (M : Mv) (E : List En) (sF fb : List Nat) : List Nat := b :: (sF ++ (RWF M.z2 M.n2 M.c2 E ++ fb))
/-- the machine while a place is visited -/
structure VI (w : World) (N b : Nat) (l : List In) (tx : List Int) (M : Mv) (s : Vst) (E : List En) (sF fb : List Nat) : Prop where
  mb : MB w b M
  nb : N ≤ b
  nw : N ≤ w.heap.size
  pi : PI w N M.ad M.n l
  tt : TextAt N w M.tad M.tn tx
  hj : M.j ≤ M.tn
  set : SetS N w M.sb sF l.length (ints s.met)
  row : RW w N M.K M.z2 M.n2 M.c2 E
  k2 : M.k2 = s.next.length
  kl : s.next.length ≤ E.length
  el : E.length ≤ 20000
  nx : (E.take s.next.length).map En.th = s.next
  fd : FD w N M.K M fb s.found
  bt : M.bits = 0 ∨ M.bits = atP tx M.j
  d1 : ∀ k ∈ sF, k ≠ b ∧ k ∉ RWF M.z2 M.n2 M.c2 E ∧ k ∉ fb
  d2 : ∀ k ∈ fb, k ≠ b ∧ k ∉ RWF M.z2 M.n2 M.c2 E
theorem FD.kept {w w' : World} {N K : Nat} {M : Mv} {fb : List Nat} {fd : Fd} (h : FD w N K M fb fd) (hk : ∀ k ∈ fb, w'.heap[k]? = w.heap[k]?) : FD w' N K M fb fd := by
  cases fd with
  | none => exact h
  | some y =>
    obtain ⟨g, h1, h2, h3, h4, h5, h6, h7⟩ := h
    exact ⟨g, h1, h2, h3, h4, h5, h6, row_kept h7 (fun k hk' => hk k (by simp [Value.ownBlock] at hk'; subst hk'; simp [h6]))⟩
theorem FD.low {w : World} {N K : Nat} {M : Mv} {fb : List Nat} {fd : Fd} (h : FD w N K M fb fd) : ∀ k ∈ fb, N ≤ k ∧ k < w.heap.size := by
  cases fd with
  | none => obtain ⟨_, _, _, _, _, h⟩ := h; rw [h]; simp
  | some y =>
    obtain ⟨g, h1, h2, h3, h4, h5, h6, h7⟩ := h
    rw [h6]
    intro k hk
    simp at hk
    subst hk
    exact h7.lt _ rfl
theorem FD.ok {w : World} {N K : Nat} {M : Mv} {fb : List Nat} {fd : Fd} (h : FD w N K M fb fd) : M.fok = fd.isSome := by
  cases fd with
  | none => exact h.1
  | some y => obtain ⟨g, h1, _⟩ := h; exact h1
section
variable {w w' : World} {N b : Nat} {l : List In} {tx : List Int} {M : Mv} {s : Vst} {E : List En} {sF fb : List Nat}
theorem VI.low (h : VI w N b l tx M s E sF fb) : ∀ k ∈ VF b M E sF fb, N ≤ k ∧ k < w.heap.size := by
  intro k hk
  simp only [VF, List.mem_cons, List.mem_append] at hk
  rcases hk with rfl | hk | hk | hk
  · exact ⟨h.nb, h.mb.lt⟩
  · exact h.set.low k hk
  · exact h.row.low k hk
  · exact h.fd.low k hk
theorem VI.rb (h : VI w N b l tx M s E sF fb) : b ∉ RWF M.z2 M.n2 M.c2 E := by
  simp only [RWF, zF, List.mem_append, Option.mem_toList, List.mem_map]
  rintro (h' | ⟨e, he, h'⟩)
  · exact own_ne h.row.row h.mb (by decide) h'
  · exact own_ne (h.row.caps e he) h.mb (by decide) (by rw [← h']; rfl)
theorem VI.kept (h : VI w N b l tx M s E sF fb) (hb : Below N w w') (hk : ∀ k ∈ VF b M E sF fb, w'.heap[k]? = w.heap[k]?) : VI w' N b l tx M s E sF fb :=
  ⟨h.mb.kept (hk b (by simp [VF])), h.nb, Nat.le_trans h.nw hb.size, h.pi.kept hb (Nat.le_refl _), h.tt.below hb, h.hj, h.set.kept (fun k hk' => hk k (by simp [VF, hk'])), h.row.kept (fun k hk' => hk k (by simp [VF, hk'])), h.k2, h.kl, h.el, h.nx, h.fd.kept (fun k hk' => hk k (by simp [VF, hk'])), h.bt, h.d1, h.d2⟩
/-- an instruction is met -/
theorem VI.add (h : VI w N b l tx M s E sF fb) {sF' : List Nat} {i : Nat} (hs : SetS N w' M.sb sF' l.length (ints s.met ++ [(i : Int)])) (hc : Chg w w' sF sF') : VI w' N b l tx M (s.mark i) E sF' fb ∧ Chg w w' (VF b M E sF fb) (VF b M E sF' fb) := by
  have hlow := h.low
  have hbel : Below N w w' := hc.below h.nw (fun k hk => (h.set.low k hk).1)
  have hne : ∀ k, k < w.heap.size → k ∉ sF → w'.heap[k]? = w.heap[k]? := hc.block
  refine ⟨⟨h.mb.kept (hne b h.mb.lt (fun hm => (h.d1 b hm).1 rfl)), h.nb, Nat.le_trans h.nw hbel.size, h.pi.kept hbel (Nat.le_refl _), h.tt.below hbel, h.hj, ?_, h.row.kept (fun k hk => hne k (h.row.low k hk).2 (fun hm => (h.d1 k hm).2.1 hk)), h.k2, h.kl, h.el, h.nx, h.fd.kept (fun k hk => hne k (h.fd.low k hk).2 (fun hm => (h.d1 k hm).2.2 hk)), h.bt, fun k hk => ?_, h.d2⟩, hc.wide (fun k hk => by simp [VF, hk]) (fun k hk => ?_)⟩
  · simp only [Vst.mark, ints_snoc]; exact hs
  · rcases hc.new k hk with h' | h'
    · exact h.d1 k h'
    · exact ⟨fun e => by have := h.mb.lt; omega, fun e => by have := (h.row.low k e).2; omega, fun e => by have := (h.fd.low k e).2; omega⟩
  · simp only [VF, List.mem_cons, List.mem_append] at hk ⊢
    rcases hk with hk | hk | hk | hk
    · exact .inr (.inl hk)
    · exact .inl hk
    · exact .inr (.inr (.inr (.inl hk)))
    · exact .inr (.inr (.inr (.inr hk)))
/-- the bits are there now -/
theorem VI.bits (h : VI w N b l tx M s E sF fb) (hm : MB w' b { M with bits := atP tx M.j }) (hc : Chg w w' [b] [b]) : VI w' N b l tx { M with bits := atP tx M.j } s E sF fb ∧ Chg w w' (VF b M E sF fb) (VF b { M with bits := atP tx M.j } E sF fb) := by
  have hbel : Below N w w' := hc.below h.nw (fun k hk => by simp at hk; subst hk; exact h.nb)
  have hne : ∀ k, k < w.heap.size → k ≠ b → w'.heap[k]? = w.heap[k]? := fun k hk hn => hc.block k hk (by simpa using hn)
  refine ⟨⟨hm, h.nb, Nat.le_trans h.nw hbel.size, h.pi.kept hbel (Nat.le_refl _), h.tt.below hbel, h.hj, h.set.kept (fun k hk => hne k (h.set.low k hk).2 (h.d1 k hk).1), h.row.kept (fun k hk => hne k (h.row.low k hk).2 (fun e => h.rb (e ▸ hk))), h.k2, h.kl, h.el, h.nx, ?_, .inr rfl, h.d1, h.d2⟩, hc.wide (fun k hk => by simp at hk; simp [VF, hk]) (fun k hk => .inr hk)⟩
  have := h.fd.kept (w' := w') (fun k hk => hne k (h.fd.low k hk).2 (h.d2 k hk).1)
  cases hfd : s.found with
  | none => rw [hfd] at this; exact this
  | some y => rw [hfd] at this; exact this
/-- a thread was put -/
theorem VI.put (h : VI w N b l tx M s E sF fb) {y1 : Option Addr} {y2 y3 : Nat} {E' : List En} {x : Nat} {c : List Int} (g1 : M.k2 + 1 ≤ E'.length) (g2 : E'.length ≤ 20000) (g3 : (E'.take (M.k2 + 1)).map En.th = (E.take M.k2).map En.th ++ [(x, c)])
    (hm : MB w' b { M with z2 := y1, n2 := y2, c2 := y3, k2 := M.k2 + 1 }) (hr : RW w' N M.K y1 y2 y3 E') (hc : Chg w w' (b :: RWF M.z2 M.n2 M.c2 E) (b :: RWF y1 y2 y3 E')) :
    VI w' N b l tx { M with z2 := y1, n2 := y2, c2 := y3, k2 := M.k2 + 1 } { s with next := s.next ++ [(x, c)] } E' sF fb ∧ Chg w w' (VF b M E sF fb) (VF b { M with z2 := y1, n2 := y2, c2 := y3, k2 := M.k2 + 1 } E' sF fb) := by
  have hbel : Below N w w' := hc.below h.nw (fun k hk => by
    simp only [List.mem_cons] at hk
    rcases hk with rfl | hk
    · exact h.nb
    · exact (h.row.low k hk).1)
  have hne : ∀ k, k < w.heap.size → k ≠ b → k ∉ RWF M.z2 M.n2 M.c2 E → w'.heap[k]? = w.heap[k]? := fun k hk hn hn2 => hc.block k hk (by simp [hn, hn2])
  have hk2 := h.k2
  have haway : ∀ k, k < w.heap.size → k ≠ b → k ∉ RWF M.z2 M.n2 M.c2 E → k ∉ RWF y1 y2 y3 E' := fun k hk hn hn2 hm' => by
    rcases hc.new k (by simp [hm']) with h' | h'
    · simp at h'; rcases h' with h' | h'
      · exact hn h'
      · exact hn2 h'
    · omega
  refine ⟨⟨hm, h.nb, Nat.le_trans h.nw hbel.size, h.pi.kept hbel (Nat.le_refl _), h.tt.below hbel, h.hj, h.set.kept (fun k hk => hne k (h.set.low k hk).2 (h.d1 k hk).1 (h.d1 k hk).2.1), hr, by simp [hk2], by simp; omega, g2, ?_, ?_, h.bt, fun k hk => ⟨(h.d1 k hk).1, haway k (h.set.low k hk).2 (h.d1 k hk).1 (h.d1 k hk).2.1, (h.d1 k hk).2.2⟩, fun k hk => ⟨(h.d2 k hk).1, haway k (h.fd.low k hk).2 (h.d2 k hk).1 (h.d2 k hk).2⟩⟩, hc.wide (fun k hk => ?_) (fun k hk => ?_)⟩
  · simp only [List.length_append, List.length_singleton]
    rw [← hk2, g3, hk2, h.nx]
  · have := h.fd.kept (w' := w') (fun k hk => hne k (h.fd.low k hk).2 (h.d2 k hk).1 (h.d2 k hk).2)
    cases hfd : s.found with
    | none => rw [hfd] at this; exact this
    | some y => rw [hfd] at this; exact this
  · simp only [List.mem_cons, VF, List.mem_append] at hk ⊢
    rcases hk with hk | hk
    · exact .inl hk
    · exact .inr (.inr (.inl hk))
  · simp only [VF, List.mem_cons, List.mem_append] at hk ⊢
    rcases hk with hk | hk | hk | hk
    · exact .inl (.inl hk)
    · exact .inr (.inr (.inl hk))
    · exact .inl (.inr hk)
    · exact .inr (.inr (.inr (.inr hk)))
/-- a match was met -/
theorem VI.fit (h : VI w N b l tx M s E sF fb) {g : Nat} {a : Int} {c : List Int} (hm : MB w' b { M with fok := true, f1 := some ⟨g, 0, none⟩, f2 := M.K, f3 := M.K, fw := a }) (hr : w'.ownsRow N 3 1 (.slice (some ⟨g, 0, none⟩) M.K M.K) M.K (I64 c)) (hc : Chg w w' (b :: fb) [b, g]) :
    VI w' N b l tx { M with fok := true, f1 := some ⟨g, 0, none⟩, f2 := M.K, f3 := M.K, fw := a } { s with found := some (a, c), over := true } E sF [g] ∧ Chg w w' (VF b M E sF fb) (VF b { M with fok := true, f1 := some ⟨g, 0, none⟩, f2 := M.K, f3 := M.K, fw := a } E sF [g]) := by
  have hbel : Below N w w' := hc.below h.nw (fun k hk => by
    simp only [List.mem_cons] at hk
    rcases hk with rfl | hk
    · exact h.nb
    · exact (h.fd.low k hk).1)
  have hne : ∀ k, k < w.heap.size → k ≠ b → k ∉ fb → w'.heap[k]? = w.heap[k]? := fun k hk hn hn2 => hc.block k hk (by simp [hn, hn2])
  have hgb : g ≠ b := fun e => own_ne hr hm (by decide) (by rw [e]; rfl)
  have hg : g ∈ fb ∨ w.heap.size ≤ g := by
    rcases hc.new g (by simp) with h' | h'
    · simp at h'; rcases h' with h' | h'
      · exact absurd h' hgb
      · exact .inl h'
    · exact .inr h'
  have hrf : ∀ k ∈ RWF M.z2 M.n2 M.c2 E, k ≠ b ∧ k ∉ fb := fun k hk => ⟨fun e => h.rb (e ▸ hk), fun hm' => (h.d2 k hm').2 hk⟩
  refine ⟨⟨hm, h.nb, Nat.le_trans h.nw hbel.size, h.pi.kept hbel (Nat.le_refl _), h.tt.below hbel, h.hj, h.set.kept (fun k hk => hne k (h.set.low k hk).2 (h.d1 k hk).1 (h.d1 k hk).2.2), h.row.kept (fun k hk => hne k (h.row.low k hk).2 (hrf k hk).1 (hrf k hk).2), h.k2, h.kl, h.el, h.nx, ⟨g, rfl, rfl, rfl, rfl, rfl, rfl, hr⟩, h.bt, fun k hk => ⟨(h.d1 k hk).1, (h.d1 k hk).2.1, ?_⟩, fun k hk => ?_⟩, hc.wide (fun k hk => ?_) (fun k hk => ?_)⟩
  · simp only [List.mem_singleton]
    rintro rfl
    rcases hg with h' | h'
    · exact (h.d1 k hk).2.2 h'
    · have := (h.set.low k hk).2; omega
  · simp only [List.mem_singleton] at hk
    subst hk
    refine ⟨hgb, fun hm' => ?_⟩
    rcases hg with h' | h'
    · exact (h.d2 k h').2 hm'
    · have := (h.row.low k hm').2; omega
  · simp only [List.mem_cons, VF, List.mem_append] at hk ⊢
    rcases hk with hk | hk
    · exact .inl hk
    · exact .inr (.inr (.inr hk))
  · simp only [VF, List.mem_cons, List.mem_append] at hk ⊢
    rcases hk with hk | hk | hk | hk
    · exact .inl (.inl hk)
    · exact .inr (.inr (.inl hk))
    · exact .inr (.inr (.inr (.inl hk)))
    · exact .inl (.inr (.inl (by simpa using hk)))
end
end Go.Proofs.Ytiggbgmnibndoaa
/- HELPERS: a visit in memory. -/
namespace Go.Proofs.Ytiggbgmnibndoaa
open Go.RowKit Go.Lk
set_option linter.unusedVariables false
set_option linter.unusedSimpArgs false
/-- what a visit does not turn -/
def Mv.core (M : Mv) : Mv := { M with bits := 0, z2 := none, n2 := 0, c2 := 0, k2 := 0, fok := false, f1 := none, f2 := 0, f3 := 0, fw := 0 }
theorem core_K {M M' : Mv} (h : M'.core = M.core) : M'.K = M.K := by have := congrArg Mv.K h; exact this
/-- what a visit answers -/
def VP (N b : Nat) (l : List In) (tx : List Int) (w : World) (M : Mv) (E : List En) (sF fb : List Nat) (s' : Vst) (e : Ending) (w' : World) : Prop :=
  e = .returned (.bool (!s'.over)) ∧ ∃ M' E' sF' fb', VI w' N b l tx M' s' E' sF' fb' ∧ M'.core = M.core ∧ Chg w w' (VF b M E sF fb) (VF b M' E' sF' fb')
/-- what a visit asks -/
structure VC (K N b : Nat) (l : List In) (tx : List Int) (w : World) (M : Mv) (s : Vst) (E : List En) (sF fb : List Nat) (i : Nat) (c : List Int) (cb cp : Nat) : Prop where
  vi : VI w N b l tx M s E sF fb
  hK : M.K = K
  ov : s.over = false
  inv : Inv l.length K s
  lt : i < l.length
  cap : w.ownsRow N 3 1 (.slice (some ⟨cb, 0, none⟩) K cp) K (I64 c)
  cn : cb ∉ VF b M E sF fb
section
variable {K N b : Nat} {l : List In} {tx : List Int} {w w' : World} {M M' : Mv} {s s' : Vst} {E E' : List En} {sF fb sF' fb' : List Nat} {i : Nat} {c : List Int} {cb cp : Nat}
theorem VC.kept (h : VC K N b l tx w M s E sF fb i c cb cp) (hv : VI w' N b l tx M' s' E' sF' fb') (hM : M'.core = M.core) (hc : Chg w w' (VF b M E sF fb) (VF b M' E' sF' fb')) (ho : s'.over = false) (hi : Inv l.length K s') {i' : Nat} (hl : i' < l.length) : VC K N b l tx w' M' s' E' sF' fb' i' c cb cp := by
  have hcl := h.cap.lt cb rfl
  exact ⟨hv, (core_K hM).trans h.hK, ho, hi, hl, row_kept h.cap (fun k hk => by simp [Value.ownBlock] at hk; subst hk; exact hc.block _ hcl.2 h.cn), fun hm => by
    rcases hc.new cb hm with h' | h'
    · exact h.cn h'
    · omega⟩
theorem VP.after (h1 : Chg w w' (VF b M E sF fb) (VF b M' E' sF' fb')) (hM : M'.core = M.core) {s2 : Vst} {e : Ending} {w2 : World} (h : VP N b l tx w' M' E' sF' fb' s2 e w2) : VP N b l tx w M E sF fb s2 e w2 := by
  obtain ⟨he, M2, E2, sF2, fb2, h2, h3, h4⟩ := h
  exact ⟨he, M2, E2, sF2, fb2, h2, h3.trans hM, h1.trans h4⟩
end
theorem vis_step {A : Nat → Ac} {j f i : Nat} {c : List Int} {s : Vst} (ho : s.over = false) (hm : i ∉ s.met) : vis A j (f + 1) i c s = (match A i with
    | .alt x y => vis A j f y c (vis A j f x c (s.mark i))
    | .go x => vis A j f x c (s.mark i)
    | .cap x a => vis A j f x (c.set a (j : Int)) (s.mark i)
    | .rune x => { s.mark i with next := s.next ++ [(x, c)] }
    | .fit a => { s.mark i with found := some (a, c), over := true }
    | .stop => s.mark i) := by
  conv => lhs; unfold vis
  rw [if_neg (by simp [ho, hm])]
  cases A i <;> rfl
end Go.Proofs.Ytiggbgmnibndoaa
/- HELPERS: a visit in memory: captures. -/
namespace Go.Proofs.Ytiggbgmnibndoaa
open Go.RowKit Go.Lk
set_option linter.unusedVariables false
set_option linter.unusedSimpArgs false
end Go.Proofs.Ytiggbgmnibndoaa
/- HELPERS: a visit in memory, by the instruction's operation. -/
namespace Go.Proofs.Ytiggbgmnibndoaa
open Go.RowKit Go.Lk
set_option linter.unusedVariables false
set_option linter.unusedSimpArgs false
end Go.Proofs.Ytiggbgmnibndoaa
/- HELPERS: all threads of a row visited. -/
namespace Go.Proofs.Ytiggbgmnibndoaa
open Go.RowKit Go.Lk
set_option linter.unusedVariables false
set_option linter.unusedSimpArgs false
theorem vall_take_succ {A : Nat → Ac} {j f : Nat} {T : List Th} {s : Vst} {x : Nat} (hx : x < T.length) : vall A j f (T.take (x + 1)) s = vis A j f T[x].1 T[x].2 (vall A j f (T.take x) s) := by
  rw [List.take_succ_eq_append_getElem hx, vall_append]
  rfl
/-- what lies aside while a place is visited: the row of threads -/
structure NI (w : World) (N : Nat) (M : Mv) (E1 : List En) (T : List Th) (F : List Nat) : Prop where
  row : RW w N M.K M.z1 M.n1 M.c1 E1
  k1 : M.k1 = T.length
  kl : T.length ≤ E1.length
  el : E1.length ≤ 20000
  th : (E1.take T.length).map En.th = T
  d : ∀ k ∈ RWF M.z1 M.n1 M.c1 E1, k ∉ F
theorem NI.next {w w' : World} {N : Nat} {M M' : Mv} {E1 : List En} {T : List Th} {F F' : List Nat} (h : NI w N M E1 T F) (hc : Chg w w' F F') (hM : M'.core = M.core) : NI w' N M' E1 T F' := by
  have e1 : M'.z1 = M.z1 := by have := congrArg Mv.z1 hM; exact this
  have e2 : M'.n1 = M.n1 := by have := congrArg Mv.n1 hM; exact this
  have e3 : M'.c1 = M.c1 := by have := congrArg Mv.c1 hM; exact this
  have e4 : M'.k1 = M.k1 := by have := congrArg Mv.k1 hM; exact this
  have e5 := core_K hM
  refine ⟨?_, by rw [e4]; exact h.k1, h.kl, h.el, h.th, ?_⟩
  · rw [e1, e2, e3, e5]
    exact h.row.kept (fun k hk => hc.block k (h.row.low k hk).2 (h.d k hk))
  · rw [e1, e2, e3]
    exact hc.away (fun k hk => (h.row.low k hk).2) h.d
theorem NI.get {w : World} {N : Nat} {M : Mv} {E1 : List En} {T : List Th} {F : List Nat} (h : NI w N M E1 T F) {x : Nat} (hx : x < T.length) : ∃ zb eb, M.z1 = some ⟨zb, 0, none⟩ ∧ zb < w.heap.size ∧ w.cell? ⟨zb, x * 2, none⟩ = some (.int .i64 (T[x].1 : Int)) ∧ w.cell? ⟨zb, x * 2 + 1, none⟩ = some (.slice (some ⟨eb, 0, none⟩) M.K M.K) ∧ w.ownsRow N 3 1 (.slice (some ⟨eb, 0, none⟩) M.K M.K) M.K (I64 T[x].2) ∧ eb ∉ F := by
  have hx1 : x < E1.length := by have := h.kl; omega
  have hlen := h.row.len
  obtain ⟨zb, hz⟩ : ∃ zb, M.z1 = some ⟨zb, 0, none⟩ := by
    rcases h.row.row.2 with ⟨_, e⟩ | ⟨g, cap, cur, e, _⟩
    · omega
    · simp only [Value.slice.injEq] at e; exact ⟨g, e.1⟩
  have hrz := h.row.row
  rw [hz] at hrz
  have k0 := (hrz.cellAt (x * 2) (by omega)).trans (by simpa using cellsE_get M.K E1 x hx1 0 (by omega))
  have k1 := (hrz.cellAt (x * 2 + 1) (by omega)).trans (cellsE_get M.K E1 x hx1 1 (by omega))
  simp only [En.cs, List.getElem?_cons_zero, List.getElem?_cons_succ] at k0 k1
  have ht : T[x] = E1[x].th := by
    have h2 := h.th
    have h3 : T[x]? = ((E1.take T.length).map En.th)[x]? := by rw [h2]
    rw [List.getElem?_eq_getElem hx] at h3
    simpa [hx, hx1] using h3
  rw [ht]
  have hmem : E1[x] ∈ E1 := List.getElem_mem hx1
  exact ⟨zb, E1[x].b, hz, (hrz.lt zb rfl).2, k0, k1, h.row.caps _ hmem, h.d _ (by simp only [RWF, List.mem_append, List.mem_map]; exact .inr ⟨_, hmem, rfl⟩)⟩
end Go.Proofs.Ytiggbgmnibndoaa
/- HELPERS: the machine from place to place. -/
namespace Go.Proofs.Ytiggbgmnibndoaa
open Go.RowKit Go.Lk
set_option linter.unusedVariables false
set_option linter.unusedSimpArgs false
/-- the machine between two places -/
structure GI (w : World) (N b K : Nat) (l : List In) (tx : List Int) (M : Mv) (T : List Th) (fd : Fd) (E1 E2 : List En) (sF fb : List Nat) : Prop where
  mb : MB w b M
  nb : N ≤ b
  nw : N ≤ w.heap.size
  pi : PI w N M.ad M.n l
  tt : TextAt N w M.tad M.tn tx
  hj : M.j ≤ M.tn
  hK : M.K = K
  set : ∃ m, SetS N w M.sb sF l.length m
  now : RW w N K M.z1 M.n1 M.c1 E1
  k1 : M.k1 = T.length
  kl : T.length ≤ E1.length
  el : E1.length ≤ 20000
  th : (E1.take T.length).map En.th = T
  nxt : RW w N K M.z2 M.n2 M.c2 E2
  e2 : E2.length ≤ 20000
  fd : FD w N K M fb fd
  un : w.ownsRow N 3 1 (.slice (some ⟨M.ub, 0, none⟩) K M.uc) K (I64 (List.replicate K (-1)))
  x1 : ∀ k ∈ sF, k ≠ b ∧ k ∉ RWF M.z2 M.n2 M.c2 E2 ∧ k ∉ fb ∧ k ∉ RWF M.z1 M.n1 M.c1 E1 ∧ k ≠ M.ub
  x2 : ∀ k ∈ fb, k ≠ b ∧ k ∉ RWF M.z2 M.n2 M.c2 E2 ∧ k ∉ RWF M.z1 M.n1 M.c1 E1 ∧ k ≠ M.ub
  x3 : ∀ k ∈ RWF M.z1 M.n1 M.c1 E1, k ∉ RWF M.z2 M.n2 M.c2 E2 ∧ k ≠ M.ub
  x4 : M.ub ∉ RWF M.z2 M.n2 M.c2 E2
theorem rw_ne {w : World} {N K n c b : Nat} {z : Option Addr} {E : List En} {M : Mv} (h : RW w N K z n c E) (hm : MB w b M) : ∀ k ∈ RWF z n c E, k ≠ b := by
  intro k hk e
  subst e
  simp only [RWF, zF, List.mem_append, Option.mem_toList, List.mem_map] at hk
  rcases hk with h' | ⟨e, he, h'⟩
  · exact own_ne h.row hm (by decide) h'
  · exact own_ne (h.caps e he) hm (by decide) (by rw [← h']; rfl)
/-- a place is entered -/
structure EI (w : World) (N b K : Nat) (l : List In) (tx : List Int) (M : Mv) (T : List Th) (s : Vst) (E1 E2 : List En) (sF fb : List Nat) : Prop where
  vi : VI w N b l tx M s E2 sF fb
  hK : M.K = K
  ni : NI w N M E1 T (VF b M E2 sF fb)
  un : w.ownsRow N 3 1 (.slice (some ⟨M.ub, 0, none⟩) K M.uc) K (I64 (List.replicate K (-1)))
  ux : M.ub ∉ VF b M E2 sF fb
  u1 : M.ub ∉ RWF M.z1 M.n1 M.c1 E1
theorem EI.next {w w' : World} {N b K : Nat} {l : List In} {tx : List Int} {M M' : Mv} {T : List Th} {s s' : Vst} {E1 E2 E2' : List En} {sF fb sF' fb' : List Nat} (h : EI w N b K l tx M T s E1 E2 sF fb) (hv : VI w' N b l tx M' s' E2' sF' fb') (hM : M'.core = M.core) (hc : Chg w w' (VF b M E2 sF fb) (VF b M' E2' sF' fb')) : EI w' N b K l tx M' T s' E1 E2' sF' fb' := by
  have e1 : M'.ub = M.ub := by have := congrArg Mv.ub hM; exact this
  have e2 : M'.uc = M.uc := by have := congrArg Mv.uc hM; exact this
  have e3 : M'.z1 = M.z1 := by have := congrArg Mv.z1 hM; exact this
  have e4 : M'.n1 = M.n1 := by have := congrArg Mv.n1 hM; exact this
  have e5 : M'.c1 = M.c1 := by have := congrArg Mv.c1 hM; exact this
  have hul := (h.un.lt M.ub rfl).2
  refine ⟨hv, (core_K hM).trans h.hK, h.ni.next hc hM, ?_, ?_, ?_⟩
  · rw [e1, e2]
    exact row_kept h.un (fun k hk => by simp [Value.ownBlock] at hk; subst hk; exact hc.block _ hul h.ux)
  · rw [e1]
    intro hm
    rcases hc.new _ hm with h' | h'
    · exact h.ux h'
    · omega
  · rw [e1, e3, e4, e5]; exact h.u1
end Go.Proofs.Ytiggbgmnibndoaa
/- HELPERS: the machine's run. -/
namespace Go.Proofs.Ytiggbgmnibndoaa
open Go.RowKit Go.Lk
set_option linter.unusedVariables false
set_option linter.unusedSimpArgs false
/-- the machine's cells behind a place: steps counted, the rows turned -/
def Mv.turn (M : Mv) (st : Nat) : Mv := { M with fs := st, z1 := M.z2, n1 := M.n2, c1 := M.c2, k1 := M.k2, z2 := M.z1, n2 := M.n1, c2 := M.c1, k2 := M.k1 }
theorem EI.swap {w w' : World} {N b K : Nat} {l : List In} {tx : List Int} {M : Mv} {T : List Th} {s : Vst} {E1 E2 : List En} {sF fb : List Nat} (h : EI w N b K l tx M T s E1 E2 sF fb) (st : Nat) (hm : MB w' b (M.turn st)) (hc : Chg w w' [b] [b]) : GI w' N b K l tx (M.turn st) s.next s.found E2 E1 sF fb := by
  have hv := h.vi
  have hbel : Below N w w' := hc.below hv.nw (fun k hk => by simp at hk; subst hk; exact hv.nb)
  have hne : ∀ k, k < w.heap.size → k ≠ b → w'.heap[k]? = w.heap[k]? := fun k hk hn => hc.block k hk (by simpa using hn)
  have hr1 : RW w N K M.z1 M.n1 M.c1 E1 := by have := h.ni.row; rw [h.hK] at this; exact this
  have hr2 : RW w N K M.z2 M.n2 M.c2 E2 := by have := hv.row; rw [h.hK] at this; exact this
  have hf := hv.fd
  rw [h.hK] at hf
  have hub := (h.un.lt M.ub rfl).2
  have hnub : M.ub ≠ b := fun e => h.ux (by rw [e]; simp [VF])
  refine ⟨hm, hv.nb, Nat.le_trans hv.nw hbel.size, hv.pi.kept hbel (Nat.le_refl _), hv.tt.below hbel, hv.hj, h.hK, ⟨_, hv.set.kept (fun k hk => hne k (hv.set.low k hk).2 (hv.d1 k hk).1)⟩, hr2.kept (fun k hk => hne k (hr2.low k hk).2 (rw_ne hr2 hv.mb k hk)), hv.k2, hv.kl, hv.el, hv.nx, hr1.kept (fun k hk => hne k (hr1.low k hk).2 (rw_ne hr1 hv.mb k hk)), h.ni.el, ?_, row_kept h.un (fun k hk => by simp [Value.ownBlock] at hk; subst hk; exact hne _ hub hnub), fun k hk => ⟨(hv.d1 k hk).1, fun hm' => h.ni.d k hm' (by simp [VF, hk]), (hv.d1 k hk).2.2, (hv.d1 k hk).2.1, fun e => h.ux (by rw [← show k = M.ub from e]; simp [VF, hk])⟩, fun k hk => ⟨(hv.d2 k hk).1, fun hm' => h.ni.d k hm' (by simp [VF, hk]), (hv.d2 k hk).2, fun e => h.ux (by rw [← show k = M.ub from e]; simp [VF, hk])⟩, fun k hk => ⟨fun hm' => h.ni.d k hm' (by simp only [VF, List.mem_cons, List.mem_append]; exact .inr (.inr (.inl hk))), fun e => h.ux (by rw [← show k = M.ub from e]; simp only [VF, List.mem_cons, List.mem_append]; exact .inr (.inr (.inl hk)))⟩, h.u1⟩
  have := hf.kept (w' := w') (fun k hk => hne k (hf.low k hk).2 (hv.d2 k hk).1)
  cases hfd : s.found with
  | none => rw [hfd] at this; exact this
  | some y => rw [hfd] at this; exact this
theorem GI.go {w w' : World} {N b K : Nat} {l : List In} {tx : List Int} {M : Mv} {T : List Th} {fd : Fd} {E1 E2 : List En} {sF fb : List Nat} (h : GI w N b K l tx M T fd E1 E2 sF fb) (hm : MB w' b { M with j := M.j + 1 }) (hc : Chg w w' [b] [b]) (hj : M.j + 1 ≤ M.tn) : GI w' N b K l tx { M with j := M.j + 1 } T fd E1 E2 sF fb := by
  have hbel : Below N w w' := hc.below h.nw (fun k hk => by simp at hk; subst hk; exact h.nb)
  have hne : ∀ k, k < w.heap.size → k ≠ b → w'.heap[k]? = w.heap[k]? := fun k hk hn => hc.block k hk (by simpa using hn)
  obtain ⟨m, hset⟩ := h.set
  have hub := (h.un.lt M.ub rfl).2
  have hnub : M.ub ≠ b := fun e => own_ne h.un h.mb (by decide) (by rw [e]; rfl)
  refine ⟨hm, h.nb, Nat.le_trans h.nw hbel.size, h.pi.kept hbel (Nat.le_refl _), h.tt.below hbel, hj, h.hK, ⟨m, hset.kept (fun k hk => hne k (hset.low k hk).2 (h.x1 k hk).1)⟩, h.now.kept (fun k hk => hne k (h.now.low k hk).2 (rw_ne h.now h.mb k hk)), h.k1, h.kl, h.el, h.th, h.nxt.kept (fun k hk => hne k (h.nxt.low k hk).2 (rw_ne h.nxt h.mb k hk)), h.e2, ?_, row_kept h.un (fun k hk => by simp [Value.ownBlock] at hk; subst hk; exact hne _ hub hnub), h.x1, h.x2, h.x3, h.x4⟩
  have := h.fd.kept (w' := w') (fun k hk => hne k (h.fd.low k hk).2 (h.x2 k hk).1)
  cases fd with
  | none => exact this
  | some y => exact this
theorem lock_succ (P : Pr) (a : Nat) (anch : Bool) (m j : Nat) (T : List Th) (fd : Fd) (st : Nat) : lock P a anch (m + 1) j T fd st = if (decide (m = 0) || ((place P a anch j T fd).next.isEmpty && ((place P a anch j T fd).found.isSome || anch))) = true then ((place P a anch j T fd).found, st + (place P a anch j T fd).met.length) else lock P a anch m (j + 1) (place P a anch j T fd).next (place P a anch j T fd).found (st + (place P a anch j T fd).met.length) := rfl
end Go.Proofs.Ytiggbgmnibndoaa
/- HELPERS: a new machine; Run. -/
namespace Go.Proofs.Ytiggbgmnibndoaa
open Go.RowKit Go.Lk
set_option linter.unusedVariables false
set_option linter.unusedSimpArgs false
theorem SetS.mono {N N' : Nat} {w : World} {g : Nat} {F : List Nat} {n : Nat} {l : List Int} (h : SetS N w g F n l) (hN : N' ≤ N) : SetS N' w g F n l := by
  obtain ⟨b, c, ov, M, h1, h2, hn, h3, h4, h5, h6, rfl⟩ := h
  exact ⟨b, c, ov, M, h1, by omega, hn, h3.mono hN, h4.mono hN, h5, h6, rfl⟩
theorem results_cell_tmp {P : Program} {fn : Func} {p u : Tmp} {ty : TypeId} (h : fn.results = #[.cell p ty, .tmp u]) (tmps : Array Value) (w : World) (g : Nat) (t : TypeId) (cs : Array Value) (fr : Nat × Nat) (d : TypeDesc)
    (hp : tmps.getD p undef = .pointer (some ⟨g, 0, none⟩)) (hg : w.heap[g]? = some (.cells cs t fr))
    (hu : P.underlying ty = some d) (hd : (match d with | .struct _ | .array _ _ => true | _ => false) = true) (hi : (P.info? ty).map (·.size) = some cs.size) :
    (results fn tmps).run P w = .ok (.tuple #[.agg cs, tmps.getD u undef]) w := by
  have hp' : tmps[p]?.getD undef = .pointer (some ⟨g, 0, none⟩) := by simpa using hp
  simp [results, h, hp', asAddr, run_loadVar_row w g t ty cs fr d hg hu hd hi]
/-- what Run answers where it finds what it finds -/
def FR (K : Nat) (r : Fd × Nat) (w : World) (e : Ending) (w' : World) : Prop := Below w.heap.size w w' ∧ match r.1 with
  | none => e = .returned (.tuple #[.agg #[.bool false, .slice none 0 0, .int .i64 0, .int .i64 (r.2 : Int)], .int .i64 0])
  | some y => ∃ g, e = .returned (.tuple #[.agg #[.bool true, .slice (some ⟨g, 0, none⟩) K K, .int .i64 y.1, .int .i64 (r.2 : Int)], .int .i64 0]) ∧ w'.ownsRow w.heap.size 3 1 (.slice (some ⟨g, 0, none⟩) K K) K (I64 y.2)
/-- what Run answers where it is asked wrongly -/
def FE (c : Int) (w : World) (e : Ending) (w' : World) : Prop := Below w.heap.size w w' ∧ e = .returned (.tuple #[.agg #[.bool false, .slice none 0 0, .int .i64 0, .int .i64 0], .int .i64 c])
def errR (l : List In) (s k : Int) (n : Nat) (a : Int) : Int := if 4194304 < n then 2 else if mayB l s k = false then 90 else if a < 0 ∨ (n : Int) < a then 1 else 0
end Go.Proofs.Ytiggbgmnibndoaa
/- HELPERS: Run, asked wrongly; Run whole. -/
namespace Go.Proofs.Ytiggbgmnibndoaa
open Go.RowKit Go.Lk
set_option linter.unusedVariables false
set_option linter.unusedSimpArgs false
/-- what Run answers -/
def RunA (l : List In) (tx : List Int) (s k a : Int) (anch : Bool) (w : World) (e : Ending) (w' : World) : Prop :=
  (errR l s k tx.length a = 0 ∧ FR k.toNat (lockRun (prOf l tx s.toNat k.toNat) tx.length a.toNat anch) w e w') ∨ (errR l s k tx.length a ≠ 0 ∧ FE (errR l s k tx.length a) w e w')
end Go.Proofs.Ytiggbgmnibndoaa
/- HELPERS: awake. -/
namespace Go.Proofs.Ytiggbgmnibndoaa
open Go.RowKit Go.Lk
set_option linter.unusedVariables false
set_option linter.unusedSimpArgs false
abbrev L4 : List In := [⟨3, 1, 0, 0, []⟩, ⟨1, 2, 0, 0, [(97, 97)]⟩, ⟨3, 3, 0, 1, []⟩, ⟨5, 0, 0, 0, []⟩]
theorem may4 : mayB L4 0 2 = true := by kernel_rfl
abbrev F4 (q1 : Option Addr) (q3 : Nat) : List Value := [.int .i64 3, .int .i64 1, .int .i64 0, .int .i64 0, .slice none 0 0, .int .i64 1, .int .i64 2, .int .i64 0, .int .i64 0, .slice q1 1 q3, .int .i64 3, .int .i64 3, .int .i64 0, .int .i64 1, .slice none 0 0, .int .i64 5, .int .i64 0, .int .i64 0, .int .i64 0, .slice none 0 0]
abbrev N4 (q1 : Option Addr) (q3 : Nat) : List Iv := [⟨3, 1, 0, 0, none, 0, 0⟩, ⟨1, 2, 0, 0, q1, 1, q3⟩, ⟨3, 3, 0, 1, none, 0, 0⟩, ⟨5, 0, 0, 0, none, 0, 0⟩]
theorem pi4 {w : World} {base : Nat} {z1 q1 : Option Addr} {c q3 : Nat} (h : w.ownsRow base 60 5 (.slice z1 4 c) 4 (F4 q1 q3)) (hq : RowAt w.heap.size w (.slice q1 1 q3) [(97, 97)]) : PI w w.heap.size z1 4 L4 := by
  refine ⟨rfl, fun _ => ?_⟩
  rcases h.2 with ⟨_, h0⟩ | ⟨b, cap, cur, e, _⟩
  · omega
  · simp only [Value.slice.injEq] at e
    have hb := (h.lt b (by rw [e.1]; rfl)).2
    rw [e.1] at h
    have hF : F4 q1 q3 = (N4 q1 q3).flatMap Iv.cs := by simp [F4, N4]
    refine ⟨b, 0, fun i => (N4 q1 q3).getD i default, e.1, hb, fun i hi => ⟨?_, ?_⟩⟩
    · have hi4 : i < (N4 q1 q3).length := by simpa using hi
      have f : ∀ k, k < 5 → w.cell? ⟨b, i * 5 + k, none⟩ = (Iv.cs (N4 q1 q3)[i])[k]? := fun k hk => by
        rw [h.cellAt (i * 5 + k) (by simp at hi; omega), hF, flat5 (N4 q1 q3) i k hi4 hk]
      have f0 := f 0 (by omega)
      rw [Nat.add_zero] at f0
      show I5 w b 0 i ((N4 q1 q3).getD i default)
      rw [show (N4 q1 q3).getD i default = (N4 q1 q3)[i] by simp only [List.getD_eq_getElem?_getD, List.getElem?_eq_getElem hi4, Option.getD_some]]
      unfold I5
      rw [Nat.zero_add]
      exact ⟨f0, f 1 (by omega), f 2 (by omega), f 3 (by omega), f 4 (by omega)⟩
    · have nil : ∀ a b c d : Int, IM w w.heap.size ⟨a, b, c, d, none, 0, 0⟩ ⟨a, b, c, d, []⟩ := fun a b c d => ⟨rfl, rfl, rfl, rfl, rfl, by show 0 * 16 ≤ _; omega, ⟨none, 0, rfl, .inl rfl⟩⟩
      match i, hi with
      | 0, _ => exact nil _ _ _ _
      | 1, _ => exact ⟨rfl, rfl, rfl, rfl, rfl, by show 1 * 16 ≤ _; omega, hq⟩
      | 2, _ => exact nil _ _ _ _
      | 3, _ => exact nil _ _ _ _
abbrev A4 (g : Nat) : Array Value := #[.int .i64 3, .int .i64 1, .int .i64 0, .int .i64 0, .slice none 0 0, .int .i64 1, .int .i64 2, .int .i64 0, .int .i64 0, .slice (some ⟨g, 0, none⟩) 1 1, .int .i64 3, .int .i64 3, .int .i64 0, .int .i64 1, .slice none 0 0, .int .i64 5, .int .i64 0, .int .i64 0, .int .i64 0, .slice none 0 0]
set_option maxRecDepth 100000 in
set_option maxHeartbeats 8000000 in
theorem letter20 (w : World) : Calls Try.prog 26 #[.int .i64 97] w fun e w' => ∃ g, e = .returned (pv (some ⟨g, 0, none⟩) 4 4 0 2) ∧ PI w' w'.heap.size (some ⟨g, 0, none⟩) 4 L4 ∧ Below w.heap.size w w' := by
  go_enter Try.func26, Try.ntmps26
  go_wp2
  obtain ⟨U, hU⟩ : ∃ U, U = (((w.alloc (.cells #[.slice (some ⟨w.heap.size + 1 + 1, 0, none⟩) 4 4, .int .i64 0, .int .i64 2] 27)).alloc (.cells #[.int .i64 97, .int .i64 97] 62)).alloc (.cells (A4 (w.heap.size + 1)) 60)) := ⟨_, rfl⟩
  rw [← hU]
  obtain ⟨h0, h1, h2, h3⟩ := three_new w (.cells #[.slice (some ⟨w.heap.size + 1 + 1, 0, none⟩) 4 4, .int .i64 0, .int .i64 2] 27) (.cells #[.int .i64 97, .int .i64 97] 62) (.cells (A4 (w.heap.size + 1)) 60)
  rw [← hU] at h0 h1 h2 h3
  refine bodyPost_ret (results_cell_row rfl _ _ w.heap.size 27 _ (0, 0) _ rfl h0 Try.underlying27 rfl (by kernel_rfl)) rfl ?_
  have hb : Below w.heap.size w U := ⟨by rw [hU]; rfl, by rw [hU]; rfl, by rw [hU]; rfl, by rw [hU]; simp; omega, h3⟩
  have hrow : U.ownsRow 0 60 5 (.slice (some ⟨w.heap.size + 1 + 1, 0, none⟩) 4 4) 4 (F4 (some ⟨w.heap.size + 1, 0, none⟩) 1) := by
    have h4 := World.ownsRow_lit (base := 0) (e := 60) (size := 5) ((w.alloc (.cells #[.slice (some ⟨w.heap.size + 1 + 1, 0, none⟩) 4 4, .int .i64 0, .int .i64 2] 27)).alloc (.cells #[.int .i64 97, .int .i64 97] 62)) (A4 (w.heap.size + 1)) 4 (Nat.zero_le _) (by unfold maxLen; omega) rfl
    rw [← hU] at h4
    rw [show ((w.alloc (.cells #[.slice (some ⟨w.heap.size + 1 + 1, 0, none⟩) 4 4, .int .i64 0, .int .i64 2] 27)).alloc (.cells #[.int .i64 97, .int .i64 97] 62)).heap.size = w.heap.size + 1 + 1 by simp] at h4
    exact h4
  have hlt : w.heap.size + 1 < U.heap.size := (Array.getElem?_eq_some_iff.1 h1).1
  have hr : RowAt U.heap.size U (.slice (some ⟨w.heap.size + 1, 0, none⟩) 1 1) [(97, 97)] :=
    ⟨some ⟨w.heap.size + 1, 0, none⟩, 1, rfl, .inr ⟨w.heap.size + 1, 0, rfl, hlt, fun k hk => by have : k = 0 := (by simpa using hk); subst this; exact Joins.cell_of_block h1 0, fun k hk => by have : k = 0 := (by simpa using hk); subst this; exact Joins.cell_of_block h1 1⟩⟩
  exact ⟨w.heap.size + 1 + 1, rfl, pi4 hrow hr, hb⟩
end Go.Proofs.Ytiggbgmnibndoaa
/- HELPERS: the call at the head of each law; two lists held against one another. -/
namespace Go.Proofs.Ytiggbgmnibndoaa
open Go.RowKit
set_option linter.unusedVariables false
set_option linter.unusedSimpArgs false
theorem take_snocI (l : List Int) (k : Nat) (h : k < l.length) : l.take (k + 1) = l.take k ++ [l.getD k 0] := by
  rw [List.take_add_one]
  simp [List.getD, h]
/-- a slice value whose cells hold ints -/
def IntsC (w : World) (v : Value) (l : List Int) : Prop := ∃ ad cap, v = .slice ad l.length cap ∧ (l.length = 0 ∨ ∃ b off, ad = some ⟨b, off, none⟩ ∧ (∀ k, k < l.length → w.cell? ⟨b, off + k, none⟩ = some (.int .i64 (l.getD k 0))))
theorem ints_own {w : World} {B n : Nat} {v : Value} {l : List Int} (hn : n = l.length) (h : w.ownsRow B 3 1 v n (I64 l)) : IntsC w v l := by
  subst hn
  rcases Joins.ownsRow_forms h with ⟨rfl, h0⟩ | ⟨g, cap, rfl⟩
  · refine ⟨none, 0, ?_, .inl h0⟩
    rw [h0]
  · refine ⟨_, cap, rfl, .inr ⟨g, 0, rfl, fun k hk => ?_⟩⟩
    rw [Nat.zero_add, h.cellAt k (by omega)]
    simp [hk]
theorem IntsC.drewN {w : World} {v : Value} {l : List Int} (h : IntsC w v l) (q : Nat) : IntsC (w.drewN q) v l := h
theorem take_eq_step {a b : List Int} {k : Nat} (ha : k < a.length) (hb : k < b.length) (h : a.take k = b.take k) (hx : a.getD k 0 = b.getD k 0) : a.take (k + 1) = b.take (k + 1) := by
  rw [take_snocI a k ha, take_snocI b k hb, h, hx]
theorem ne_at {a b : List Int} {k : Nat} (hx : ¬ a.getD k 0 = b.getD k 0) : ¬ a = b := fun h => hx (by rw [h])
set_option maxHeartbeats 1000000 in
set_option maxRecDepth 1000000 in
theorem same14 (la lb : List Int) (va vb : Value) (w : World) (ha : IntsC w va la) (hb : IntsC w vb lb) (hla : la.length ≤ 140737488351232) (hlb : lb.length ≤ 140737488351232) :
    Calls Try.prog 15 #[va, vb] w fun e w' => e = .returned (.bool (decide (la = lb))) ∧ ∃ q, w' = w.drewN q := by
  obtain ⟨aa, ca, rfl, ha⟩ := ha
  obtain ⟨ab, cb, rfl, hb⟩ := hb
  generalize hna : la.length = na at *
  generalize hnb : lb.length = nb at *
  have HNA : Hid (la.length = na) := hna
  have HNB : Hid (lb.length = nb) := hnb
  clear hna hnb
  by_cases hne : na = nb
  · subst hne
    go_enter Try.func15, Try.ntmps15
    go_wp2
    go_loopw [5] (fun i wr => ∃ (k q : Nat), k ≤ na ∧ i = .int .i64 k ∧ wr = w.drewN q ∧ Hid (la.take k = lb.take k))
      (fun i _ => na - (intOf i).toNat)
    case atStart => exact ⟨0, 0, by omega, rfl, rfl, by exact rfl⟩
    case round =>
      obtain ⟨k, q, hk, rfl, rfl, HR⟩ := hrel
      by_cases hlt : k < na
      · obtain ⟨b1, o1, rfl, c1⟩ := ha.resolve_left (by omega)
        obtain ⟨b2, o2, rfl, c2⟩ := hb.resolve_left (by omega)
        have d1 := c1 k hlt
        have d2 := c2 k hlt
        have hst := take_eq_step (by rw [HNA.out]; exact hlt) (by rw [HNB.out]; exact hlt) HR.out
        have hnx := ne_at (a := la) (b := lb) (k := k)
        generalize la.getD k 0 = x at d1 hst hnx
        generalize lb.getD k 0 = y at d2 hst hnx
        have HST : Hid (x = y → la.take (k + 1) = lb.take (k + 1)) := hst
        have HNX : Hid (¬ x = y → ¬ la = lb) := hnx
        clear hst hnx c1 c2
        by_cases hxy : x = y
        · subst hxy
          go_wp2
          go_quiet (fail)
          go_wp2
          go_roundw
          case rel => exact ⟨k + 1, q + nq, by omega, by go_num, by simp, by exact HST.out (by trivial)⟩
          case measure => simp [intOf]; omega
        · have hE : Hid (¬ la = lb) := HNX.out hxy
          go_wp2
          go_quiet (fail)
          go_wp2
          go_ret
          exact ⟨ret_bool (by simp [hE.out]), _, by simp; rfl⟩
      · obtain rfl : k = na := by omega
        have hE : Hid (la = lb) := by
          have := HR.out
          rwa [List.take_of_length_le (by rw [HNA.out]; exact Nat.le_refl _), List.take_of_length_le (by rw [HNB.out]; exact Nat.le_refl _)] at this
        clear HR ha hb
        go_wp2
        go_ret
        exact ⟨ret_bool (by simp [hE.out]), q, rfl⟩
  · have hE : Hid (¬ la = lb) := fun h => hne (by rw [← HNA.out, ← HNB.out, h])
    clear ha hb
    go_enter Try.func15, Try.ntmps15
    go_wp2
    go_ret
    exact ⟨ret_bool (by simp [hE.out]), 0, rfl⟩
end Go.Proofs.Ytiggbgmnibndoaa
/- HELPERS: the document's side: may an instruction be. -/
namespace Go.Proofs.Ytiggbgmnibndoaa
open Go.RowKit
set_option linter.unusedVariables false
set_option linter.unusedSimpArgs false
theorem ok_1 (x y a : Int) (R : List (Int × Int)) (n caps : Int) : In.okB ⟨1, x, y, a, R⟩ n caps = (belowB x n && (y == 0) && (a == 0) && (decide (0 < R.length) && rightB R)) := by simp [In.okB, isTargetB, hasXB, hasYB, isArgB, isRangesB]
theorem ok_2 (x y a : Int) (R : List (Int × Int)) (n caps : Int) : In.okB ⟨2, x, y, a, R⟩ n caps = (belowB x n && belowB y n && (a == 0) && (R.length == 0)) := by simp [In.okB, isTargetB, hasXB, hasYB, isArgB, isRangesB]
theorem ok_3 (x y a : Int) (R : List (Int × Int)) (n caps : Int) : In.okB ⟨3, x, y, a, R⟩ n caps = (belowB x n && (y == 0) && belowB a caps && (R.length == 0)) := by simp [In.okB, isTargetB, hasXB, hasYB, isArgB, isRangesB]
theorem ok_4 (x y a : Int) (R : List (Int × Int)) (n caps : Int) : In.okB ⟨4, x, y, a, R⟩ n caps = (belowB x n && (y == 0) && assertB a && (R.length == 0)) := by simp [In.okB, isTargetB, hasXB, hasYB, isArgB, isRangesB]
theorem ok_5 (x y a : Int) (R : List (Int × Int)) (n caps : Int) : In.okB ⟨5, x, y, a, R⟩ n caps = ((x == 0) && (y == 0) && belowB a 100 && (R.length == 0)) := by simp [In.okB, isTargetB, hasXB, hasYB, isArgB, isRangesB]
theorem ok_6 (x y a : Int) (R : List (Int × Int)) (n caps : Int) : In.okB ⟨6, x, y, a, R⟩ n caps = ((x == 0) && (y == 0) && (a == 0) && (R.length == 0)) := by simp [In.okB, isTargetB, hasXB, hasYB, isArgB, isRangesB]
theorem ok_7 (x y a : Int) (R : List (Int × Int)) (n caps : Int) : In.okB ⟨7, x, y, a, R⟩ n caps = (belowB x n && (y == 0) && (a == 0) && (R.length == 0)) := by simp [In.okB, isTargetB, hasXB, hasYB, isArgB, isRangesB]
theorem ok_no (op x y a : Int) (R : List (Int × Int)) (n caps : Int) (h1 : op ≠ 1) (h2 : op ≠ 2) (h3 : op ≠ 3) (h4 : op ≠ 4) (h5 : op ≠ 5) (h6 : op ≠ 6) (h7 : op ≠ 7) : In.okB ⟨op, x, y, a, R⟩ n caps = false := by simp [In.okB, isArgB, h1, h2, h3, h4, h5, h6, h7]
set_option maxRecDepth 100000 in
set_option maxHeartbeats 8000000 in
theorem may23 (N : Iv) (R : List (Int × Int)) (n caps : Int) (w : World) (hn : N.r2 = R.length) (hS : N.r2 * 16 ≤ 140737488351232) (hl : RowAt w.heap.size w (.slice N.r1 N.r2 N.r3) R) :
    Calls Try.prog 32 #[N.v, .int .i64 n, .int .i64 caps] w fun e w' => e = .returned (.bool (In.okB ⟨N.op, N.x, N.y, N.a, R⟩ n caps)) ∧ Below w.heap.size w w' := by
  obtain ⟨op, x, y, a, r1, r2, r3⟩ := N
  dsimp only at hn hS hl ⊢
  obtain ⟨ok, hok⟩ : ∃ ok, ok = In.okB ⟨op, x, y, a, R⟩ n caps := ⟨_, rfl⟩
  rw [← hok]
  have HOK := hid' hok
  clear hok
  obtain ⟨U, hU⟩ : ∃ U, U = w.alloc (.cells #[.int .i64 op, .int .i64 x, .int .i64 y, .int .i64 a, .slice r1 r2 r3] 60) := ⟨_, rfl⟩
  have hb : Below w.heap.size w U := by rw [hU]; exact Joins.below_alloc1 w _
  have hX : U.heap[w.heap.size]? = some (.cells #[.int .i64 op, .int .i64 x, .int .i64 y, .int .i64 a, .slice r1 r2 r3] 60 (0, 0)) := by rw [hU]; exact heap_alloc_new w _
  obtain ⟨c0, c1, c2, c3, c4⟩ := five hX
  have HC := rright33 R r1 r2 r3 U hn.symm (by omega) (hl.below hb (Nat.le_refl _) hb.size)
  have HB := hid' hb
  have HX := hid' hX
  have hsz : w.heap.size < U.heap.size := (Array.getElem?_eq_some_iff.1 hX).1
  have HN := hid' hn
  clear hl hb hX hn
  obtain ⟨b, hbe⟩ : ∃ b, b = w.heap.size := ⟨_, rfl⟩
  obtain ⟨rt, hrt⟩ : ∃ rt, rt = rightB R := ⟨_, rfl⟩
  rw [← hrt] at HC
  go_enter Try.func32, Try.ntmps32
  go_upto_region 1 with fail
  rw [← hU, ← hbe]
  rw [← hbe] at c0 c1 c2 c3 c4 hsz HX HB
  have HBE := hid' hbe
  have HRT := hid' hrt
  clear hU hbe hrt
  go_upto_region 2 with (go_at_call 36; (with_reducible refine HC.mono ?_); rintro e w2 ⟨rfl, hb2⟩; have HB2 := hid' hb2; clear hb2 HC)
  clear c0 c1 c2 c3 c4
  obtain ⟨c0, c1, c2, c3, c4⟩ := five ((HB2.out.block b hsz).trans HX.out)
  have HF : Hid (Below b w w2) := HB.out.trans (Joins.below_le HB2.out (by omega))
  clear HB HB2 HX hsz
  have lift : ∀ (bb : Bool), bb = ok → Ending.returned (.bool bb) = .returned (.bool ok) ∧ Below w.heap.size w w2 := fun bb h => ⟨ret_bool h, by rw [← HBE.out]; exact HF.out⟩
  have LIFT := hid' lift
  clear lift HBE HF
  have hr2 : R.length = r2 := HN.out.symm
  have HR2 := hid' hr2
  clear hr2 HN
  by_cases h1 : op = 1
  · subst h1
    by_cases hz : r2 = 0
    · subst hz
      cases rt <;> go_wp2 <;> go_ret <;> refine LIFT.out _ ?_ <;> rw [HOK.out, ok_1, HR2.out] <;> simp
    · have b1 : decide ((r2 : Int) > 0) = true := by simp; omega
      have b2 : decide (0 < r2) = true := by simp; omega
      have b3 : 0 < r2 := by omega
      cases rt <;> go_wp2 <;> go_ret <;> refine LIFT.out _ ?_ <;> rw [HOK.out, ok_1, HR2.out, ← HRT.out, belowB] <;> simp [*] <;> (intros; omega)
  by_cases h2 : op = 2
  · subst h2
    clear HRT
    by_cases hz : r2 = 0
    · subst hz
      go_wp2 <;> go_ret <;> refine LIFT.out _ ?_ <;> rw [HOK.out, ok_2, HR2.out] <;> simp [*, belowB, assertB] <;> (intros; omega)
    · have b1 : ((r2 : Int) == 0) = false := by simp; omega
      have b2 : (r2 == 0) = false := by simp; omega
      go_wp2 <;> go_ret <;> refine LIFT.out _ ?_ <;> rw [HOK.out, ok_2, HR2.out, b2] <;> simp
  by_cases h3 : op = 3
  · subst h3
    clear HRT
    by_cases hz : r2 = 0
    · subst hz
      go_wp2 <;> go_ret <;> refine LIFT.out _ ?_ <;> rw [HOK.out, ok_3, HR2.out] <;> simp [*, belowB, assertB] <;> (intros; omega)
    · have b1 : ((r2 : Int) == 0) = false := by simp; omega
      have b2 : (r2 == 0) = false := by simp; omega
      go_wp2 <;> go_ret <;> refine LIFT.out _ ?_ <;> rw [HOK.out, ok_3, HR2.out, b2] <;> simp
  by_cases h4 : op = 4
  · subst h4
    clear HRT
    by_cases hz : r2 = 0
    · subst hz
      go_wp2 <;> go_ret <;> refine LIFT.out _ ?_ <;> rw [HOK.out, ok_4, HR2.out] <;> simp [*, belowB, assertB] <;> (intros; omega)
    · have b1 : ((r2 : Int) == 0) = false := by simp; omega
      have b2 : (r2 == 0) = false := by simp; omega
      go_wp2 <;> go_ret <;> refine LIFT.out _ ?_ <;> rw [HOK.out, ok_4, HR2.out, b2] <;> simp
  by_cases h5 : op = 5
  · subst h5
    clear HRT
    by_cases hz : r2 = 0
    · subst hz
      go_wp2 <;> go_ret <;> refine LIFT.out _ ?_ <;> rw [HOK.out, ok_5, HR2.out] <;> simp [*, belowB, assertB] <;> (intros; omega)
    · have b1 : ((r2 : Int) == 0) = false := by simp; omega
      have b2 : (r2 == 0) = false := by simp; omega
      go_wp2 <;> go_ret <;> refine LIFT.out _ ?_ <;> rw [HOK.out, ok_5, HR2.out, b2] <;> simp
  by_cases h6 : op = 6
  · subst h6
    clear HRT
    by_cases hz : r2 = 0
    · subst hz
      go_wp2 <;> go_ret <;> refine LIFT.out _ ?_ <;> rw [HOK.out, ok_6, HR2.out] <;> simp [*, belowB, assertB] <;> (intros; omega)
    · have b1 : ((r2 : Int) == 0) = false := by simp; omega
      have b2 : (r2 == 0) = false := by simp; omega
      go_wp2 <;> go_ret <;> refine LIFT.out _ ?_ <;> rw [HOK.out, ok_6, HR2.out, b2] <;> simp
  by_cases h7 : op = 7
  · subst h7
    clear HRT
    by_cases hz : r2 = 0
    · subst hz
      go_wp2 <;> go_ret <;> refine LIFT.out _ ?_ <;> rw [HOK.out, ok_7, HR2.out] <;> simp [*, belowB, assertB] <;> (intros; omega)
    · have b1 : ((r2 : Int) == 0) = false := by simp; omega
      have b2 : (r2 == 0) = false := by simp; omega
      go_wp2 <;> go_ret <;> refine LIFT.out _ ?_ <;> rw [HOK.out, ok_7, HR2.out, b2] <;> simp
  have e1 : (op == 1) = false := by simpa using h1
  have e2 : (op == 2) = false := by simpa using h2
  have e3 : (op == 3) = false := by simpa using h3
  have e4 : (op == 4) = false := by simpa using h4
  have e5 : (op == 5) = false := by simpa using h5
  have e6 : (op == 6) = false := by simpa using h6
  have e7 : (op == 7) = false := by simpa using h7
  have hno := ok_no op x y a R n caps h1 h2 h3 h4 h5 h6 h7
  have HNO := hid' hno
  clear hno h1 h2 h3 h4 h5 h6 h7
  go_wp2 <;> go_ret <;> exact LIFT.out _ (by rw [HOK.out]; exact HNO.out.symm)
end Go.Proofs.Ytiggbgmnibndoaa
/- HELPERS: the document's Check. -/
namespace Go.Proofs.Ytiggbgmnibndoaa
open Go.RowKit
set_option linter.unusedVariables false
set_option linter.unusedSimpArgs false
set_option maxRecDepth 100000 in
set_option maxHeartbeats 8000000 in
theorem rcheck9_no {w : World} {ad : Option Addr} {n c : Nat} {l : List In} {s k : Int} (hl : n = l.length) (hno : (decide (l.length ≤ 20000) && belowB s l.length && capsB k) = false) :
    Calls Try.prog 24 #[pv ad n c s k] w fun e w' => e = .returned (.int .i64 (if mayB l s k then 0 else 90)) ∧ Below w.heap.size w w' := by
  rw [head_no hno]
  rw [← hl] at hno
  clear hl
  by_cases h0 : n < 1
  · have b0 : decide ((n : Int) < 1) = true := by simp; omega
    clear hno
    go_enter Try.func24, Try.ntmps24
    go_wp2
    all_goals go_ret
    all_goals exact ⟨rfl, Joins.below_alloc1 w _⟩
  have b0 : decide ((n : Int) < 1) = false := by simp; omega
  by_cases h1 : 20000 < n
  · have b1 : decide ((n : Int) > 20000) = true := by simp; omega
    have b1x : decide ((20000 : Int) < (n : Int)) = true := by simp; omega
    clear hno
    go_enter Try.func24, Try.ntmps24
    go_wp2
    all_goals go_ret
    all_goals exact ⟨rfl, Joins.below_alloc1 w _⟩
  have b1 : decide ((n : Int) > 20000) = false := by simp; omega
  have b1x : decide ((20000 : Int) < (n : Int)) = false := by simp; omega
  by_cases h2 : s < 0
  · have b2 : decide (s < 0) = true := by simp; omega
    clear hno
    go_enter Try.func24, Try.ntmps24
    go_wp2
    all_goals go_ret
    all_goals exact ⟨rfl, Joins.below_alloc1 w _⟩
  have b2 : decide (s < 0) = false := by simp; omega
  by_cases h3 : (n : Int) ≤ s
  · have b3 : decide (s ≥ (n : Int)) = true := by simp; omega
    have b3x : decide ((n : Int) ≤ s) = true := by simp; omega
    clear hno
    go_enter Try.func24, Try.ntmps24
    go_wp2
    all_goals go_ret
    all_goals exact ⟨rfl, Joins.below_alloc1 w _⟩
  have b3 : decide (s ≥ (n : Int)) = false := by simp; omega
  have b3x : decide ((n : Int) ≤ s) = false := by simp; omega
  by_cases h4 : k < 2
  · have b4 : decide (k < 2) = true := by simp; omega
    clear hno
    go_enter Try.func24, Try.ntmps24
    go_wp2
    all_goals go_ret
    all_goals exact ⟨rfl, Joins.below_alloc1 w _⟩
  have b4 : decide (k < 2) = false := by simp; omega
  by_cases h5 : 1002 < k
  · have b5 : decide (k > 1002) = true := by simp; omega
    have b5x : decide ((1002 : Int) < k) = true := by simp; omega
    clear hno
    go_enter Try.func24, Try.ntmps24
    go_wp2
    all_goals go_ret
    all_goals exact ⟨rfl, Joins.below_alloc1 w _⟩
  have b5 : decide (k > 1002) = false := by simp; omega
  have b5x : decide ((1002 : Int) < k) = false := by simp; omega
  have hm : k.tmod 2 = 1 := by
    have h6 : ¬ k % 2 = 0 := fun h6 => by
      have : belowB s n = true := by simp [belowB]; omega
      have : capsB k = true := by simp [capsB]; omega
      simp_all
    rw [Int.tmod_eq_emod_of_nonneg (by omega)]
    omega
  have b6 : (k.tmod 2 == 1) = true := by rw [hm]; rfl
  clear hno h0 h1 h2 h3 h4 h5 hm
  go_enter Try.func24, Try.ntmps24
  go_wp2
  all_goals go_ret
  all_goals exact ⟨rfl, Joins.below_alloc1 w _⟩
set_option maxRecDepth 100000 in
set_option maxHeartbeats 8000000 in
theorem rcheck9_ok {w : World} {ad : Option Addr} {n c : Nat} {l : List In} {s k : Int} (h : PI w w.heap.size ad n l) (hyes : (decide (l.length ≤ 20000) && belowB s l.length && capsB k) = true) :
    Calls Try.prog 24 #[pv ad n c s k] w fun e w' => e = .returned (.int .i64 (if mayB l s k then 0 else 90)) ∧ Below w.heap.size w w' := by
  have hm : mayB l s k = l.all fun I => I.okB l.length k := by unfold mayB; rw [hyes]; rfl
  rw [hm]
  have hl := h.len
  rw [← hl] at hyes ⊢
  simp only [Bool.and_eq_true, decide_eq_true_eq, belowB, capsB, beq_iff_eq] at hyes
  obtain ⟨⟨hA, g1, g1'⟩, ⟨g2, g2'⟩, g3⟩ := hyes
  have b0 : decide ((n : Int) < 1) = false := by simp; omega
  have b1 : decide ((n : Int) > 20000) = false := by simp; omega
  have b1x : decide ((20000 : Int) < (n : Int)) = false := by simp; omega
  have b2 : decide (s < 0) = false := by simp; omega
  have b3 : decide (s ≥ (n : Int)) = false := by simp; omega
  have b3x : decide ((n : Int) ≤ s) = false := by simp; omega
  have b4 : decide (k < 2) = false := by simp; omega
  have b5 : decide (k > 1002) = false := by simp; omega
  have b5x : decide ((1002 : Int) < k) = false := by simp; omega
  have b6 : (k.tmod 2 == 1) = false := by rw [Int.tmod_eq_emod_of_nonneg (by omega), g3]; rfl
  obtain ⟨rv, hrv⟩ : ∃ rv : Int, rv = (if (l.all fun I => I.okB n k) = true then 0 else 90) := ⟨_, rfl⟩
  rw [← hrv]
  have HRES := hid' hrv
  clear hrv hm
  obtain ⟨U, hU⟩ : ∃ U, U = w.alloc (.cells #[.slice ad n c, .int .i64 s, .int .i64 k] 27) := ⟨_, rfl⟩
  have hb : Below w.heap.size w U := by rw [hU]; exact Joins.below_alloc1 w _
  have hX : U.heap[w.heap.size]? = some (.cells #[.slice ad n c, .int .i64 s, .int .i64 k] 27 (0, 0)) := by rw [hU]; exact heap_alloc_new w _
  have hsz : w.heap.size < U.heap.size := (Array.getElem?_eq_some_iff.1 hX).1
  have HP := hid' (h.kept hb hb.size)
  have HB := hid' hb
  have HX := hid' hX
  have HL := hid' hl
  clear h hl hb hX g1 g1' g2 g2' g3
  obtain ⟨b, hbe⟩ : ∃ b, b = w.heap.size := ⟨_, rfl⟩
  go_enter Try.func24, Try.ntmps24
  go_upto_region 1 with fail
  rw [← hU, ← hbe]
  rw [← hbe] at hsz HX HB
  have HBE := hid' hbe
  clear hU hbe
  obtain ⟨c0, c1, c2⟩ := three_cells HX.out
  go_wp2_with fail
  clear c0 c1 c2 b0 b1 b1x b2 b3 b3x b4 b5 b5x b6
  go_loopw [4] (fun y wq => ∃ i : Nat, y = .int .i64 (i : Int) ∧ i ≤ n ∧ Hid (Below U.heap.size U wq) ∧ Hid (∀ j (hj : j < l.length), j < i → (l[j]).okB n k = true)) (fun y _ => n - (intOf y).toNat)
  case atStart => exact ⟨0, rfl, by omega, Below.refl _ _, fun j hj h0 => by omega⟩
  case round =>
    obtain ⟨i, rfl, hi, BK, HA⟩ := hrel
    by_cases hil : i < n
    · have b1 : decide ((i : Int) < (n : Int)) = true := by simp; omega
      have b2 : (i : Int) < (n : Int) := by omega
      have ad1 : IntKind.i64.wrap ((i : Int) + 1) = (i : Int) + 1 := by simp [IntKind.wrap, IntKind.bits, IntKind.signed]; omega
      have hlt : i < l.length := by have := HL.out; omega
      obtain ⟨q, o, ND, e, hq, hcs⟩ := HP.out.mem (by omega)
      subst e
      obtain ⟨m0, m1, m2, m3, m4⟩ := (hcs i hlt).1.kept (BK.out.block q hq)
      have hIM := (hcs i hlt).2.kept BK.out BK.out.size
      obtain ⟨M, hM⟩ : ∃ M, M = ND i := ⟨_, rfl⟩
      rw [← hM] at m0 m1 m2 m3 m4 hIM
      have hbw : b < wr.heap.size := by have := BK.out.size; omega
      obtain ⟨p0, p1, p2⟩ := three_cells ((BK.out.block b hsz).trans HX.out)
      have HCw : ∀ W, W.heap = wr.heap → W.os = wr.os → W.tape = wr.tape → W.output = wr.output → Calls Try.prog 32 #[M.v, .int .i64 n, .int .i64 k] W fun e w' => e = .returned (.bool (l[i].okB n k)) ∧ Below wr.heap.size wr w' := by
        intro W e1 e2 e3 e4
        have hbW : Below wr.heap.size wr W := ⟨e2, e3, e4, by rw [e1]; exact Nat.le_refl _, fun k hk => by rw [e1]⟩
        have hIW := hIM.kept hbW hbW.size
        have HC := may23 M l[i].R n k W hIW.len hIW.sm hIW.row
        rw [hIW.op, hIW.x, hIW.y, hIW.a] at HC
        exact HC.mono fun e w' h => ⟨h.1, hbW.trans (Joins.below_le h.2 hbW.size)⟩
      have HCC := hid' HCw
      clear hM hIM hcs HCw
      cases g : l[i].okB n k
      · rw [g] at HCC
        go_wp2_with fail
        go_region_held3 (fun W => W.cell? ⟨b, 0, none⟩ = some (.slice (some ⟨q, o, none⟩) n c) ∧ W.cell? ⟨b, 2, none⟩ = some (.int .i64 k) ∧ W.cell? ⟨q, o + i * 5, none⟩ = some (.int .i64 M.op) ∧ W.cell? ⟨q, o + i * 5 + 1, none⟩ = some (.int .i64 M.x) ∧ W.cell? ⟨q, o + i * 5 + 2, none⟩ = some (.int .i64 M.y) ∧ W.cell? ⟨q, o + i * 5 + 3, none⟩ = some (.int .i64 M.a) ∧ W.cell? ⟨q, o + i * 5 + 4, none⟩ = some (.slice M.r1 M.r2 M.r3)) (first | (exact ⟨d0, d1, d2, d3, d4, d5, d6⟩) | (simp [*]; done)) (first | (go_at_call 32; (with_reducible refine (HCC.out _ ?_ ?_ ?_ ?_).mono ?_); (rfl); (rfl); (rfl); (rfl); rintro e w2 ⟨rfl, hb2⟩; have hq' : q < wr.heap.size := (by have := BK.out.size; omega); have d0 := (cell_eq (hb2.block b hbw) 0).trans p0; have d1 := (cell_eq (hb2.block b hbw) 2).trans p2; have d2 := (cell_eq (hb2.block q hq') _).trans m0; have d3 := (cell_eq (hb2.block q hq') _).trans m1; have d4 := (cell_eq (hb2.block q hq') _).trans m2; have d5 := (cell_eq (hb2.block q hq') _).trans m3; have d6 := (cell_eq (hb2.block q hq') _).trans m4; have HB2 := hid' hb2; clear hb2))
        all_goals go_wp2
        all_goals go_ret
        all_goals have hf : rv = 90 := (by rw [HRES.out, if_neg]; rw [Bool.not_eq_true, List.all_eq_false]; exact ⟨l[i], List.getElem_mem hlt, by rw [g]; simp⟩)
        all_goals refine ⟨by first | (rw [hf]; rfl) | exact ret_int hf.symm, ?_⟩
        all_goals rw [← HBE.out]
        all_goals exact HB.out.trans (Joins.below_le (BK.out.trans (Joins.below_le HB2.out BK.out.size)) (by omega))
      · rw [g] at HCC
        go_wp2_with fail
        go_region_held3 (fun W => W.cell? ⟨b, 0, none⟩ = some (.slice (some ⟨q, o, none⟩) n c) ∧ W.cell? ⟨b, 2, none⟩ = some (.int .i64 k) ∧ W.cell? ⟨q, o + i * 5, none⟩ = some (.int .i64 M.op) ∧ W.cell? ⟨q, o + i * 5 + 1, none⟩ = some (.int .i64 M.x) ∧ W.cell? ⟨q, o + i * 5 + 2, none⟩ = some (.int .i64 M.y) ∧ W.cell? ⟨q, o + i * 5 + 3, none⟩ = some (.int .i64 M.a) ∧ W.cell? ⟨q, o + i * 5 + 4, none⟩ = some (.slice M.r1 M.r2 M.r3)) (first | (exact ⟨d0, d1, d2, d3, d4, d5, d6⟩) | (simp [*]; done)) (first | (go_at_call 32; (with_reducible refine (HCC.out _ ?_ ?_ ?_ ?_).mono ?_); (rfl); (rfl); (rfl); (rfl); rintro e w2 ⟨rfl, hb2⟩; have hq' : q < wr.heap.size := (by have := BK.out.size; omega); have d0 := (cell_eq (hb2.block b hbw) 0).trans p0; have d1 := (cell_eq (hb2.block b hbw) 2).trans p2; have d2 := (cell_eq (hb2.block q hq') _).trans m0; have d3 := (cell_eq (hb2.block q hq') _).trans m1; have d4 := (cell_eq (hb2.block q hq') _).trans m2; have d5 := (cell_eq (hb2.block q hq') _).trans m3; have d6 := (cell_eq (hb2.block q hq') _).trans m4; have HB2 := hid' hb2; clear hb2))
        all_goals go_wp2
        all_goals refine ⟨⟨i + 1, by push_cast; rfl, by omega, BK.out.trans (Joins.below_le HB2.out BK.out.size), fun j hj h1 => ?_⟩, by simp [intOf]; omega⟩
        all_goals
          by_cases e : j = i
          · subst e; exact g
          · exact HA.out j hj (by omega)
    · have b1 : decide ((i : Int) < (n : Int)) = false := by simp; omega
      go_wp2
      all_goals go_ret
      all_goals have hf : rv = 0 := (by rw [HRES.out, if_pos]; rw [List.all_eq_true]; intro I hI; obtain ⟨j, hj, rfl⟩ := List.getElem_of_mem hI; exact HA.out j hj (by have := HL.out; omega))
      all_goals refine ⟨by first | (rw [hf]; rfl) | exact ret_int hf.symm, ?_⟩
      rw [← HBE.out]
      exact HB.out.trans (Joins.below_le BK.out (by omega))
theorem rcheck9 {w : World} {ad : Option Addr} {n c : Nat} {l : List In} {s k : Int} (h : PI w w.heap.size ad n l) : Calls Try.prog 24 #[pv ad n c s k] w fun e w' => e = .returned (.int .i64 (if mayB l s k then 0 else 90)) ∧ Below w.heap.size w w' := by
  cases hh : decide (l.length ≤ 20000) && belowB s l.length && capsB k with
  | false => exact rcheck9_no h.len hh
  | true => exact rcheck9_ok h hh
end Go.Proofs.Ytiggbgmnibndoaa
/- HELPERS: trees, and texts with a place, that come in as arguments. -/
namespace Go.Proofs.Ytiggbgmnibndoaa
open Go.ChangeShapes Go.WideShapes Go.ChangeAt Go.RowKit Go.Deep
set_option linter.unusedVariables false
set_option linter.unusedSimpArgs false
theorem cells3a : Try.prog.cellsOf 3 = 1 := by kernel_rfl
theorem lt_of_cell {w : World} {b o : Nat} {v : Value} (h : w.cell? ⟨b, o, none⟩ = some v) : b < w.heap.size := by
  rcases Nat.lt_or_ge b w.heap.size with h1 | h1
  · exact h1
  · have : w.heap[b]? = none := Array.getElem?_eq_none h1
    simp [World.cell?, this] at h
/-- how a range's type is made -/
structure RgTy (P : Program) (tr te ti : TypeId) (g0 g1 : Field) : Prop where
  ci : P.cellsOf ti = 1
  hi : P.underlying ti = some (.int .i64)
  hr : P.underlying tr = some (.slice te)
  he : P.underlying te = some (.struct #[g0, g1])
  ce : P.cellsOf te = 2
  og : g0.offset = 0 ∧ g1.offset = 1 ∧ g0.type = ti ∧ g1.type = ti
section
variable {H : Type} {enc : TypeId × Value → H} {P : Program} {w : World} {base : Nat} {spare : Nat → Bool} {held : Bool} {tr te ti : TypeId} {g0 g1 : Field}
theorem open_rng (S : RgTy P tr te ti g0 g1) {fuel : Nat} {cs : List Value} {x : DataW H × List MemPlace} (h : DataW.trod enc P w base spare held fuel tr cs = some x) :
    ∃ (ad : Option Addr) (n c : Nat) (R : List (Int × Int)), cs = [.slice ad n c] ∧ n = R.length ∧ n ≤ c ∧ c ≤ maxLen ∧ R2 w w.heap.size ad R ∧ ∀ x ∈ R, I64ok x.1 ∧ I64ok x.2 := by
  obtain ⟨o0, o1, t0, t1⟩ := S.og
  rcases open_slice_pairs S.hr S.he S.ce o0 o1 (by rw [t0]; exact S.ci) (by rw [t1]; exact S.ci) h with ⟨rfl, rfl⟩ | ⟨a, len, cap, m, n, V0, V1, D0, D1, P0, P1, rfl, hb, hl, hm, hmm, rfl, hx⟩
  · exact ⟨none, 0, 0, [], rfl, rfl, Nat.le_refl _, by simp [maxLen], fun hn => absurd rfl hn, fun x hx => by cases hx⟩
  have hlm : len ≤ m := by rw [hmm]; split <;> omega
  rw [t0, t1] at hx
  have each : ∀ i, i < len → ∃ q : Int × Int, w.cell? (a.add (i * 2)) = some (.int .i64 q.1) ∧ w.cell? (a.add (i * 2 + 1)) = some (.int .i64 q.2) ∧ I64ok q.1 ∧ I64ok q.2 := fun i hi => by
    obtain ⟨h1, h2, h3, h4⟩ := hx i (by omega)
    obtain ⟨n0, e0, _, w0⟩ := DataW.trod_int S.hi h3
    obtain ⟨n1, e1, _, w1⟩ := DataW.trod_int S.hi h4
    simp at e0 e1
    rw [e0] at h1
    rw [e1] at h2
    exact ⟨(n0, n1), h1, h2, i64ok w0, i64ok w1⟩
  obtain ⟨q, hq⟩ := choose_lt each
  refine ⟨some a, len, cap, (List.range len).map q, rfl, by simp, hl, hm, fun hn => ?_, fun x hx => ?_⟩
  · have hpos : 0 < len := by
      rcases Nat.eq_zero_or_pos len with h0 | h0
      · subst h0; simp at hn
      · exact h0
    have hc0 := (hq 0 hpos).1
    have hsp : a.spot = none := by simpa [Addr.add] using World.cell?_spot hc0
    obtain ⟨b, o, sp⟩ := a
    simp only at hsp
    subst hsp
    refine ⟨b, o, rfl, World.block_lt_of_cell? _ _ hc0, fun i hi => ?_⟩
    simp only [List.length_map, List.length_range] at hi
    have h1 := hq i hi
    rw [add_plain, add_plain] at h1
    simp only [List.getElem_map, List.getElem_range]
    exact ⟨h1.1, by rw [Nat.add_assoc]; exact h1.2.1⟩
  · simp only [List.mem_map, List.mem_range] at hx
    obtain ⟨i, hi, rfl⟩ := hx
    exact (hq i hi).2.2
end
theorem rgTy : RgTy Try.prog 58 62 3 { name := "Lo", type := 3, offset := 0, embedded := false, tag := "", pkgPath := "", byteOffset := 0 } { name := "Hi", type := 3, offset := 1, embedded := false, tag := "", pkgPath := "", byteOffset := 8 } where
  ci := by kernel_rfl
  hi := Try.underlying3
  hr := Try.underlying58
  he := Try.underlying62
  ce := by kernel_rfl
  og := ⟨rfl, rfl, rfl, rfl⟩
end Go.Proofs.Ytiggbgmnibndoaa
/- HELPERS: programs that come in as arguments. -/
namespace Go.Proofs.Ytiggbgmnibndoaa
open Go.RowKit Go.Deep Go.ChangeShapes Go.WideShapes
set_option linter.unusedVariables false
set_option linter.unusedSimpArgs false
theorem cells36 : Try.prog.cellsOf 58 = 1 := by kernel_rfl
theorem cells22 : Try.prog.cellsOf 25 = 1 := by kernel_rfl
theorem cells51 : Try.prog.cellsOf 60 = 5 := by kernel_rfl
theorem cells24 : Try.prog.cellsOf 27 = 3 := by kernel_rfl
theorem bytes49 : Try.prog.bytesOf 62 = 16 := by kernel_rfl
theorem bytes51 : Try.prog.bytesOf 60 = 56 := by kernel_rfl
theorem weightsAll_mem {H : Type} {P : Program} {e : TypeId} : ∀ {l : List (DataW H)} {d : DataW H}, d ∈ l → ∀ n ∈ d.weights P e, n ∈ DataW.weightsAll P e l
  | x :: l, d, hd, n, hn => by
    simp only [DataW.weightsAll, List.mem_append]
    rcases List.mem_cons.1 hd with rfl | h
    · exact .inl hn
    · exact .inr (weightsAll_mem h n hn)
theorem reach_eq : reachBytes = 140737488351232 := by decide
set_option maxRecDepth 100000
section
variable {H : Type} {enc : TypeId × Value → H} {w : World} {base : Nat} {spare : Nat → Bool} {held : Bool}
theorem ranges_small {fuel : Nat} {cs : List Value} {x : DataW H × List MemPlace} (h : DataW.trod enc Try.prog w base spare held fuel 58 cs = some x) (hw : ∀ n ∈ x.1.weights Try.prog 58, n ≤ reachBytes) {ad : Option Addr} {n c : Nat} (hc : cs = [.slice ad n c]) : n * 16 ≤ 140737488351232 := by
  rcases DataW.trod_slice Try.underlying58 h with ⟨e, _⟩ | ⟨a, len, cap, elems, rest, n', _, e, hx, _, _, _, hel, _⟩
  · rw [hc] at e
    simp at e
    omega
  · rw [hc] at e
    simp at e
    have := hw ((elems.length + rest.length) * Try.prog.bytesOf 62) (by rw [hx]; simp [DataW.weights, Try.underlying58])
    rw [bytes49, reach_eq] at this
    omega
theorem open_inst {fuel : Nat} {cs : List Value} {x : DataW H × List MemPlace} (h : DataW.trod enc Try.prog w base spare held fuel 60 cs = some x) (hwt : ∀ n ∈ x.1.weights Try.prog 60, n ≤ reachBytes) : ∃ (N : Iv) (I : In), cs = Iv.cs N ∧ IM w w.heap.size N I := by
  obtain ⟨xs, n, hf, rfl, hl, hxl, hfs⟩ := DataW.trod_struct Try.underlying60 h
  rw [cells51] at hl
  simp only [List.size_toArray, List.length_cons, List.length_nil] at hxl
  match xs, hxl, cs, hl with
  | [y0, y1, y2, y3, y4], _, [v0, v1, v2, v3, v4], _ =>
  have g0 := hfs 0 _ rfl
  have g1 := hfs 1 _ rfl
  have g2 := hfs 2 _ rfl
  have g3 := hfs 3 _ rfl
  have g4 := hfs 4 _ rfl
  simp [cells3a] at g0 g1 g2 g3
  simp [cells36] at g4
  have hw4 : ∀ n ∈ y4.1.weights Try.prog 58, n ≤ reachBytes := fun n hn => hwt n (by
    simp only [DataW.weights, Try.underlying60]
    exact DataW.weights_mem_each (j := 4) (by simp) (by simp) n hn)
  obtain ⟨a0, e0, _, w0⟩ := DataW.trod_int Try.underlying3 g0
  obtain ⟨a1, e1, _, w1⟩ := DataW.trod_int Try.underlying3 g1
  obtain ⟨a2, e2, _, w2⟩ := DataW.trod_int Try.underlying3 g2
  obtain ⟨a3, e3, _, w3⟩ := DataW.trod_int Try.underlying3 g3
  obtain ⟨r1, r2, r3, R, e4, hr, hrc, hrm, hR, hRk⟩ := open_rng rgTy g4
  have hsm := ranges_small g4 hw4 e4
  simp only [List.cons.injEq, and_true] at e0 e1 e2 e3 e4
  subst e0 e1 e2 e3 e4
  refine ⟨⟨a0, a1, a2, a3, r1, r2, r3⟩, ⟨a0, a1, a2, a3, R⟩, rfl, ⟨rfl, rfl, rfl, rfl, hr, hsm, ?_⟩⟩
  exact R2.row (N := ⟨0, r1, r2, r3, 0, none, 0, 0, 0, 0, false, 0, ⟨#[]⟩⟩) hR hr
theorem open_insts {fuel : Nat} {cs : List Value} {x : DataW H × List MemPlace} (h : DataW.trod enc Try.prog w base spare held fuel 25 cs = some x) (hwt : ∀ n ∈ x.1.weights Try.prog 25, n ≤ reachBytes) : ∃ (ad : Option Addr) (n c : Nat) (l : List In), cs = [.slice ad n c] ∧ n ≤ c ∧ c ≤ maxLen ∧ n * 56 ≤ 140737488351232 ∧ PI w w.heap.size ad n l := by
  rcases DataW.trod_slice Try.underlying25 h with ⟨e, _⟩ | ⟨a, len, cap, elems, rest, n', hn', e, hx0, hb, hlc, hcm, hel, hx, _, _⟩
  · exact ⟨none, 0, 0, [], e, Nat.le_refl _, by simp [maxLen], by omega, rfl, fun hp => absurd hp (by simp)⟩
  · rw [cells51] at hx
    have hw0 := hwt ((elems.length + rest.length) * Try.prog.bytesOf 60) (by rw [hx0]; simp [DataW.weights, Try.underlying25])
    rw [bytes51, reach_eq] at hw0
    have each : ∀ i, i < len → ∃ q : Iv × In, (∀ j, j < 5 → w.cell? (a.add (i * 5 + j)) = (Iv.cs q.1)[j]?) ∧ IM w w.heap.size q.1 q.2 := fun i hi => by
      have h1 := hx i hi
      rw [List.getElem?_eq_getElem (by omega)] at h1
      obtain ⟨cs', h2, h3⟩ := Option.bind_eq_some_iff.1 h1
      obtain ⟨N, I, rfl, ht⟩ := open_inst h3 (fun n hn => hwt n (by rw [hx0]; simp only [DataW.weights, Try.underlying25]; exact List.mem_cons_of_mem _ (List.mem_append_left _ (weightsAll_mem (List.mem_map.2 ⟨_, List.getElem_mem _, rfl⟩) n hn))))
      obtain ⟨_, _, hc⟩ := World.cells?_some h2
      exact ⟨(N, I), fun j hj => by have := hc j hj; rwa [add_add] at this, ht⟩
    obtain ⟨q, hq⟩ := choose_lt each
    refine ⟨some a, len, cap, (List.range len).map fun i => (q i).2, e, hlc, hcm, by omega, by simp, fun hp => ?_⟩
    have hc0 := (hq 0 hp).1 0 (by omega)
    simp only [Iv.cs, List.getElem?_cons_zero] at hc0
    have hsp : a.spot = none := by simpa [Addr.add] using World.cell?_spot hc0
    obtain ⟨b, o, sp⟩ := a
    simp only at hsp
    subst hsp
    refine ⟨b, o, fun i => (q i).1, rfl, World.block_lt_of_cell? _ _ hc0, fun i hi => ⟨?_, ?_⟩⟩
    · simp only [List.length_map, List.length_range] at hi
      have h1 := (hq i hi).1
      simp only [add_plain, ← Nat.add_assoc] at h1
      exact ⟨by simpa using h1 0 (by omega), by simpa using h1 1 (by omega), by simpa using h1 2 (by omega), by simpa using h1 3 (by omega), by simpa using h1 4 (by omega)⟩
    · simp only [List.length_map, List.length_range] at hi
      simpa using (hq i hi).2
/-- a program that came in -/
theorem prog_arg {W : World} {v : Value} {d : DataW H} {p : List MemPlace} (hok : Value.okWide Try.prog W .any base 27 v) (h0 : DataW.Trod enc Try.prog W 0 (fun _ => true) true 27 v d p) (hsz : ∀ n ∈ d.weights Try.prog 27, n ≤ reachBytes) :
    ∃ (ad : Option Addr) (n c : Nat) (s k : Int) (l : List In), v = pv ad n c s k ∧ n ≤ c ∧ c ≤ maxLen ∧ n * 56 ≤ 140737488351232 ∧ PI W W.heap.size ad n l := by
  obtain ⟨cs, rfl, hs⟩ := okWide_struct Try.underlying27 hok
  obtain ⟨fuel, hf⟩ := h0
  obtain ⟨xs, n, hfu, hd, hl, hxl, hfs⟩ := DataW.trod_struct Try.underlying27 hf
  obtain ⟨L, hL⟩ : ∃ L, L = (Value.agg cs).cells.toList := ⟨_, rfl⟩
  have hL' : cs.toList = L := by rw [hL]; rfl
  rw [← hL] at hl hfs
  rw [cells24] at hl
  simp only [List.size_toArray, List.length_cons, List.length_nil] at hxl
  match xs, hxl, L, hl, hL' with
  | [y0, y1, y2], _, [v0, v1, v2], _, hL' =>
  have g0 := hfs 0 _ rfl
  have g1 := hfs 1 _ rfl
  have g2 := hfs 2 _ rfl
  simp [cells3a] at g1 g2
  simp [cells22] at g0
  have hd1 : d = .agg ([y0, y1, y2].map (·.1)) := congrArg Prod.fst hd
  have hw0 : ∀ n ∈ y0.1.weights Try.prog 25, n ≤ reachBytes := fun n hn => hsz n (by
    rw [hd1]
    simp only [DataW.weights, Try.underlying27]
    exact DataW.weights_mem_each (j := 0) (by simp) (by simp) n hn)
  obtain ⟨a1, e1, _, _⟩ := DataW.trod_int Try.underlying3 g1
  obtain ⟨a2, e2, _, _⟩ := DataW.trod_int Try.underlying3 g2
  obtain ⟨ad, n', c, l, e0, h1, h2, h3, h4⟩ := open_insts g0 hw0
  simp only [List.cons.injEq, and_true] at e0 e1 e2
  subst e0 e1 e2
  refine ⟨ad, n', c, a1, a2, l, ?_, h1, h2, h3, h4⟩
  have : cs = [Value.slice ad n' c, .int .i64 a1, .int .i64 a2].toArray := by rw [← hL']
  rw [this]
end
theorem open_text {H : Type} {enc : TypeId × Value → H} {w : World} {base : Nat} {fuel : Nat} {cs : List Value} {x : DataW H × List MemPlace} (h : DataW.trod enc Try.prog w base (fun _ => true) true fuel 29 cs = some x) (hw : ∀ n ∈ x.1.weights Try.prog 29, n ≤ reachBytes) :
    ∃ (l : List Int) (ad : Option Addr) (n cap : Nat), cs = [.slice ad n cap] ∧ TextAt w.heap.size w ad n l ∧ n ≤ 17592186043904 ∧ (n = 0 → cap = 0 ∨ True) := by
  rcases open_ints Try.underlying29 Try.underlying3 cells3a h with ⟨hcs, hx⟩ | ⟨a, len', cap', zs, hcs, _, hl, hm, hz, hx, hcell, hwz⟩
  · exact ⟨[], none, 0, 0, hcs, ⟨rfl, by omega, .inl rfl⟩, by omega, fun _ => .inr trivial⟩
  · simp only [if_true] at hz
    subst hx
    have hb3 : Try.prog.bytesOf 3 = 8 := by kernel_rfl
    have hs := hw (((lits (H := H) .i64 (zs.take len')).length + (lits (H := H) .i64 (zs.drop len')).length) * Try.prog.bytesOf 3) (by simp [DataW.weights, Try.underlying29, lits])
    rw [hb3, reach_eq] at hs
    simp only [lits, List.length_map, List.length_take, List.length_drop] at hs
    have htl : (zs.take len').length = len' := by rw [List.length_take]; omega
    refine ⟨zs.take len', some a, len', cap', hcs, ⟨htl.symm, by omega, ?_⟩, by omega, fun _ => .inr trivial⟩
    rcases Nat.eq_zero_or_pos len' with h0 | h0
    · exact .inl h0
    · right
      obtain ⟨b, off, rfl, hc⟩ := ints_at hcell (by omega)
      refine ⟨b, off, rfl, lt_of_cell (hc 0 (by omega)), fun k hk => ?_⟩
      have hk' : k < zs.length := by omega
      rw [hc k hk']
      simp [List.getD_eq_getElem?_getD, List.getElem?_take_of_lt hk, List.getElem?_eq_getElem hk']
end Go.Proofs.Ytiggbgmnibndoaa
/- HELPERS: may; what Run answers, as cells. -/
namespace Go.Proofs.Ytiggbgmnibndoaa
open Go.RowKit Go.Lk
set_option linter.unusedVariables false
set_option linter.unusedSimpArgs false
/-- what is found, as cells: the captures in blocks from N on -/
def FV (w : World) (N K : Nat) (c1 : Option Addr) (c2 c3 : Nat) (wh : Int) : Fd → Prop
  | none => c1 = none ∧ c2 = 0 ∧ c3 = 0 ∧ wh = 0
  | some y => ∃ g, c1 = some ⟨g, 0, none⟩ ∧ c2 = K ∧ c3 = K ∧ wh = y.1 ∧ w.ownsRow N 3 1 (.slice (some ⟨g, 0, none⟩) K K) K (I64 y.2)
abbrev fnd (ok : Bool) (c1 : Option Addr) (c2 c3 : Nat) (wh : Int) (st : Nat) : Value := .agg #[.bool ok, .slice c1 c2 c3, .int .i64 wh, .int .i64 (st : Int)]
theorem FR.cells {K : Nat} {r : Fd × Nat} {w w' : World} {e : Ending} (h : FR K r w e w') : ∃ c1 c2 c3 wh, e = .returned (.tuple #[fnd r.1.isSome c1 c2 c3 wh r.2, .int .i64 0]) ∧ FV w' w.heap.size K c1 c2 c3 wh r.1 ∧ Below w.heap.size w w' := by
  obtain ⟨hb, h⟩ := h
  obtain ⟨r1, r2⟩ := r
  cases r1 with
  | none => exact ⟨none, 0, 0, 0, h, ⟨rfl, rfl, rfl, rfl⟩, hb⟩
  | some y => obtain ⟨g, he, hr⟩ := h; exact ⟨some ⟨g, 0, none⟩, K, K, y.1, he, ⟨g, rfl, rfl, rfl, rfl, hr⟩, hb⟩
theorem FV.kept {w w' : World} {N K : Nat} {c1 : Option Addr} {c2 c3 : Nat} {wh : Int} {fd : Fd} (h : FV w N K c1 c2 c3 wh fd) (hb : Below w.heap.size w w') : FV w' N K c1 c2 c3 wh fd := by
  cases fd with
  | none => exact h
  | some y => obtain ⟨g, h1, h2, h3, h4, h5⟩ := h; exact ⟨g, h1, h2, h3, h4, row_kept h5 (fun k hk => hb.block k (h5.lt k hk).2)⟩
def capsOf : Fd → List Int
  | none => []
  | some y => y.2
def whOf : Fd → Int
  | none => 0
  | some y => y.1
theorem FV.ints {w : World} {N K : Nat} {c1 : Option Addr} {c2 c3 : Nat} {wh : Int} {fd : Fd} (h : FV w N K c1 c2 c3 wh fd) : IntsC w (.slice c1 c2 c3) (capsOf fd) ∧ wh = whOf fd ∧ c2 = (capsOf fd).length := by
  cases fd with
  | none => obtain ⟨rfl, rfl, rfl, rfl⟩ := h; exact ⟨⟨none, 0, rfl, .inl rfl⟩, rfl, rfl⟩
  | some y =>
    obtain ⟨g, h1, h2, h3, h4, h5⟩ := h
    have hl : y.2.length = K := by have := h5.1; simpa using this
    refine ⟨?_, h4, by rw [h2]; exact hl.symm⟩
    rw [h1, h2, h3]
    exact ints_own (B := N) hl.symm h5
end Go.Proofs.Ytiggbgmnibndoaa
/- HELPERS: can a match be come to: the document's own search, in plain words and in memory. -/
namespace Go.Proofs.Ytiggbgmnibndoaa
open Go.RowKit Go.Lk
set_option linter.unusedVariables false
set_option linter.unusedSimpArgs false
abbrev Met := Nat → Nat → Bool
def mark (m : Met) (i p : Nat) : Met := fun j q => if j = i ∧ q = p then true else m j q
theorem countP_lt {α : Type} (p q : α → Bool) (a : α) : ∀ (L : List α), a ∈ L → p a = true → q a = false → (∀ x, q x = true → p x = true) → L.countP q < L.countP p
  | [], h, _, _, _ => by cases h
  | x :: L, h, h1, h2, h3 => by
    have hle : L.countP q ≤ L.countP p := List.countP_mono_left (fun x _ hx => h3 x hx)
    rw [List.countP_cons, List.countP_cons]
    rcases List.mem_cons.1 h with rfl | h
    · rw [h1, h2]; simp; omega
    · have := countP_lt p q a L h h1 h2 h3
      have hx := h3 x
      cases hq : q x
      · cases hp : p x <;> simp <;> omega
      · rw [hx hq]; simp; omega
def isF : Option Value → Bool
  | some (.bool false) => true
  | _ => false
def cA (arr : Array Value) (M : Nat) : Nat := (List.range M).countP fun k => isF arr[k]?
/-- how many are not met yet, in memory -/
def cW (w : World) (gm M : Nat) : Nat := match w.heap[gm]? with
  | some (.cells arr _ _) => cA arr M
  | _ => 0
theorem cW_of {w : World} {gm M : Nat} {arr : Array Value} {t : TypeId} {fr : Nat × Nat} (h : w.heap[gm]? = some (.cells arr t fr)) : cW w gm M = cA arr M := by unfold cW; rw [h]
theorem cA_set {arr : Array Value} {M i : Nat} (hi : i < M) (hs : i < arr.size) (h : arr[i]? = some (.bool false)) : cA (arr.setIfInBounds i (.bool true)) M < cA arr M := by
  unfold cA
  refine countP_lt _ _ i _ (List.mem_range.2 hi) (by rw [h]; rfl) (by simp [hs, isF]) (fun k hk => ?_)
  by_cases e : i = k
  · subst e; simp [hs, isF] at hk
  · rwa [Array.getElem?_setIfInBounds_ne e] at hk
theorem idx_inj {i j p q q1 : Nat} (hp : p < q1) (hq : q < q1) (h : i * q1 + p = j * q1 + q) : i = j ∧ p = q := by
  have h1 : (i * q1 + p) / q1 = i := by rw [Nat.mul_comm, Nat.mul_add_div (by omega), Nat.div_eq_of_lt hp]; omega
  have h2 : (j * q1 + q) / q1 = j := by rw [Nat.mul_comm, Nat.mul_add_div (by omega), Nat.div_eq_of_lt hq]; omega
  have : i = j := by rw [← h1, ← h2, h]
  subst this
  exact ⟨rfl, by omega⟩
theorem idx_lt {i p n q1 : Nat} (hi : i < n) (hp : p < q1) : i * q1 + p < n * q1 := by
  have : (i + 1) * q1 ≤ n * q1 := Nat.mul_le_mul_right _ hi
  rw [Nat.succ_mul] at this
  omega
/-- where an instruction at a place leads to -/
def succs (A : Nat → Nat → Ac) (t : Nat × Nat) : List (Nat × Nat) := match A t.2 t.1 with
  | .alt x y => [(x, t.2), (y, t.2)]
  | .go x => [(x, t.2)]
  | .cap x _ => [(x, t.2)]
  | .rune x => [(x, t.2 + 1)]
  | .fit _ => []
  | .stop => []
def isFit (A : Nat → Nat → Ac) (t : Nat × Nat) : Bool := match A t.2 t.1 with
  | .fit _ => true
  | _ => false
theorem rch_of_succ {A : Nat → Nat → Ac} {t u : Nat × Nat} (hu : u ∈ succs A t) (h : Rch A u.1 u.2) : Rch A t.1 t.2 := by
  unfold succs at hu
  split at hu
  · rename_i x y e
    simp at hu
    rcases hu with rfl | rfl
    · exact .altx x y e h
    · exact .alty x y e h
  · rename_i x e; simp at hu; subst hu; exact .go x e h
  · rename_i x a e; simp at hu; subst hu; exact .cap x a e h
  · rename_i x e; simp at hu; subst hu; exact .rune x e h
  · simp at hu
  · simp at hu
/-- what the search knows -/
structure RK (A : Nat → Nat → Ac) (t0 : Nat × Nat) (st : List (Nat × Nat)) (m : Met) : Prop where
  snd : ∀ t ∈ st, Rch A t.1 t.2 → Rch A t0.1 t0.2
  cls : ∀ t : Nat × Nat, m t.1 t.2 = true → isFit A t = false ∧ ∀ u ∈ succs A t, m u.1 u.2 = true ∨ u ∈ st
  beg : m t0.1 t0.2 = true ∨ t0 ∈ st
theorem RK.new {A : Nat → Nat → Ac} {t0 t : Nat × Nat} {st P : List (Nat × Nat)} {m : Met} (h : RK A t0 (t :: st) m) (hf : isFit A t = false) (hP : ∀ u, u ∈ P ↔ u ∈ succs A t) : RK A t0 (P ++ st) (mark m t.1 t.2) := by
  have hmk : mark m t.1 t.2 t.1 t.2 = true := by simp [mark]
  have hmono : ∀ u : Nat × Nat, m u.1 u.2 = true → mark m t.1 t.2 u.1 u.2 = true := fun u hu => by unfold mark; split <;> simp [hu]
  have hold : ∀ u : Nat × Nat, (m u.1 u.2 = true ∨ u ∈ t :: st) → mark m t.1 t.2 u.1 u.2 = true ∨ u ∈ P ++ st := fun u hu => by
    rcases hu with h' | h'
    · exact .inl (hmono u h')
    · rcases List.mem_cons.1 h' with rfl | h'
      · exact .inl hmk
      · exact .inr (List.mem_append_right _ h')
  refine ⟨fun u hu hr => ?_, fun u hu => ?_, hold t0 h.beg⟩
  · rcases List.mem_append.1 hu with hu | hu
    · exact h.snd t List.mem_cons_self (rch_of_succ ((hP u).1 hu) hr)
    · exact h.snd u (List.mem_cons_of_mem _ hu) hr
  · by_cases e : u = t
    · subst e
      exact ⟨hf, fun v hv => .inr (List.mem_append_left _ ((hP v).2 hv))⟩
    · have hmu : m u.1 u.2 = true := by
        unfold mark at hu
        rw [if_neg (fun h' => e (by cases u; cases t; simp at h' ⊢; exact h'))] at hu
        exact hu
      exact ⟨(h.cls u hmu).1, fun v hv => hold v ((h.cls u hmu).2 v hv)⟩
theorem RK.no {A : Nat → Nat → Ac} {t0 : Nat × Nat} {m : Met} (h : RK A t0 [] m) : ¬ Rch A t0.1 t0.2 := by
  have key : ∀ {i j : Nat}, Rch A i j → m i j = true → False := by
    intro i j hr
    induction hr with
    | @fit i j a e => intro hm; have := (h.cls (i, j) hm).1; unfold isFit at this; simp only [e] at this; cases this
    | @altx i j x y e _ ih => intro hm; exact ih (((h.cls (i, j) hm).2 (x, j) (by simp [succs, e])).resolve_right (by simp))
    | @alty i j x y e _ ih => intro hm; exact ih (((h.cls (i, j) hm).2 (y, j) (by simp [succs, e])).resolve_right (by simp))
    | @go i j x e _ ih => intro hm; exact ih (((h.cls (i, j) hm).2 (x, j) (by simp [succs, e])).resolve_right (by simp))
    | @cap i j x a e _ ih => intro hm; exact ih (((h.cls (i, j) hm).2 (x, j) (by simp [succs, e])).resolve_right (by simp))
    | @rune i j x e _ ih => intro hm; exact ih (((h.cls (i, j) hm).2 (x, j + 1) (by simp [succs, e])).resolve_right (by simp))
  intro hr
  exact key hr (h.beg.resolve_right (by simp))
/-- the stack's cells, its top last -/
def stq (q1 : Nat) : List (Nat × Nat) → List Int
  | [] => []
  | t :: st => stq q1 st ++ [((t.1 * q1 + t.2 : Nat) : Int)]
theorem stq_append (q1 : Nat) (P st : List (Nat × Nat)) : stq q1 (P ++ st) = stq q1 st ++ stq q1 P := by
  induction P with
  | nil => simp [stq]
  | cons t P ih => simp [stq, ih]
/-- the search's memory -/
structure RS (w0 w : World) (B0 gm x n q1 c : Nat) (ad : Option Addr) (s k : Int) (z : Option Addr) (cz : Nat) (st : List (Nat × Nat)) (m : Met) : Prop where
  row : w.ownsRow B0 3 1 (.slice z st.length cz) st.length (I64 (stq q1 st))
  met : ∃ arr : Array Value, w.heap[gm]? = some (.cells arr 4 (0, 0)) ∧ arr.size = n * q1 ∧ ∀ i p, i < n → p < q1 → arr[i * q1 + p]? = some (.bool (m i p))
  bx : w.heap[x]? = some (.cells #[.slice ad n c, .int .i64 s, .int .i64 k] 27 (0, 0))
  bl : Below B0 w0 w
  ok : ∀ t ∈ st, t.1 < n ∧ t.2 < q1
  lo : B0 ≤ gm ∧ B0 ≤ w.heap.size
section
variable {w0 w w' : World} {B0 gm x n q1 c cz : Nat} {ad z : Option Addr} {s k : Int} {st : List (Nat × Nat)} {t : Nat × Nat} {m : Met}
theorem RS.kept (h : RS w0 w B0 gm x n q1 c ad s k z cz st m) (hb : Below w.heap.size w w') : RS w0 w' B0 gm x n q1 c ad s k z cz st m := by
  obtain ⟨arr, h1, h2⟩ := h.met
  exact ⟨row_kept h.row (fun b hb' => hb.block b (h.row.lt b hb').2), ⟨arr, (hb.block gm (Array.getElem?_eq_some_iff.1 h1).1).trans h1, h2⟩, (hb.block x (Array.getElem?_eq_some_iff.1 h.bx).1).trans h.bx, h.bl.trans (Joins.below_le hb h.lo.2), h.ok, by have := hb.size; have := h.lo; omega⟩
theorem RS.mark (h : RS w0 w B0 gm x n q1 c ad s k z cz st m) {i p : Nat} (hi : i < n) (hp : p < q1) (hm : m i p = false) : RS w0 (w.setCell ⟨gm, i * q1 + p, none⟩ (.bool true)) B0 gm x n q1 c ad s k z cz st (Go.Proofs.Ytiggbgmnibndoaa.mark m i p) ∧ cW (w.setCell ⟨gm, i * q1 + p, none⟩ (.bool true)) gm (n * q1) < cW w gm (n * q1) := by
  obtain ⟨arr, h1, h2, h3⟩ := h.met
  have hk : ∀ b, b ≠ gm → (w.setCell ⟨gm, i * q1 + p, none⟩ (.bool true)).heap[b]? = w.heap[b]? := fun b hb => Below.heap_setCell _ _ _ _ hb
  have hnew := Joins.block_setCell (i := i * q1 + p) h1 (.bool true)
  have hlt := idx_lt (n := n) hi hp
  refine ⟨⟨row_kept h.row (fun b hb => hk b (fun e => by subst e; exact own_ne h.row h1 (by decide) hb)), ⟨_, hnew, by simpa using h2, fun j q hj hq => ?_⟩, (hk x (fun e => by have := h.bx; rw [e, h1] at this; simp at this)).trans h.bx, h.bl.setCell (p := ⟨gm, i * q1 + p, none⟩) h.lo.1 _, h.ok, by simpa [World.setCell] using h.lo⟩, ?_⟩
  · unfold Go.Proofs.Ytiggbgmnibndoaa.mark
    by_cases e : j = i ∧ q = p
    · obtain ⟨rfl, rfl⟩ := e
      simp [h2, hlt]
    · rw [if_neg e, Array.getElem?_setIfInBounds_ne (fun e' => e (by have := idx_inj hp hq e'; exact ⟨this.1.symm, this.2.symm⟩))]
      exact h3 j q hj hq
  · rw [cW_of h1, cW_of hnew]
    exact cA_set hlt (by omega) (by rw [h3 i p hi hp, hm])
/-- pairs are put onto the stack -/
theorem RS.push {V w7 : World} {y1 : Option Addr} {y3 : Nat} {ts : List (Nat × Nat)} (h : RS w0 w B0 gm x n q1 c ad s k z cz st m) (hb : Below w.heap.size w V) (hf : Frm V w7 (.slice z st.length cz) (.slice y1 (st.length + ts.length) y3)) (hr : w7.ownsRow B0 3 1 (.slice y1 (st.length + ts.length) y3) (st.length + ts.length) (I64 (stq q1 st) ++ I64 (stq q1 ts))) (hok : ∀ t ∈ ts, t.1 < n ∧ t.2 < q1) :
    RS w0 w7 B0 gm x n q1 c ad s k y1 y3 (ts ++ st) m ∧ cW w7 gm (n * q1) = cW w gm (n * q1) := by
  obtain ⟨arr, h1, h2⟩ := h.met
  have hs := hb.size
  have hkk : ∀ (b : Nat) (cs : Array Value) (t : TypeId) (fr : Nat × Nat), w.heap[b]? = some (.cells cs t fr) → t ≠ 3 → w7.heap[b]? = some (.cells cs t fr) := fun b cs t fr hb' ht => by
    have hbl := (Array.getElem?_eq_some_iff.1 hb').1
    exact (hf.block b (by omega) (own_ne h.row hb' ht)).trans ((hb.block b hbl).trans hb')
  refine ⟨⟨by rw [stq_append, List.length_append, Nat.add_comm]; show w7.ownsRow _ _ _ _ _ (List.map _ _); rw [List.map_append]; exact hr, ⟨arr, hkk _ _ _ _ h1 (by decide), h2⟩, hkk _ _ _ _ h.bx (by decide), ⟨hf.os.trans (hb.os.trans h.bl.os), hf.tape.trans (hb.tape.trans h.bl.tape), hf.output.trans (hb.output.trans h.bl.output), ?_, fun b hb' => ?_⟩, fun t ht => (List.mem_append.1 ht).elim (hok t) (h.ok t), ⟨h.lo.1, ?_⟩⟩, ?_⟩
  · have := hf.size; have := h.bl.size; omega
  · exact (hf.block b (by have := h.lo; omega) (fun h' => by have := (h.row.lt b h').1; omega)).trans ((hb.block b (by have := h.lo; omega)).trans (h.bl.block b hb'))
  · have := hf.size; have := h.lo; omega
  · rw [cW_of h1, cW_of (hkk _ _ _ _ h1 (by decide))]
end
theorem info4 : (Try.prog.info? 4).map (fun i => (i.zero, i.size, i.bytes)) = some (some (.bool false), 1, 1) := by kernel_rfl
theorem makeB (c : Nat) (hc : c ≤ 100000000) (w : World) : (Instr.makeSlice 63 (.int .i64 (c : Int)) (.int .i64 (c : Int))).run Try.prog w = .ok (.slice (some ⟨w.heap.size, 0, none⟩) c c) (w.alloc (.cells (madeCells #[.bool false] c) 4)) := by
  obtain ⟨i0, hi0, hz0, hz1, hz2⟩ := info_parts info4
  have h := run_make (P := Try.prog) w 63 4 i0 (.bool false) Try.underlying63 hi0 hz0 .i64 .i64 c c (by omega) (by omega) (by rw [hz2]; omega) (by omega)
  simp only [Int.toNat_natCast, hz1, Nat.mul_one] at h
  exact h
end Go.Proofs.Ytiggbgmnibndoaa
