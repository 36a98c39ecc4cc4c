/- HELPERS: the search in a class. -/
import Derived.Test.YtpckbpimgoljoaaGreatZA
import Derived.WalkSmall
import Derived.BigQuiet
import Derived.Deep.QuietTactic
import Derived.Deep.RegionWith
import Derived.Deep.WholeRow
import Derived.Test.YtpckbpimgoljoaaGreatK1
import Derived.WalkKit
import Derived.Laws.BitsLemmas
import Derived.Test.YtpckbpimgoljoaaGreatZB
/- HELPERS: the document's At. -/
namespace Go.Proofs.YtpckbpimgoljoaaGreat
open Go.RowKit
set_option linter.unusedVariables false
set_option linter.unusedSimpArgs false
/-- is a rune one of a word -/
def wordR (r : Int) : Bool := decide (48 ≤ r ∧ r ≤ 57 ∨ 65 ≤ r ∧ r ≤ 90 ∨ 97 ≤ r ∧ r ≤ 122 ∨ r = 95)
/-- a text in memory, below N -/
def TextAt (N : Nat) (w : World) (ad : Option Addr) (n : Nat) (l : List Int) : Prop :=
  n = l.length ∧ n ≤ 35184372088832 ∧ (n = 0 ∨ ∃ b off, ad = some ⟨b, off, none⟩ ∧ b < N ∧ ∀ k, k < n → w.cell? ⟨b, off + k, none⟩ = some (.int .i64 (l.getD k 0)))
theorem TextAt.below {N : Nat} {w w' : World} {ad : Option Addr} {n : Nat} {l : List Int} (h : TextAt N w ad n l) (hb : Below N w w') : TextAt N w' ad n l := by
  obtain ⟨h1, h2, h | ⟨b, off, ha, hbN, hc⟩⟩ := h
  · exact ⟨h1, h2, .inl h⟩
  · exact ⟨h1, h2, .inr ⟨b, off, ha, hbN, fun k hk => (hb.cell (p := ⟨b, off + k, none⟩) hbN).trans (hc k hk)⟩⟩
theorem TextAt.mono {N M : Nat} {w : World} {ad : Option Addr} {n : Nat} {l : List Int} (h : TextAt N w ad n l) (hNM : N ≤ M) : TextAt M w ad n l := by
  obtain ⟨h1, h2, h | ⟨b, off, ha, hbN, hc⟩⟩ := h
  · exact ⟨h1, h2, .inl h⟩
  · exact ⟨h1, h2, .inr ⟨b, off, ha, by omega, hc⟩⟩
def begB (p : Nat) : Bool := decide (p = 0)
def endB (l : List Int) (p : Nat) : Bool := decide (p = l.length)
def blB (l : List Int) (p : Nat) : Bool := decide (p = 0) || decide (l.getD (p - 1) 0 = 10)
def elB (l : List Int) (p : Nat) : Bool := decide (p = l.length) || decide (l.getD p 0 = 10)
def waB (l : List Int) (p : Nat) : Bool := decide (0 < p) && wordR (l.getD (p - 1) 0)
def wbB (l : List Int) (p : Nat) : Bool := decide (p < l.length) && wordR (l.getD p 0)
def edgeB (l : List Int) (p : Nat) : Bool := waB l p != wbB l p
def bI (b : Bool) (x : Int) : Int := if b then x else 0
/-- the sum of the first k of six -/
def sumB (b1 b2 b3 b4 b5 : Bool) : Nat → Int
  | 0 => 0
  | 1 => bI b1 1
  | 2 => bI b1 1 + bI b2 2
  | 3 => bI b1 1 + bI b2 2 + bI b3 4
  | 4 => bI b1 1 + bI b2 2 + bI b3 4 + bI b4 8
  | 5 => bI b1 1 + bI b2 2 + bI b3 4 + bI b4 8 + bI b5 16
  | _ => bI b1 1 + bI b2 2 + bI b3 4 + bI b4 8 + bI b5 16 + bI (!b5) 32
/-- what holds at a place -/
def atP (l : List Int) (p : Nat) : Int := sumB (begB p) (endB l p) (blB l p) (elB l p) (edgeB l p) 6
def atN (l : List Int) (p : Int) : Int := if p < 0 ∨ (l.length : Int) < p then 0 else atP l p.toNat
end Go.Proofs.YtpckbpimgoljoaaGreat
/- HELPERS: the document's Has. -/
namespace Go.Proofs.YtpckbpimgoljoaaGreat
open Go.RowKit
set_option linter.unusedVariables false
set_option linter.unusedSimpArgs false
def inB (R : List (Int × Int)) (r : Int) : Bool := R.any fun x => decide (x.1 ≤ r) && decide (r ≤ x.2)
def hsB (R : List (Int × Int)) (r : Int) : Bool := rightB R && inB R r
end Go.Proofs.YtpckbpimgoljoaaGreat
/- HELPERS: plain mathematics of bits: and, or, and not with small numbers; Flip; Holds. -/
namespace Go.Lk
open Go.RowKit
set_option linter.unusedVariables false
set_option linter.unusedSimpArgs false
theorem wrap_i64 (n : Int) : IntKind.i64.wrap n = if 9223372036854775808 ≤ n % 18446744073709551616 then n % 18446744073709551616 - 18446744073709551616 else n % 18446744073709551616 := by
  simp [IntKind.wrap, IntKind.bits, IntKind.signed]
end Go.Lk
/- HELPERS: plain mathematics of bits: when all bits of one number are bits of another. -/
namespace Go.Lk
open Go.RowKit
set_option linter.unusedVariables false
set_option linter.unusedSimpArgs false
def holdsB (x y : Int) : Bool := bits .andNot .i64 x y == 0
end Go.Lk
/- HELPERS: the document's Holds. -/
namespace Go.Proofs.YtpckbpimgoljoaaGreat
open Go.RowKit Go.Lk
set_option linter.unusedVariables false
set_option linter.unusedSimpArgs false
end Go.Proofs.YtpckbpimgoljoaaGreat
/- HELPERS: what an instruction does at a place, for lock step. -/
namespace Go.Proofs.YtpckbpimgoljoaaGreat
open Go.RowKit Go.Lk
set_option linter.unusedVariables false
set_option linter.unusedSimpArgs false
theorem wrap_ok (x : Int) (h : -9223372036854775808 ≤ x) (h2 : x < 9223372036854775808) : IntKind.i64.wrap x = x := by simp [IntKind.wrap, IntKind.bits, IntKind.signed]; omega
theorem may_ok {l : List In} {s k : Int} (h : mayB l s k = true) : l.length ≤ 20000 ∧ 0 ≤ s ∧ s < l.length ∧ 2 ≤ k ∧ k ≤ 1002 ∧ ∀ I ∈ l, I.okB l.length k = true := by
  simp only [mayB, belowB, capsB, Bool.and_eq_true, decide_eq_true_eq, List.all_eq_true] at h
  exact ⟨h.1.1.1, h.1.1.2.1, h.1.1.2.2, h.1.2.1.1, h.1.2.1.2, h.2⟩
theorem ok_op {I : In} {n k : Int} (h : I.okB n k = true) : (I.op = 1 ∨ I.op = 2 ∨ I.op = 3 ∨ I.op = 4 ∨ I.op = 5 ∨ I.op = 6 ∨ I.op = 7) := by
  simp only [In.okB, Bool.and_eq_true] at h
  have h3 := h.1.2
  unfold isArgB at h3
  split at h3
  · rename_i e; simp at e; omega
  · split at h3
    · rename_i e; simp at e; omega
    · split at h3
      · rename_i e; simp at e; omega
      · split at h3
        · rename_i e; simp at e; omega
        · cases h3
def actI (tx : List Int) (I : In) (j : Nat) : Ac :=
  if I.op = 2 then .alt I.x.toNat I.y.toNat
  else if I.op = 7 then .go I.x.toNat
  else if I.op = 3 then .cap I.x.toNat I.a.toNat
  else if I.op = 4 then (if holdsB I.a (atP tx j) = true then .go I.x.toNat else .stop)
  else if I.op = 1 then (if (decide (j < tx.length) && hsB I.R (tx.getD j 0)) = true then .rune I.x.toNat else .stop)
  else if I.op = 5 then .fit I.a
  else .stop
def act (l : List In) (tx : List Int) (j i : Nat) : Ac := actI tx (l.getD i default) j
def prOf (l : List In) (tx : List Int) (S K : Nat) : Pr := ⟨act l tx, l.length, S, K⟩
theorem ok_x {I : In} {n k : Int} (h : I.okB n k = true) (hx : hasXB I.op = true) : 0 ≤ I.x ∧ I.x < n := by
  simp only [In.okB, Bool.and_eq_true, isTargetB, hx, if_true, belowB, decide_eq_true_eq] at h
  exact h.1.1.1
theorem ok_y {I : In} {n k : Int} (h : I.okB n k = true) (hy : hasYB I.op = true) : 0 ≤ I.y ∧ I.y < n := by
  simp only [In.okB, Bool.and_eq_true, isTargetB, hy, if_true, belowB, decide_eq_true_eq] at h
  exact h.1.1.2
theorem ok_a {I : In} {n k : Int} (h : I.okB n k = true) (ho : I.op = 3) : 0 ≤ I.a ∧ I.a < k := by
  simp only [In.okB, Bool.and_eq_true, isArgB, ho] at h
  have := h.1.2
  simp [belowB] at this
  exact this
theorem ok_R {I : In} {n k : Int} (h : I.okB n k = true) (ho : I.op = 1) : rightB I.R = true := by
  simp only [In.okB, Bool.and_eq_true, isRangesB, ho] at h
  have := h.2
  simp at this
  exact this.2
theorem actI_ok {tx : List Int} {I : In} {n : Nat} {k : Int} {j : Nat} (h : I.okB n k = true) : (actI tx I j).ok n := by
  unfold actI
  split
  · rename_i e
    have h1 := ok_x h (by rw [e]; rfl)
    have h2 := ok_y h (by rw [e]; rfl)
    exact ⟨by omega, by omega⟩
  · split
    · rename_i e
      have h1 := ok_x h (by rw [e]; rfl)
      show _ < _
      omega
    · split
      · rename_i e
        have h1 := ok_x h (by rw [e]; rfl)
        show _ < _
        omega
      · split
        · rename_i e
          split
          · have h1 := ok_x h (by rw [e]; rfl)
            show _ < _
            omega
          · trivial
        · split
          · rename_i e
            split
            · have h1 := ok_x h (by rw [e]; rfl)
              show _ < _
              omega
            · trivial
          · split <;> trivial
theorem getD_in' {l : List In} {i : Nat} (hi : i < l.length) : l.getD i default = l[i] := by simp [List.getD_eq_getElem?_getD, List.getElem?_eq_getElem hi]
theorem act_ok {l : List In} {tx : List Int} {s k : Int} (h : mayB l s k = true) (j i : Nat) (hi : i < l.length) : (act l tx j i).ok l.length := by
  unfold act
  rw [getD_in' hi]
  exact actI_ok ((may_ok h).2.2.2.2.2 _ (List.getElem_mem hi))
theorem pr_ok {l : List In} {tx : List Int} {S K : Nat} (h : mayB l (S : Int) (K : Int) = true) : (prOf l tx S K).Ok := by
  have hm := may_ok h
  exact ⟨fun j i hi => act_ok h j i hi, by show S < l.length; omega⟩
theorem act_end (l : List In) (tx : List Int) (i x : Nat) : act l tx tx.length i ≠ .rune x := by
  unfold act actI
  intro h
  split at h
  · cases h
  · split at h
    · cases h
    · split at h
      · cases h
      · split at h
        · split at h <;> cases h
        · split at h
          · simp at h
          · split at h <;> cases h
end Go.Proofs.YtpckbpimgoljoaaGreat
namespace Go.Proofs.YtpckbpimgoljoaaGreat
open Go.RowKit
set_option linter.unusedVariables false
set_option linter.unusedSimpArgs false
def cmpI (a b : Int) : Int := if a < b then -1 else if b < a then 1 else 0
set_option maxRecDepth 100000 in
theorem nan74 (a : Int) (W : World) : Calls Tryz.prog 104 #[.int .i64 a] W fun e w' => e = .returned (.bool false) ∧ w' = W := by
  go_enter Tryz.func104, Tryz.ntmps104
  go_wp2
  all_goals go_ret
  all_goals exact ⟨rfl, rfl⟩
set_option maxRecDepth 100000 in
set_option maxHeartbeats 1000000 in
theorem compare69 (a b : Int) (W : World) : Calls Tryz.prog 91 #[.int .i64 a, .int .i64 b] W fun e w' => e = .returned (.int .i64 (cmpI a b)) ∧ w' = W := by
  have H1 := fun W => nan74 a W
  have H2 := fun W => nan74 b W
  by_cases h1 : a < b
  · have e : cmpI a b = -1 := by unfold cmpI; rw [if_pos h1]
    rw [e]
    go_enter Tryz.func91, Tryz.ntmps91
    go_wp2_with (go_at_call 104; (first | (with_reducible refine (H1 _).mono ?_) | (with_reducible refine (H2 _).mono ?_)); rintro e w' ⟨rfl, rfl⟩)
    all_goals go_ret
    all_goals exact ⟨rfl, rfl⟩
  · by_cases h2 : b < a
    · have e : cmpI a b = 1 := by unfold cmpI; rw [if_neg h1, if_pos h2]
      rw [e]
      go_enter Tryz.func91, Tryz.ntmps91
      go_wp2_with (go_at_call 104; (first | (with_reducible refine (H1 _).mono ?_) | (with_reducible refine (H2 _).mono ?_)); rintro e w' ⟨rfl, rfl⟩)
      all_goals go_ret
      all_goals exact ⟨rfl, rfl⟩
    · have e : cmpI a b = 0 := by unfold cmpI; rw [if_neg h1, if_neg h2]
      rw [e]
      go_enter Tryz.func91, Tryz.ntmps91
      go_wp2_with (go_at_call 104; (first | (with_reducible refine (H1 _).mono ?_) | (with_reducible refine (H2 _).mono ?_)); rintro e w' ⟨rfl, rfl⟩)
      all_goals go_ret
      all_goals exact ⟨rfl, rfl⟩
theorem cmp_lt (a b : Int) : cmpI a b < 0 ↔ a < b := by
  unfold cmpI
  by_cases h1 : a < b
  · simp [h1]
  · by_cases h2 : b < a <;> simp [h1, h2]
theorem right_rise (L : List (Int × Int)) : ∀ (ls : Int) (k : Nat), rightFrom ls L = true → k + 1 < L.length → (L.getD k (0, 0)).2 < (L.getD (k + 1) (0, 0)).1 ∧ (L.getD (k + 1) (0, 0)).1 ≤ (L.getD (k + 1) (0, 0)).2 := by
  induction L with
  | nil => intro ls k _ h; simp at h
  | cons a t ih =>
    intro ls k h hk
    simp only [rightFrom, Bool.and_eq_true] at h
    cases k with
    | zero =>
      cases t with
      | nil => simp at hk
      | cons b t =>
        have h2 := h.2
        simp only [rightFrom, okG, Bool.and_eq_true, decide_eq_true_eq] at h2
        have := h2.1.1.1.1.1
        have := h2.1.1.1.1.2
        simp
        omega
    | succ k => simpa using ih _ k h.2 (by simpa using hk)
theorem right_mono (L : List (Int × Int)) (ls : Int) (h : rightFrom ls L = true) : ∀ (d k : Nat), k + d < L.length → (L.getD k (0, 0)).2 ≤ (L.getD (k + d) (0, 0)).2 := by
  intro d
  induction d with
  | zero => intro k _; simp
  | succ d ih =>
    intro k hk
    have h1 := ih k (by omega)
    have h2 := right_rise L ls (k + d) h (by omega)
    have e : k + (d + 1) = k + d + 1 := by omega
    rw [e]
    omega
theorem right_lo (L : List (Int × Int)) (ls : Int) (h : rightFrom ls L = true) (a b : Nat) (hab : a < b) (hb : b < L.length) : (L.getD a (0, 0)).2 < (L.getD b (0, 0)).1 := by
  obtain ⟨d, rfl⟩ := Nat.exists_eq_add_of_le (show a + 1 ≤ b by omega)
  have h1 := right_mono L ls h d a (by omega)
  have h2 := right_rise L ls (a + d) h (by omega)
  have e : a + 1 + d = a + d + 1 := by omega
  rw [e]
  omega
theorem has_search (L : List (Int × Int)) (r : Int) (i : Nat) (h : rightB L = true) (hi : i ≤ L.length) (h0 : i = 0 ∨ (L.getD (i - 1) (0, 0)).2 < r) (h1 : i = L.length ∨ r ≤ (L.getD i (0, 0)).2) :
    inB L r = (decide (i < L.length) && decide ((L.getD i (0, 0)).1 ≤ r)) := by
  have hr : rightFrom 0 L = true := by unfold rightB at h; rw [Bool.and_eq_true] at h; exact h.2
  have hge : ∀ k (hk : k < L.length), L[k] = L.getD k (0, 0) := fun k hk => by simp [List.getD, hk]
  rw [Bool.eq_iff_iff]
  unfold inB
  rw [List.any_eq_true]
  simp only [Bool.and_eq_true, decide_eq_true_eq]
  constructor
  · rintro ⟨g, hg, ha, hb⟩
    obtain ⟨k, hk, rfl⟩ := List.getElem_of_mem hg
    rw [hge k hk] at ha hb
    have hki : ¬ k < i := fun hlt => by
      rcases h0 with h0 | h0
      · omega
      · have := right_mono L 0 hr (i - 1 - k) k (by omega)
        rw [show k + (i - 1 - k) = i - 1 by omega] at this
        omega
    have hik : ¬ i < k := fun hlt => by
      rcases h1 with h1 | h1
      · omega
      · have := right_lo L 0 hr i k hlt hk
        omega
    obtain rfl : k = i := by omega
    exact ⟨hk, ha⟩
  · rintro ⟨hk, ha⟩
    refine ⟨L[i], List.getElem_mem hk, ?_⟩
    rw [hge i hk]
    rcases h1 with h1 | h1
    · omega
    · exact ⟨ha, h1⟩
end Go.Proofs.YtpckbpimgoljoaaGreat
