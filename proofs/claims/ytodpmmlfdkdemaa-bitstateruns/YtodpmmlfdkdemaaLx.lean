/- HELPERS: the document's Has. -/
import Derived.Test.YtodpmmlfdkdemaaCc
import Derived.Test.YtodpmmlfdkdemaaBh
import Derived.Test.YtodpmmlfdkdemaaLb
import Derived.BigQuiet
import Derived.Deep.QuietTactic
namespace Go.Proofs.Ytodpmmlfdkdemaa
open Go.RowKit
set_option linter.unusedVariables false
set_option linter.unusedSimpArgs false
def inB (R : List (Int × Int)) (r : Int) : Bool := R.any fun x => decide (x.1 ≤ r) && decide (r ≤ x.2)
def hsB (R : List (Int × Int)) (r : Int) : Bool := rightB R && inB R r
set_option maxRecDepth 100000 in
set_option maxHeartbeats 4000000 in
theorem in78 (R : List (Int × Int)) (r : Int) (ad : Option Addr) (n cap : Nat) (w : World) (hn : n = R.length) (hS : n * 16 ≤ 140737488351232) (hl : RowAt w.heap.size w (.slice ad n cap) R) :
    Calls Try.prog 68 #[.slice ad n cap, .int .i64 r] w fun e w' => e = .returned (.bool (inB R r)) ∧ w' = w := by
  have HN := hid hn
  have HR := hid hl
  clear hn hl
  go_enter Try.func68, Try.ntmps68
  go_wp2_with fail
  go_loopw [5] (fun y wq => ∃ i : Nat, y = .int .i64 (i : Int) ∧ i ≤ n ∧ wq = w ∧ Hid (∀ j, j < i → (decide ((R.getD j (0, 0)).1 ≤ r) && decide (r ≤ (R.getD j (0, 0)).2)) = false)) (fun y _ => n - (intOf y).toNat)
  case atStart => exact ⟨0, rfl, by omega, rfl, fun j hj => by omega⟩
  case round =>
    obtain ⟨i, rfl, hi, rfl, HA⟩ := hrel
    by_cases hil : i < n
    · have b1 : decide ((i : Int) < (n : Int)) = true := by simp; omega
      have b2 : (i : Int) < (n : Int) := by omega
      have ad1 : IntKind.i64.wrap ((i : Int) + 1) = (i : Int) + 1 := by simp [IntKind.wrap, IntKind.bits, IntKind.signed]; omega
      obtain ⟨ad', cap', e, h1⟩ := HR.out
      simp only [Value.slice.injEq] at e
      obtain ⟨rfl, _, rfl⟩ := e
      rcases h1 with h0 | ⟨b, off, rfl, hb, h2, h3⟩
      · have := HN.out; omega
      have m0 := h2 i (by have := HN.out; omega)
      have m1 := h3 i (by have := HN.out; omega)
      have hget : R.getD i (0, 0) ∈ R := by
        have hil' : i < R.length := by have := HN.out; omega
        have : R.getD i (0, 0) = R[i] := by simp [List.getD_eq_getElem?_getD, List.getElem?_eq_getElem hil']
        rw [this]; exact List.getElem_mem hil'
      have HG := hid hget
      clear h2 h3 hget
      generalize hlo : (R.getD i (0, 0)).1 = lo at m0
      generalize hhi : (R.getD i (0, 0)).2 = hi' at m1
      have HLO := hid hlo
      have HHI := hid hhi
      clear hlo hhi
      by_cases g1 : lo ≤ r
      · have d1 : decide (lo ≤ r) = true := by simpa using g1
        by_cases g2 : r ≤ hi'
        · have d2 : decide (r ≤ hi') = true := by simpa using g2
          go_wp2
          all_goals go_ret
          all_goals refine ⟨ret_bool ?_, rfl⟩
          all_goals
            symm
            unfold inB
            rw [List.any_eq_true]
            exact ⟨_, HG.out, by rw [HLO.out, HHI.out, d1, d2]; rfl⟩
        · have d2 : decide (r ≤ hi') = false := by simpa using g2
          go_wp2
          refine ⟨⟨i + 1, by push_cast; rfl, by omega, trivial, fun j hj => ?_⟩, by simp [intOf]; omega⟩
          by_cases e : j = i
          · subst e; rw [HLO.out, HHI.out, d1, d2]; rfl
          · exact HA.out j (by omega)
      · have d1 : decide (lo ≤ r) = false := by simpa using g1
        go_wp2
        refine ⟨⟨i + 1, by push_cast; rfl, by omega, trivial, fun j hj => ?_⟩, by simp [intOf]; omega⟩
        by_cases e : j = i
        · subst e; rw [HLO.out, d1]; rfl
        · exact HA.out j (by omega)
    · have b1 : decide ((i : Int) < (n : Int)) = false := by simp; omega
      go_wp2
      all_goals go_ret
      all_goals refine ⟨ret_bool ?_, rfl⟩
      all_goals
        symm
        unfold inB
        rw [List.any_eq_false]
        intro x hx
        obtain ⟨j, hj, rfl⟩ := List.getElem_of_mem hx
        have := HA.out j (by have := HN.out; omega)
        rw [show R.getD j (0, 0) = R[j] by simp [List.getD_eq_getElem?_getD, List.getElem?_eq_getElem hj]] at this
        rw [this]
        simp
set_option maxRecDepth 100000 in
set_option maxHeartbeats 4000000 in
theorem has56 (R : List (Int × Int)) (r : Int) (ad : Option Addr) (n cap : Nat) (w : World) (hn : n = R.length) (hS : n * 16 ≤ 140737488351232) (hl : RowAt w.heap.size w (.slice ad n cap) R) :
    Calls Try.prog 40 #[.slice ad n cap, .int .i64 r] w fun e w' => e = .returned (.bool (hsB R r)) ∧ Below w.heap.size w w' := by
  have HC := rright33 R ad n cap w hn.symm (by omega) hl
  have HI : Hid (∀ W, Below w.heap.size w W → Calls Try.prog 68 #[.slice ad n cap, .int .i64 r] W fun e w' => e = .returned (.bool (inB R r)) ∧ w' = W) := fun W hb => in78 R r ad n cap W hn hS (hl.below hb (Nat.le_refl _) hb.size)
  clear hl hn
  cases g : rightB R
  · rw [g] at HC
    go_enter Try.func40, Try.ntmps40
    go_wp2_with (first | (go_at_call 39; (with_reducible refine HC.mono ?_); rintro e w2 ⟨rfl, hb⟩; have HB := hid hb; clear hb HC))
    all_goals go_ret
    all_goals exact ⟨ret_bool (by simp [hsB, g]), HB.out⟩
  · rw [g] at HC
    go_enter Try.func40, Try.ntmps40
    go_wp2_with (first | (go_at_call 39; (with_reducible refine HC.mono ?_); rintro e w2 ⟨rfl, hb⟩; have HB := hid hb; have HJ := HI.out w2 HB.out; clear hb HC) | (go_at_call 68; (with_reducible refine HJ.mono ?_); rintro e w3 ⟨rfl, hw⟩; have hw' := hw.symm; clear hw; subst hw'; clear HJ))
    all_goals go_ret
    all_goals exact ⟨ret_bool (by simp [hsB, g]), HB.out⟩
end Go.Proofs.Ytodpmmlfdkdemaa
