/- HELPERS: the document's side of classes: Has, Union. -/
import Derived.Test.YtjglehklfdhgaaaDoorDcG
import Derived.Test.YtjglehklfdhgaaaDoorDcH
namespace Go.Proofs.YtjglehklfdhgaaaDoor
open Go.RowKit Go.Mx
set_option linter.unusedVariables false
set_option linter.unusedSimpArgs false
set_option maxHeartbeats 2000000 in
set_option maxRecDepth 1000000 in
theorem rhas31 (L : List (Int × Int)) (ad : Option Addr) (n cap : Nat) (r : Int) (w : World) (hn : Hid (L.length = n)) (hS : n ≤ 17592186044416) (hl : Hid (RowAt w.heap.size w (.slice ad n cap) L)) :
    Calls Tryd.prog 31 #[.slice ad n cap, .int .i64 r] w fun e w' => e = .returned (.bool (rightB L && hasB L r)) ∧ Below w.heap.size w w' := by
  have hr1 := rright33 L ad n cap w hn hS hl
  cases hr : rightB L
  · rw [hr] at hr1
    clear hr
    go_enter Tryd.func31, Tryd.ntmps31
    go_wp2_with (go_at_call 33; refine hr1.mono ?_; rintro e w1 ⟨rfl, hb1⟩)
    go_ret
    exact ⟨rfl, hb1⟩
  · rw [hr] at hr1
    clear hr
    have hin : ∀ w1, Below w.heap.size w w1 → Calls Tryd.prog 52 #[.slice ad n cap, .int .i64 r] w1 fun e w' => e = .returned (.bool (hasB L r)) ∧ w' = w1 := fun w1 hb1 =>
      in52 L ad n cap r w1 w1.heap.size (by show n = L.length; exact hn.out.symm) hS (hl.out.below hb1 (Nat.le_refl _) hb1.size)
    generalize hasB L r = t at hin ⊢
    go_enter Tryd.func31, Tryd.ntmps31
    go_wp2_with fail
    refine hr1.mono ?_
    rintro e w1 ⟨rfl, hb1⟩
    have hin1 := hin w1 hb1
    go_wp2_with (go_at_call 52; refine hin1.mono ?_; rintro e w' ⟨rfl, rfl⟩)
    go_ret
    exact ⟨rfl, hb1⟩
set_option maxHeartbeats 2000000 in
set_option maxRecDepth 1000000 in
theorem runion35 (A B : List (Int × Int)) (aa ab : Option Addr) (na nb ca cb : Nat) (w : World) (hna : Hid (A.length = na)) (hnb : Hid (B.length = nb)) (hA2 : na ≤ 17592186044416) (hB2 : nb ≤ 17592186044416)
    (hA : Hid (RowAt w.heap.size w (.slice aa na ca) A)) (hB : Hid (RowAt w.heap.size w (.slice ab nb cb) B)) (cA : Hid (aa = none → ca = 0)) (cB : Hid (ab = none → cb = 0)) :
    Calls Tryd.prog 35 #[.slice aa na ca, .slice ab nb cb] w fun e w' => RNorm w w' e (rightB A && rightB B) (A ++ B) := by
  have hr1 := rright33 A aa na ca w hna hA2 hA
  cases hrA : rightB A
  · rw [hrA] at hr1
    clear hrA
    have hr2 : ∀ w1, Below w.heap.size w w1 → Calls Tryd.prog 33 #[.slice ab nb cb] w1 fun e w' => e = .returned (.bool (rightB B)) ∧ Below w1.heap.size w1 w' := fun w1 hb1 => rright33 B ab nb cb w1 hnb hB2 (hB.out.below hb1 (Nat.le_refl _) hb1.size)
    generalize rightB B = t at hr2 ⊢
    go_enter Tryd.func35, Tryd.ntmps35
    go_wp2_with fail
    refine hr1.mono ?_
    rintro e w1 ⟨rfl, hb1⟩
    have hs1 := hb1.size
    go_wp2_with fail
    refine (hr2 w1 hb1).mono ?_
    rintro e w2 ⟨rfl, hb2⟩
    go_wp2
    go_ret2
    exact RNorm.no rfl (hb1.trans (hb2.mono hs1))
  · rw [hrA] at hr1
    have hlA := rightB_len hrA
    rw [hna.out] at hlA
    clear hrA
    have hr2 : ∀ w1, Below w.heap.size w w1 → Calls Tryd.prog 33 #[.slice ab nb cb] w1 fun e w' => e = .returned (.bool (rightB B)) ∧ Below w1.heap.size w1 w' := fun w1 hb1 => rright33 B ab nb cb w1 hnb hB2 (hB.out.below hb1 (Nat.le_refl _) hb1.size)
    cases hrB : rightB B
    · rw [hrB] at hr2
      clear hrB
      go_enter Tryd.func35, Tryd.ntmps35
      go_wp2_with fail
      refine hr1.mono ?_
      rintro e w1 ⟨rfl, hb1⟩
      have hs1 := hb1.size
      go_wp2_with fail
      refine (hr2 w1 hb1).mono ?_
      rintro e w2 ⟨rfl, hb2⟩
      go_wp2
      go_ret2
      exact RNorm.no rfl (hb1.trans (hb2.mono hs1))
    · rw [hrB] at hr2
      have hlB := rightB_len hrB
      rw [hnb.out] at hlB
      clear hrB
      go_enter Tryd.func35, Tryd.ntmps35
      go_wp2_with fail
      refine hr1.mono ?_
      rintro e w1 ⟨rfl, hb1⟩
      have hs1 := hb1.size
      go_wp2_with fail
      refine (hr2 w1 hb1).mono ?_
      rintro e w2 ⟨rfl, hb2⟩
      have hb3 : Below w.heap.size w w2 := hb1.trans (hb2.mono hs1)
      have hs3 := hb3.size
      clear hb1 hb2 hs1 hr1 hr2
      go_wp2_with fail
      refine (both54 A B aa ab na nb ca cb w2 hna hnb (by omega) (by omega) (hA.out.below hb3 (Nat.le_refl _) hs3) (hB.out.below hb3 (Nat.le_refl _) hs3) cA cB).mono ?_
      rintro e w4 ⟨v, rfl, ho, hb4⟩
      have hb5 : Below w.heap.size w w4 := hb3.trans (hb4.mono hs3)
      have hcl := class_own (A ++ B) v (A ++ B).length w4 w2.heap.size rfl (by rw [List.length_append, hna.out, hnb.out]; omega) ho
      clear ho hb4
      go_wp2_with fail
      refine hcl.mono ?_
      intro e w6 hC
      obtain ⟨v6, c6, rfl⟩ := hC.form
      go_wp2
      go_ret2
      exact RNorm.yes rfl (hC.low hb5)
end Go.Proofs.YtjglehklfdhgaaaDoor
