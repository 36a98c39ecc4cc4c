/- HELPERS: the document's side of classes: Norm. -/
import Derived.Test.YtjglehklfdhgaaaDoorDcE
namespace Go.Proofs.YtjglehklfdhgaaaDoor
open Go.RowKit Go.Mx
set_option linter.unusedVariables false
set_option linter.unusedSimpArgs false
/-- what the document's Norm, and its like, leave: a list that was refused, or class's answer -/
def RNorm (w w' : World) (e : Ending) (ok : Bool) (L : List (Int × Int)) : Prop := Below w.heap.size w w' ∧
  if ok = true then ClsEnd w w' e L else e = .returned (.tuple #[.slice none 0 0, .int .i64 10])
theorem ClsEnd.low {w0 w w' : World} {e : Ending} {L : List (Int × Int)} (h : ClsEnd w w' e L) (hb : Below w0.heap.size w0 w) : ClsEnd w0 w' e L := by
  have hs := hb.size
  refine ⟨hb.trans (h.1.mono hs), ?_⟩
  have h2 := h.2
  split at h2
  · rename_i h3
    rw [if_pos h3]
    obtain ⟨v, he, ho⟩ := h2
    exact ⟨v, he, own_low ho hs⟩
  · rename_i h3
    rw [if_neg h3]
    exact h2
theorem ClsEnd.form {w w' : World} {e : Ending} {L : List (Int × Int)} (h : ClsEnd w w' e L) : ∃ v c, e = .returned (.tuple #[v, .int .i64 c]) := by
  have h2 := h.2
  split at h2
  · obtain ⟨v, he, _⟩ := h2
    exact ⟨v, 0, he⟩
  · exact ⟨_, 3, h2⟩
set_option maxHeartbeats 8000000 in
set_option maxRecDepth 1000000 in
theorem rnorm34 (L : List (Int × Int)) (ad : Option Addr) (n cap : Nat) (w : World) (hn : Hid (L.length = n)) (hS : n ≤ 10000000) (hl : Hid (RowAt w.heap.size w (.slice ad n cap) L)) :
    Calls Tryd.prog 34 #[.slice ad n cap] w fun e w' => RNorm w w' e (L.all okR) L := by
  go_enter Tryd.func34, Tryd.ntmps34
  go_wp2
  go_loopw [4] (fun i wr => ∃ (k : Nat), k ≤ n ∧ i = .int .i64 k ∧ Below w.heap.size w wr ∧ Hid ((L.take k).all okR = true)) (fun i _ => n - (intOf i).toNat)
  case atStart => exact ⟨0, by omega, rfl, Below.refl _ _, by show (L.take 0).all okR = true; simp⟩
  case round =>
    obtain ⟨k, hk, rfl, hbw, HK⟩ := hrel
    have hsz := hbw.size
    by_cases hlt : k < n
    · obtain ⟨ad', cap', he, h | ⟨b, off, rfl, hbN, hc0, hc1⟩⟩ := hl.out
      · exact absurd h (by rw [hn.out]; omega)
      · simp only [Value.slice.injEq] at he
        obtain ⟨rfl, -, rfl⟩ := he
        have hn' := hn.out
        have d0 := (hbw.cell (p := ⟨b, off + k * 2, none⟩) hbN).trans (hc0 k (by omega))
        have d1 := (hbw.cell (p := ⟨b, off + k * 2 + 1, none⟩) hbN).trans (hc1 k (by omega))
        have HOK : Hid ((okR (L.getD k (0, 0)) = true → (L.take (k + 1)).all okR = true) ∧ (okR (L.getD k (0, 0)) = false → L.all okR = false)) :=
          ⟨fun h => by rw [all_take_snoc L k (by omega), HK.out, h]; rfl, fun h => all_bad L k (by omega) h⟩
        generalize L.getD k (0, 0) = g at d0 d1 HOK
        obtain ⟨gl, gh⟩ := g
        simp only at d0 d1
        clear hc0 hc1 hn'
        have hkn : (k : Int) < (n : Int) := by omega
        by_cases h1 : gl < 0
        · have g1 : decide (gl < 0) = true := decide_eq_true h1
          have HBD : Hid (L.all okR = false) := HOK.out.2 (by simp [okR]; omega)
          clear HOK
          go_wp2
          go_quiet (fail)
          go_wp2
          go_ret2
          exact ⟨below_drewN hbw _, by rw [if_neg (by rw [HBD.out]; simp)]; rfl⟩
        · have g1 : decide (gl < 0) = false := decide_eq_false h1
          by_cases h2 : gh < gl
          · have g2 : decide (gh < gl) = true := decide_eq_true h2
            have g2' : decide (gl > gh) = true := decide_eq_true h2
            have HBD : Hid (L.all okR = false) := HOK.out.2 (by simp [okR]; omega)
            clear HOK
            go_wp2
            go_quiet (fail)
            go_wp2
            go_ret2
            exact ⟨below_drewN hbw _, by rw [if_neg (by rw [HBD.out]; simp)]; rfl⟩
          · have g2 : decide (gh < gl) = false := decide_eq_false h2
            have g2' : decide (gl > gh) = false := decide_eq_false h2
            by_cases h3 : 1114111 < gh
            · have g3 : decide (1114111 < gh) = true := decide_eq_true h3
              have HBD : Hid (L.all okR = false) := HOK.out.2 (by simp [okR]; omega)
              clear HOK
              go_wp2
              go_quiet (fail)
              go_wp2
              go_ret2
              exact ⟨below_drewN hbw _, by rw [if_neg (by rw [HBD.out]; simp)]; rfl⟩
            · have g3 : decide (1114111 < gh) = false := decide_eq_false h3
              have HN : Hid ((L.take (k + 1)).all okR = true) := HOK.out.1 (by simp [okR]; omega)
              clear HOK
              go_wp2
              go_quiet (fail)
              go_wp2
              go_roundw
              case rel => exact ⟨k + 1, by omega, by go_num, below_drewN hbw _, HN⟩
              case measure => simp [intOf]; omega
    · have HA : Hid (L.all okR = true) := by
        have := HK.out
        rw [List.take_of_length_le (by rw [hn.out]; omega)] at this
        exact this
      clear HK
      have hcl := class53 L ad n cap wr hn hS (hl.out.below hbw (Nat.le_refl _) hsz)
      go_wp2_with (go_at_call 53; refine hcl.mono ?_; intro e w1 hC; obtain ⟨v, c, rfl⟩ := hC.form)
      go_ret2
      have hC2 := hC.low hbw
      exact ⟨hC2.1, by rw [if_pos HA.out]; exact hC2⟩
end Go.Proofs.YtjglehklfdhgaaaDoor
