/- HELPERS: the document's side of classes: in, part. -/
import Derived.Test.YtjglehklfdhgaaaDoorLayM
namespace Go.Proofs.YtjglehklfdhgaaaDoor
open Go.RowKit Go.Mx
set_option linter.unusedVariables false
set_option linter.unusedSimpArgs false
set_option maxHeartbeats 2000000 in
set_option maxRecDepth 1000000 in
theorem in52 (L : List (Int × Int)) (ad : Option Addr) (n cap : Nat) (r : Int) (w : World) (N : Nat) (hn : Hid (n = L.length)) (hS : n ≤ 17592186044416) (hl : Hid (RowAt N w (.slice ad n cap) L)) :
    Calls Tryd.prog 52 #[.slice ad n cap, .int .i64 r] w fun e w' => e = .returned (.bool (hasB L r)) ∧ w' = w := by
  go_enter Tryd.func52, Tryd.ntmps52
  go_wp2
  go_loopw [5] (fun i wr => ∃ (k : Nat), k ≤ n ∧ i = .int .i64 k ∧ wr = w ∧ Hid (hasB (L.take k) r = false)) (fun i _ => n - (intOf i).toNat)
  case atStart => exact ⟨0, by omega, rfl, rfl, by show hasB (L.take 0) r = false; rfl⟩
  case round =>
    obtain ⟨k, hk, rfl, rfl, HK⟩ := hrel
    by_cases hlt : k < n
    · obtain ⟨ad', cap', he, h | ⟨b, off, rfl, hbN, hc0, hc1⟩⟩ := hl.out
      · exact absurd h (by rw [← hn.out]; omega)
      · simp only [Value.slice.injEq] at he
        obtain ⟨rfl, -, rfl⟩ := he
        have hn' := hn.out
        have d0 := hc0 k (by omega)
        have d1 := hc1 k (by omega)
        have hmem : L.getD k (0, 0) ∈ L := by
          have e : L.getD k (0, 0) = L[k] := by simp [show k < L.length by omega]
          rw [e]; exact List.getElem_mem _
        have hts : L.take (k + 1) = L.take k ++ [L.getD k (0, 0)] := by
          rw [List.take_succ_eq_append_getElem (by omega)]; simp [show k < L.length by omega]
        have HH : Hid ((inG (L.getD k (0, 0)) r = true → hasB L r = true) ∧ (inG (L.getD k (0, 0)) r = false → hasB (L.take (k + 1)) r = false)) := by
          constructor
          · intro h
            exact hasB_true.2 ⟨_, hmem, by simpa [inG] using h⟩
          · intro h
            rw [hts, hasB_append, HK.out, hasB_cons, h]; rfl
        generalize L.getD k (0, 0) = g at d0 d1 HH
        obtain ⟨lo, hi⟩ := g
        simp only at d0 d1
        clear hmem hts hn' hc0 hc1
        by_cases h1 : lo ≤ r
        · by_cases h2 : r ≤ hi
          · have HE : Hid (hasB L r = true) := HH.out.1 (by simp [inG, h1, h2])
            clear HH
            go_wp2
            go_ret
            exact ⟨by rw [HE.out]; rfl, rfl⟩
          · have HE : Hid (hasB (L.take (k + 1)) r = false) := HH.out.2 (by simp [inG, h1, h2])
            clear HH
            go_wp2
            go_roundw
            case rel => exact ⟨k + 1, by omega, by go_num, trivial, HE⟩
            case measure => simp [intOf]; omega
        · have HE : Hid (hasB (L.take (k + 1)) r = false) := HH.out.2 (by simp [inG, h1])
          have h1' : decide (lo ≤ r) = false := by simp; omega
          clear HH
          go_wp2
          go_roundw
          case rel => exact ⟨k + 1, by omega, by go_num, trivial, HE⟩
          case measure => simp [intOf]; omega
    · obtain rfl : k = n := by omega
      have HE : Hid (hasB L r = false) := by
        have := HK.out
        rw [List.take_of_length_le (by rw [← hn.out]; exact Nat.le_refl _)] at this
        exact this
      clear HK
      go_wp2
      go_ret
      exact ⟨by rw [HE.out]; rfl, rfl⟩
set_option maxHeartbeats 2000000 in
set_option maxRecDepth 1000000 in
theorem part61 (lo hi a b : Int) (w : World) :
    Calls Tryd.prog 61 #[.agg #[.int .i64 lo, .int .i64 hi], .int .i64 a, .int .i64 b] w fun e w' => e = .returned (.tuple #[.agg #[.int .i64 (max lo a), .int .i64 (min hi b)], .bool (decide (max lo a ≤ min hi b))]) ∧ Below w.heap.size w w' := by
  go_enter Tryd.func61, Tryd.ntmps61
  go_wp2
  go_region
  all_goals go_wp2
  refine bodyPost_ret (v := .tuple #[.agg #[.int .i64 (max lo a), .int .i64 (min hi b)], .bool (decide (max lo a ≤ min hi b))]) (by simp [results, Tryd.results61, go_sem]) rfl ?_
  exact ⟨rfl, by repeat (first | exact Below.refl _ _ | refine below_drewN ?_ _ | refine Below.drew ?_ | refine Below.alloc ?_ (by simp <;> omega) _)⟩
end Go.Proofs.YtjglehklfdhgaaaDoor
