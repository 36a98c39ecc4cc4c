/- HELPERS: the contract of same; append of a row, and a call, as steps of a region that draws its order. -/
import Derived.Test.YtjglehklfdhgaabDoorSem
import Derived.Deep.RegionLawGrows
import Derived.Laws.AppendOwnNone
namespace Go.Proofs.YtjglehklfdhgaabDoor
open Go.Shelf Go.RowKit Go.Lib Go.Sort Go.Mx
set_option linter.unusedVariables false
set_option linter.unusedSimpArgs false
set_option maxHeartbeats 2000000 in
set_option maxRecDepth 1000000 in
theorem same16 (A : List (Int × Int)) (aa ab : Option Addr) (n ca cb : Nat) (w : World) (hn : Hid (n = A.length)) (hS : n ≤ 5000) (hA : Hid (RowAt w.heap.size w (.slice aa n ca) A)) (hB : Hid (RowAt w.heap.size w (.slice ab n cb) A)) :
    Calls Tryd.prog 16 #[.slice aa n ca, .slice ab n cb] w fun e w' => e = .returned (.bool true) ∧ ∃ q, w' = w.drewN q := by
  go_enter Tryd.func16, Tryd.ntmps16
  go_wp2
  go_loopw [5] (fun i wr => ∃ (k q : Nat), k ≤ n ∧ i = .int .i64 k ∧ wr = w.drewN q) (fun i _ => n - (intOf i).toNat)
  case atStart => exact ⟨0, 0, by omega, rfl, rfl⟩
  case round =>
    obtain ⟨k, q, hk, rfl, rfl⟩ := hrel
    by_cases hlt : k < n
    · obtain ⟨ad', cap', he, h | ⟨b, off, rfl, hbN, hc0, hc1⟩⟩ := hA.out
      · exact absurd h (by rw [← hn.out]; omega)
      · simp only [Value.slice.injEq] at he
        obtain ⟨rfl, -, rfl⟩ := he
        obtain ⟨ad2, cap2, he2, h | ⟨b2, off2, rfl, hbN2, hd0, hd1⟩⟩ := hB.out
        · exact absurd h (by rw [← hn.out]; omega)
        · simp only [Value.slice.injEq] at he2
          obtain ⟨rfl, -, rfl⟩ := he2
          have hn' := hn.out
          have d0 := hc0 k (by omega)
          have d1 := hc1 k (by omega)
          have d2 := hd0 k (by omega)
          have d3 := hd1 k (by omega)
          generalize A.getD k (0, 0) = g at d0 d1 d2 d3
          obtain ⟨lo, hi⟩ := g
          simp only at d0 d1 d2 d3
          clear hc0 hc1 hd0 hd1 hn'
          have hk2 : (k : Int) < (n : Int) := by omega
          go_wp2
          go_quiet (fail)
          go_wp2
          go_roundw
          case rel => exact ⟨k + 1, q + nq, by omega, by go_num, by simp⟩
          case measure => simp [intOf]; omega
    · obtain rfl : k = n := by omega
      go_wp2
      go_ret
      exact ⟨rfl, q, rfl⟩
end Go.Proofs.YtjglehklfdhgaabDoor
