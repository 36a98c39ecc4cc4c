/- HELPERS: lists of ranges, and the struct that holds them, as they come in. -/
import Derived.Test.YtjglehklfdhgaaaDoorArgsB
import Derived.Test.YtjglehklfdhgaaaDoorGather
import Derived.Deep.SlicePairs
namespace Go.Proofs.YtjglehklfdhgaaaDoor
open Go.ChangeShapes Go.WideShapes Go.ChangeAt Go.RowKit Go.Mx Go.Joins
set_option linter.unusedVariables false
set_option linter.unusedSimpArgs false
theorem cellsA57 : Tryd.prog.cellsOf 57 = 2 := by kernel_rfl
theorem cellsA44 : Tryd.prog.cellsOf 44 = 3 := by kernel_rfl
/-- a []Range that came in -/
theorem rng_arg {H : Type} {enc : TypeId × Value → H} {W : World} {fuel : Nat} {v : Value} {x : DataW H × List MemPlace} (hf : DataW.trod enc Tryd.prog W 0 (fun _ => true) true fuel 42 [v] = some x)
    (hsz : ∀ elems spare, x.1 = .slice elems spare → elems.length + spare.length ≤ 1048576) :
    ∃ (L : List (Int × Int)) (ad : Option Addr) (n cap : Nat), v = .slice ad n cap ∧ n = L.length ∧ n ≤ 1048576 ∧ RowAt W.heap.size W (.slice ad n cap) L ∧ (ad = none → cap = 0) := by
  rcases Deep.open_slice_pairs Tryd.underlying42 Tryd.underlying57 cellsA57 rfl rfl cells3 cells3 hf with ⟨hcs, hx⟩ | ⟨a, len, cap, m, k, V0, V1, D0, D1, P0, P1, hcs, _, hl, hm, hmm, hx, hc⟩
  · simp at hcs
    subst hcs
    exact ⟨[], none, 0, 0, rfl, rfl, by omega, ⟨none, 0, rfl, .inl rfl⟩, fun _ => rfl⟩
  · simp at hcs
    subst hcs
    simp only [if_true] at hmm
    subst hmm
    have hs := hsz _ _ (by rw [hx])
    simp only [List.length_map, List.length_range] at hs
    have hz : ∀ i, i < m → ∃ q : Int × Int, V0 i = .int .i64 q.1 ∧ V1 i = .int .i64 q.2 := by
      intro i hi
      obtain ⟨_, _, t0, t1⟩ := hc i hi
      obtain ⟨z0, e0, _, _⟩ := DataW.trod_int Tryd.underlying3 t0
      obtain ⟨z1, e1, _, _⟩ := DataW.trod_int Tryd.underlying3 t1
      simp at e0 e1
      exact ⟨(z0, z1), e0, e1⟩
    obtain ⟨q, hq⟩ := Deep.choose_lt hz
    have hlen : ((List.range len).map q).length = len := by simp
    have hget : ∀ i, i < len → ((List.range len).map q).getD i (0, 0) = q i := by
      intro i hi
      simp [List.getD_eq_getElem?_getD, hi]
    refine ⟨(List.range len).map q, some a, len, m, rfl, hlen.symm, by omega, ?_, fun h => by cases h⟩
    refine ⟨some a, m, by rw [hlen], ?_⟩
    rw [hlen]
    by_cases h0 : len = 0
    · exact .inl h0
    · right
      obtain ⟨b, off, spot⟩ := a
      have hspot : spot = none := by simpa [Addr.add] using World.cell?_spot (hc 0 (by omega)).1
      subst hspot
      have hcell0 : ∀ i, i < len → W.cell? ⟨b, off + i * 2, none⟩ = some (.int .i64 (q i).1) := fun i hi => by
        have h1 := (hc i (by omega)).1
        rw [Go.WideShapes.add_plain, (hq i (by omega)).1] at h1
        exact h1
      have hcell1 : ∀ i, i < len → W.cell? ⟨b, off + i * 2 + 1, none⟩ = some (.int .i64 (q i).2) := fun i hi => by
        have h1 := (hc i (by omega)).2.1
        rw [Go.WideShapes.add_plain, (hq i (by omega)).2] at h1
        exact h1
      exact ⟨b, off, rfl, lt_of_cell (hcell0 0 (by omega)), fun i hi => by rw [hget i hi]; exact hcell0 i hi, fun i hi => by rw [hget i hi]; exact hcell1 i hi⟩
/-- a []int that came in, as a part of something -/
theorem ints_part {H : Type} {enc : TypeId × Value → H} {W : World} {fuel : Nat} {v : Value} {x : DataW H × List MemPlace} (hf : DataW.trod enc Tryd.prog W 0 (fun _ => true) true fuel 29 [v] = some x)
    (hsz : ∀ elems spare, x.1 = .slice elems spare → elems.length + spare.length ≤ 1048576) :
    ∃ (l : List Int) (ad : Option Addr) (n cap : Nat), v = .slice ad n cap ∧ n = l.length ∧ n ≤ 1048576 ∧ IntsAt W.heap.size W (.slice ad n cap) l := by
  rcases open_ints Tryd.underlying29 Tryd.underlying3 cells3 hf with ⟨hcs, hx⟩ | ⟨a, len, cap, zs, hcs, _, hl, hm, hz, hx, hcell, hwz⟩
  · simp at hcs
    subst hcs
    exact ⟨[], none, 0, 0, rfl, rfl, by omega, none, 0, rfl, by simp, by omega, .inl rfl⟩
  · simp at hcs
    subst hcs
    simp only [if_true] at hz
    have hs := hsz _ _ (by rw [hx])
    simp only [lits, List.length_map, List.length_take, List.length_drop] at hs
    have htl : (zs.take len).length = len := by rw [List.length_take]; omega
    refine ⟨zs.take len, some a, len, cap, rfl, htl.symm, by omega, some a, cap, by rw [htl], by omega, by omega, ?_⟩
    by_cases h0 : len = 0
    · left; omega
    · right
      obtain ⟨b, off, rfl, hc⟩ := ints_at hcell (by omega)
      refine ⟨b, off, rfl, lt_of_cell (hc 0 (by omega)), fun k hk => ?_⟩
      rw [htl] at hk
      rw [hc k (by omega)]
      simp [List.getD_eq_getElem?_getD, List.getElem?_take, hk]
end Go.Proofs.YtjglehklfdhgaaaDoor
