/- HELPERS: lists of ranges, and the struct that holds them, as they come in; what the second form's bound gives. -/
import Derived.Test.YtjglehklfdhgaabDoorFrame
import Derived.Test.YtjglehklfdhgaabDoorSem
import Derived.Deep.SlicePairs
import Derived.SizedLaws
namespace Go.Proofs.YtjglehklfdhgaabDoor
open Go.ChangeShapes Go.WideShapes Go.ChangeAt Go.RowKit Go.Mx Go.Joins
set_option linter.unusedVariables false
set_option linter.unusedSimpArgs false
theorem laidOut : laidOutB Tryd.prog = true := by kernel_rfl
theorem lt_of_cell {w : World} {b o : Nat} {v : Value} (h : w.cell? ⟨b, o, none⟩ = some v) : b < w.heap.size := by
  rcases Nat.lt_or_ge b w.heap.size with h1 | h1
  · exact h1
  · have : w.heap[b]? = none := Array.getElem?_eq_none h1
    simp [World.cell?, this] at h
theorem bulk_pos {H : Type} (d : DataW H) : 1 ≤ Rows.uptoBulk d := by
  cases d with
  | lit l => cases l <;> simp [Rows.uptoBulk]
  | nil => simp [Rows.uptoBulk]
  | ptr d => simp [Rows.uptoBulk]
  | slice elems spare => simp [Rows.uptoBulk]
  | agg parts => simp [Rows.uptoBulk]
  | iface t d => simp [Rows.uptoBulk]
  | map entries => simp [Rows.uptoBulk]
  | held h => simp [Rows.uptoBulk]
theorem bulk_len {H : Type} (l : List (DataW H)) : l.length ≤ Rows.uptoBulkAll l := by
  induction l with
  | nil => simp
  | cons x r ih => have := bulk_pos x; simp only [Rows.uptoBulkAll, List.length_cons]; omega
theorem bulk_slice {H : Type} (elems spare : List (DataW H)) : elems.length + spare.length + 1 ≤ Rows.uptoBulk (.slice elems spare) := by
  have h1 := bulk_len elems
  have h2 := bulk_len spare
  simp only [Rows.uptoBulk]
  omega
theorem bulk_bound {H : Type} {l : List (DataW H)} (hk : Rows.uptoSmall H l = true) : Rows.uptoBulkAll l ≤ 1048576 := of_decide_eq_true hk
theorem cellsA3 : Tryd.prog.cellsOf 3 = 1 := by kernel_rfl
theorem cellsA44 : Tryd.prog.cellsOf 44 = 2 := by kernel_rfl
theorem cellsA25 : Tryd.prog.cellsOf 25 = 3 := by kernel_rfl
/-- a []Range that came in -/
theorem rng_arg {H : Type} {enc : TypeId × Value → H} {W : World} {fuel : Nat} {v : Value} {x : DataW H × List MemPlace} (hf : DataW.trod enc Tryd.prog W 0 (fun _ => true) true fuel 22 [v] = some x)
    (hsz : ∀ elems spare, x.1 = .slice elems spare → elems.length + spare.length ≤ 1048576) :
    ∃ (L : List (Int × Int)) (ad : Option Addr) (n cap : Nat), v = .slice ad n cap ∧ n = L.length ∧ n ≤ 1048576 ∧ RowAt W.heap.size W (.slice ad n cap) L ∧ (ad = none → cap = 0) := by
  rcases Deep.open_slice_pairs Tryd.underlying22 Tryd.underlying44 cellsA44 rfl rfl cellsA3 cellsA3 hf with ⟨hcs, hx⟩ | ⟨a, len, cap, m, k, V0, V1, D0, D1, P0, P1, hcs, _, hl, hm, hmm, hx, hc⟩
  · simp at hcs
    subst hcs
    exact ⟨[], none, 0, 0, rfl, rfl, by omega, ⟨none, 0, rfl, .inl rfl⟩, fun _ => rfl⟩
  · simp at hcs
    subst hcs
    simp only [if_true] at hmm
    subst hmm
    have hs := hsz _ _ (by rw [hx])
    simp only [List.length_map, List.length_range] at hs
    have hz : ∀ i, i < m → ∃ q : Int × Int, V0 i = .int .i64 q.1 ∧ V1 i = .int .i64 q.2 := by
      intro i hi
      obtain ⟨_, _, t0, t1⟩ := hc i hi
      obtain ⟨z0, e0, _, _⟩ := DataW.trod_int Tryd.underlying3 t0
      obtain ⟨z1, e1, _, _⟩ := DataW.trod_int Tryd.underlying3 t1
      simp at e0 e1
      exact ⟨(z0, z1), e0, e1⟩
    obtain ⟨q, hq⟩ := Deep.choose_lt hz
    have hlen : ((List.range len).map q).length = len := by simp
    have hget : ∀ i, i < len → ((List.range len).map q).getD i (0, 0) = q i := by
      intro i hi
      simp [List.getD_eq_getElem?_getD, hi]
    refine ⟨(List.range len).map q, some a, len, m, rfl, hlen.symm, by omega, ?_, fun h => by cases h⟩
    refine ⟨some a, m, by rw [hlen], ?_⟩
    rw [hlen]
    by_cases h0 : len = 0
    · exact .inl h0
    · right
      obtain ⟨b, off, spot⟩ := a
      have hspot : spot = none := by simpa [Addr.add] using World.cell?_spot (hc 0 (by omega)).1
      subst hspot
      have hcell0 : ∀ i, i < len → W.cell? ⟨b, off + i * 2, none⟩ = some (.int .i64 (q i).1) := fun i hi => by
        have h1 := (hc i (by omega)).1
        rw [Go.WideShapes.add_plain, (hq i (by omega)).1] at h1
        exact h1
      have hcell1 : ∀ i, i < len → W.cell? ⟨b, off + i * 2 + 1, none⟩ = some (.int .i64 (q i).2) := fun i hi => by
        have h1 := (hc i (by omega)).2.1
        rw [Go.WideShapes.add_plain, (hq i (by omega)).2] at h1
        exact h1
      exact ⟨b, off, rfl, lt_of_cell (hcell0 0 (by omega)), fun i hi => by rw [hget i hi]; exact hcell0 i hi, fun i hi => by rw [hget i hi]; exact hcell1 i hi⟩
/-- a []int's form -/
theorem ints_form {H : Type} {enc : TypeId × Value → H} {W : World} {fuel : Nat} {v : Value} {x : DataW H × List MemPlace} (hf : DataW.trod enc Tryd.prog W 0 (fun _ => true) true fuel 23 [v] = some x) : ∃ ad n cap, v = .slice ad n cap := by
  rcases open_ints Tryd.underlying23 Tryd.underlying3 cellsA3 hf with ⟨hcs, hx⟩ | ⟨a, len, cap, zs, hcs, _⟩
  · simp at hcs
    exact ⟨_, _, _, hcs⟩
  · simp at hcs
    exact ⟨_, _, _, hcs⟩
end Go.Proofs.YtjglehklfdhgaabDoor
