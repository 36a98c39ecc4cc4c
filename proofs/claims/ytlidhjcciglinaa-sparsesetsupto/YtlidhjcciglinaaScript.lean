/- HELPERS: a script that comes in as an argument. -/
import Derived.Test.YtlidhjcciglinaaArgs
import Derived.Test.YtlidhjcciglinaaSy
import Derived.Deep.Strs
import Derived.Deep.Slices
namespace Go.Proofs.Ytlidhjcciglinaa
open Go.ChangeShapes Go.WideShapes Go.ChangeAt Go.RowKit
set_option linter.unusedVariables false
set_option linter.unusedSimpArgs false
theorem cells32 : Try.prog.cellsOf 32 = 3 := by kernel_rfl
theorem bytesOf32 : Try.prog.bytesOf 32 = 24 := by kernel_rfl
theorem add_off (b off i : Nat) : (⟨b, off, none⟩ : Addr).add i = ⟨b, off + i, none⟩ := by unfold Addr.add; split <;> simp_all
/-- a []Step that came in -/
theorem script_arg {H : Type} {enc : TypeId × Value → H} {W : World} {base : Nat} {v : Value} {d : DataW H} {p : List MemPlace} (hok : Value.okWide Try.prog W .any base 22 v)
    (h0 : DataW.Trod enc Try.prog W 0 (fun _ => true) true 22 v d p) (K : Nat) (hsz : ∀ elems spare, d = .slice elems spare → elems.length + spare.length ≤ K) :
    ∃ (S : List (Int × Int × Int)) (ad : Option Addr) (n cap : Nat), v = .slice ad n cap ∧ n ≤ K ∧ ScriptAt W.heap.size W ad n S := by
  obtain ⟨a0, len, cap, rfl⟩ := okWide_slice Try.underlying22 hok
  obtain ⟨fuel, hf⟩ := h0
  rcases Deep.open_slice Try.underlying22 hf with ⟨hcs, hx⟩ | ⟨a, len', cap', m, k, D, Pl, hcs, _, hl, hm, hmm, hx, hc⟩
  · simp [Value.cells] at hcs
    obtain ⟨rfl, rfl, rfl⟩ := hcs
    exact ⟨[], none, 0, 0, rfl, by omega, rfl, .inl rfl⟩
  · simp [Value.cells] at hcs
    obtain ⟨rfl, rfl, rfl⟩ := hcs
    simp only [if_true] at hmm
    subst hmm
    obtain ⟨rfl, rfl⟩ := Prod.mk.inj hx
    have hs := hsz _ _ rfl
    simp only [List.length_map, List.length_range] at hs
    have hz : ∀ i, i < m → ∃ q : Int × Int × Int, W.cell? (a.add (i * 3)) = some (.int .i64 q.1) ∧ W.cell? ((a.add (i * 3)).add 1) = some (.int .i64 q.2.1) ∧ W.cell? ((a.add (i * 3)).add 2) = some (.int .i64 q.2.2) := by
      intro i hi
      obtain ⟨cs', h1, h2⟩ := hc i hi
      rw [cells32] at h1
      obtain ⟨_, hlen, hcell⟩ := World.cells?_some h1
      obtain ⟨y0, y1, y2, n', _, _, t0, t1, t2⟩ := Deep.trod_struct3 Try.underlying32 h2
      match cs', hlen with
      | [v0, v1, v2], _ =>
        simp [cells3] at t0 t1 t2
        obtain ⟨z0, e0, _, _⟩ := DataW.trod_int Try.underlying3 t0
        obtain ⟨z1, e1, _, _⟩ := DataW.trod_int Try.underlying3 t1
        obtain ⟨z2, e2, _, _⟩ := DataW.trod_int Try.underlying3 t2
        simp at e0 e1 e2
        subst e0 e1 e2
        have g0 := hcell 0 (by omega)
        have g1 := hcell 1 (by omega)
        have g2 := hcell 2 (by omega)
        refine ⟨(z0, z1, z2), ?_, ?_, ?_⟩
        · rw [Deep.add_add] at g0; simpa using g0
        · simpa using g1
        · simpa using g2
    obtain ⟨q, hq⟩ := Deep.choose_lt hz
    have hlen : ((List.range len).map q).length = len := by simp
    have hget : ∀ i, i < len → ((List.range len).map q).getD i (0, 0, 0) = q i := by
      intro i hi
      simp [List.getD_eq_getElem?_getD, hi]
    refine ⟨(List.range len).map q, some a, len, m, rfl, by omega, hlen.symm, ?_⟩
    by_cases h0 : len = 0
    · exact .inl h0
    · right
      obtain ⟨b, off, spot⟩ := a
      have hspot : spot = none := by simpa [Addr.add] using World.cell?_spot (hq 0 (by omega)).1
      subst hspot
      have e0 : ∀ i, i < len → W.cell? ⟨b, off + i * 3, none⟩ = some (.int .i64 (q i).1) := fun i hi => by
        have h1 := (hq i (by omega)).1
        rw [add_off] at h1
        exact h1
      refine ⟨b, off, rfl, lt_of_cell (e0 0 (by omega)), fun i hi => ?_⟩
      rw [hget i hi]
      have h2 := (hq i (by omega)).2.1
      have h3 := (hq i (by omega)).2.2
      rw [add_off, add_off] at h2 h3
      exact ⟨e0 i hi, h2, h3⟩
end Go.Proofs.Ytlidhjcciglinaa
