/- HELPERS: lists of ints that come in as arguments. -/
import Derived.Test.YtjglehklfdhgaaaDoorFrame
import Derived.Test.YtjglehklfdhgaaaDoorEncode
import Derived.SizedLaws
namespace Go.Proofs.YtjglehklfdhgaaaDoor
open Go.ChangeShapes Go.WideShapes Go.ChangeAt Go.RowKit Go.Mx
set_option linter.unusedVariables false
set_option linter.unusedSimpArgs false
theorem laidOut : laidOutB Tryd.prog = true := by kernel_rfl
theorem bytesOf3 : Tryd.prog.bytesOf 3 = 8 := by kernel_rfl
theorem lt_of_cell {w : World} {b o : Nat} {v : Value} (h : w.cell? ⟨b, o, none⟩ = some v) : b < w.heap.size := by
  rcases Nat.lt_or_ge b w.heap.size with h1 | h1
  · exact h1
  · have : w.heap[b]? = none := Array.getElem?_eq_none h1
    simp [World.cell?, this] at h
/-- a []int that came in -/
theorem ints_arg {H : Type} {enc : TypeId × Value → H} {W : World} {base : Nat} {v : Value} {d : DataW H} {p : List MemPlace} (hok : Value.okWide Tryd.prog W .any base 29 v)
    (h0 : DataW.Trod enc Tryd.prog W 0 (fun _ => true) true 29 v d p) (hsz : ∀ elems spare, d = .slice elems spare → (elems.length + spare.length) * 8 ≤ 140737488351232) :
    ∃ (l : List Int) (ad : Option Addr) (n cap : Nat), v = .slice ad n cap ∧ n = l.length ∧ n ≤ 17592186044416 ∧ IntsAt W.heap.size W (.slice ad n cap) l := by
  obtain ⟨a0, len, cap, rfl⟩ := okWide_slice Tryd.underlying29 hok
  obtain ⟨fuel, hf⟩ := h0
  rcases open_ints Tryd.underlying29 Tryd.underlying3 cells3 hf with ⟨hcs, hx⟩ | ⟨a, len', cap', zs, hcs, _, hl, hm, hz, hx, hcell, hwz⟩
  · simp [Value.cells] at hcs
    obtain ⟨rfl, rfl, rfl⟩ := hcs
    exact ⟨[], none, 0, 0, rfl, rfl, by omega, none, 0, rfl, by simp, by omega, .inl rfl⟩
  · simp [Value.cells] at hcs
    obtain ⟨rfl, rfl, rfl⟩ := hcs
    simp only [if_true] at hz
    obtain ⟨rfl, rfl⟩ := Prod.mk.inj hx
    have hs := hsz _ _ rfl
    simp only [lits, List.length_map, List.length_take, List.length_drop] at hs
    have hcap : cap ≤ 17592186044416 := by omega
    have htl : (zs.take len).length = len := by rw [List.length_take]; omega
    refine ⟨zs.take len, some a, len, cap, rfl, htl.symm, by omega, some a, cap, by rw [htl], by omega, hcap, ?_⟩
    by_cases h0 : len = 0
    · left; omega
    · right
      obtain ⟨b, off, rfl, hc⟩ := ints_at hcell (by omega)
      refine ⟨b, off, rfl, lt_of_cell (hc 0 (by omega)), fun k hk => ?_⟩
      rw [htl] at hk
      rw [hc k (by omega)]
      simp [List.getD_eq_getElem?_getD, List.getElem?_take, hk]
end Go.Proofs.YtjglehklfdhgaaaDoor
