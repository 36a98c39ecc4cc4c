/- HELPERS: the cells of the two tables. -/
import Derived.Test.YtjglehklfdhgaaaDoorAwake
import Derived.Test.YtjglehklfdhgaaaDoorRows
import Derived.OpenShut
import Derived.Deep.Strs
import Derived.Lib.LaidTab
namespace Go.Proofs.YtjglehklfdhgaaaDoor
open Go.RowKit Go.Mx
set_option linter.unusedVariables false
set_option linter.unusedSimpArgs false
theorem cells58 : Tryd.prog.cellsOf 58 = 32 := by kernel_rfl
theorem cells62 : Tryd.prog.cellsOf 62 = 15 := by kernel_rfl
theorem cells61 : Tryd.prog.cellsOf 61 = 3 := by kernel_rfl
theorem cells3 : Tryd.prog.cellsOf 3 = 1 := by kernel_rfl
theorem form_cells {H : Type} {enc : TypeId × Value → H} {w : World} {base fuel : Nat} {sp : Nat → Bool} {held : Bool} {cs : List Value} {a b c : Int} {p : List MemPlace}
    (h : DataW.trod enc Tryd.prog w base sp held fuel 61 cs = some (.agg [.lit (.int .i64 a), .lit (.int .i64 b), .lit (.int .i64 c)], p)) : cs = [.int .i64 a, .int .i64 b, .int .i64 c] := by
  obtain ⟨y0, y1, y2, n, hx, hl, h0, h1, h2⟩ := Deep.trod_struct3 Tryd.underlying61 h
  rw [cells61] at hl
  simp only [cells3] at h0 h1 h2
  match cs, hl with
  | [u, v, z], _ =>
    obtain ⟨a', e0, rfl, _⟩ := DataW.trod_int Tryd.underlying3 h0
    obtain ⟨b', e1, rfl, _⟩ := DataW.trod_int Tryd.underlying3 h1
    obtain ⟨c', e2, rfl, _⟩ := DataW.trod_int Tryd.underlying3 h2
    simp at e0 e1 e2 hx
    obtain ⟨⟨rfl, rfl, rfl⟩, _⟩ := hx
    subst e0 e1 e2
    rfl
theorem forms_cells {H : Type} {enc : TypeId × Value → H} {w : World} {base fuel : Nat} {sp : Nat → Bool} {held : Bool} {cs : List Value} {p : List MemPlace}
    (h : DataW.trod enc Tryd.prog w base sp held fuel 62 cs = some (Rows.laid_heron_runes_forms, p)) : cs = I64 TabF := by
  obtain ⟨xs, m, _, hx, hl, hxl, he⟩ := DataW.trod_array Tryd.underlying62 h
  rw [cells62] at hl
  simp only [cells61] at he
  match xs, hxl with
  | [x0, x1, x2, x3, x4], _ =>
    simp only [Rows.laid_heron_runes_forms, Prod.mk.injEq, DataW.agg.injEq, List.map_cons, List.map_nil, List.cons.injEq, and_true] at hx
    obtain ⟨⟨e0, e1, e2, e3, e4⟩, _⟩ := hx
    have k0 := form_cells (p := x0.2) ((he 0 (by decide)).trans (by rw [e0]; rfl))
    have k1 := form_cells (p := x1.2) ((he 1 (by decide)).trans (by rw [e1]; rfl))
    have k2 := form_cells (p := x2.2) ((he 2 (by decide)).trans (by rw [e2]; rfl))
    have k3 := form_cells (p := x3.2) ((he 3 (by decide)).trans (by rw [e3]; rfl))
    have k4 := form_cells (p := x4.2) ((he 4 (by decide)).trans (by rw [e4]; rfl))
    match cs, hl with
    | [c0, c1, c2, c3, c4, c5, c6, c7, c8, c9, c10, c11, c12, c13, c14], _ =>
      simp at k0 k1 k2 k3 k4
      simp [I64, TabF, k0, k1, k2, k3, k4]
theorem tabs_of_laid {W : World} (h : laidMetH Tryd.prog Rows.runesNamesRow.laid W) : Tabs W := by
  have h' : laidMet Tryd.prog Rows.runesNamesRow.laid W := h
  obtain ⟨ps, ⟨g, t, cs, fuel, p, q, hg, ht, hvar, hd, hrest, _⟩, _⟩ := h'
  obtain ⟨g', t', cs', fuel', p', q', hg', ht', hvar', hd', _, _⟩ := hrest
  obtain rfl : g = 1 := Option.some.inj (hg.symm.trans (by kernel_rfl))
  obtain rfl : g' = 0 := Option.some.inj (hg'.symm.trans (by kernel_rfl))
  obtain rfl : t = 62 := Option.some.inj (ht.symm.trans (by kernel_rfl))
  obtain rfl : t' = 58 := Option.some.inj (ht'.symm.trans (by kernel_rfl))
  have hf := forms_cells hd
  have hs := Lib.cells_of_tab (zs := TabS) Tryd.underlying58 Tryd.underlying3 cells3 cells58 hd'
  refine ⟨fun i hi => ?_, fun i hi => ?_⟩
  · have := World.var?_cell hg' hvar' i
    rw [this]
    have e : cs'[i]? = (I64 TabS)[i]? := by rw [← Array.getElem?_toList, hs]
    rw [e]
    have hl : i < TabS.length := hi
    simp [hl]
  · have := World.var?_cell hg hvar i
    rw [this]
    have e : cs[i]? = (I64 TabF)[i]? := by rw [← Array.getElem?_toList, hf]
    rw [e]
    have hl : i < TabF.length := hi
    simp [hl]
end Go.Proofs.YtjglehklfdhgaaaDoor
