/- HELPERS: slices of bytes that come in as arguments; what the second form's bound gives. -/
import Derived.Test.YtjglehklfdhgaaaDoorArgs
import Derived.Test.YtjglehklfdhgaaaDoorCutC
namespace Go.Proofs.YtjglehklfdhgaaaDoor
open Go.ChangeShapes Go.WideShapes Go.ChangeAt Go.RowKit Go.Mx
set_option linter.unusedVariables false
set_option linter.unusedSimpArgs false
theorem bulk_pos {H : Type} (d : DataW H) : 1 ≤ Rows.uptoBulk d := by
  cases d with
  | lit l => cases l <;> simp [Rows.uptoBulk]
  | nil => simp [Rows.uptoBulk]
  | ptr d => simp [Rows.uptoBulk]
  | slice elems spare => simp [Rows.uptoBulk]
  | agg parts => simp [Rows.uptoBulk]
  | iface t d => simp [Rows.uptoBulk]
  | map entries => simp [Rows.uptoBulk]
  | held h => simp [Rows.uptoBulk]
theorem bulk_len {H : Type} (l : List (DataW H)) : l.length ≤ Rows.uptoBulkAll l := by
  induction l with
  | nil => simp
  | cons x r ih => have := bulk_pos x; simp only [Rows.uptoBulkAll, List.length_cons]; omega
theorem bulk_slice {H : Type} (elems spare : List (DataW H)) : elems.length + spare.length + 1 ≤ Rows.uptoBulk (.slice elems spare) := by
  have h1 := bulk_len elems
  have h2 := bulk_len spare
  simp only [Rows.uptoBulk]
  omega
theorem bulk_bound {H : Type} {l : List (DataW H)} (hk : Rows.uptoSmall H l = true) : Rows.uptoBulkAll l ≤ 1048576 := of_decide_eq_true hk
theorem cells5 : Tryd.prog.cellsOf 5 = 1 := by kernel_rfl
/-- a []byte that came in -/
theorem bytes_arg {H : Type} {enc : TypeId × Value → H} {W : World} {base B : Nat} {v : Value} {d : DataW H} {p : List MemPlace} (hok : Value.okWide Tryd.prog W .any base 25 v)
    (h0 : DataW.Trod enc Tryd.prog W 0 (fun _ => true) true 25 v d p) (hsz : ∀ elems spare, d = .slice elems spare → elems.length + spare.length ≤ B) :
    ∃ (l : List Int) (ad : Option Addr) (n cap : Nat), v = .slice ad n cap ∧ n = l.length ∧ cap ≤ B ∧ BytesAt W.heap.size W (.slice ad n cap) l ∧ ByteL l := by
  obtain ⟨a0, len, cap, rfl⟩ := okWide_slice Tryd.underlying25 hok
  obtain ⟨fuel, hf⟩ := h0
  rcases open_ints Tryd.underlying25 Tryd.underlying5 cells5 hf with ⟨hcs, hx⟩ | ⟨a, len', cap', zs, hcs, _, hl, hm, hz, hx, hcell, hwz⟩
  · simp [Value.cells] at hcs
    obtain ⟨rfl, rfl, rfl⟩ := hcs
    exact ⟨[], none, 0, 0, rfl, rfl, by omega, ⟨none, 0, rfl, by simp, by omega, .inl rfl⟩, fun k => by simp⟩
  · simp [Value.cells] at hcs
    obtain ⟨rfl, rfl, rfl⟩ := hcs
    simp only [if_true] at hz
    obtain ⟨rfl, rfl⟩ := Prod.mk.inj hx
    have hs := hsz _ _ rfl
    simp only [lits, List.length_map, List.length_take, List.length_drop] at hs
    have htl : (zs.take len).length = len := by rw [List.length_take]; omega
    unfold maxLen at hm
    refine ⟨zs.take len, some a, len, cap, rfl, htl.symm, by omega, ⟨some a, cap, by rw [htl], by omega, hm, ?_⟩, fun k => ?_⟩
    · by_cases h0 : len = 0
      · left; omega
      · right
        obtain ⟨b, off, rfl, hc⟩ := ints_at hcell (by omega)
        refine ⟨b, off, rfl, lt_of_cell (hc 0 (by omega)), fun k hk => ?_⟩
        rw [htl] at hk
        rw [hc k (by omega)]
        simp [List.getD_eq_getElem?_getD, List.getElem?_take, hk]
    · by_cases hk : k < len
      · have hk' : k < zs.length := by omega
        have hmem : zs[k] ∈ zs := List.getElem_mem hk'
        have hb := bounds_u8 (hwz _ hmem)
        have e : (zs.take len).getD k 0 = zs[k] := by simp [List.getD_eq_getElem?_getD, List.getElem?_take, hk, hk']
        rw [e]; omega
      · simp [List.getD_eq_getElem?_getD, List.getElem?_take, hk]
end Go.Proofs.YtjglehklfdhgaaaDoor
