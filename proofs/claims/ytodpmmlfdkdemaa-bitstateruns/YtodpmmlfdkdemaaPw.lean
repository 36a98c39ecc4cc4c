/- HELPERS: a visit in memory: captures. -/
import Derived.Test.YtodpmmlfdkdemaaPv
namespace Go.Proofs.Ytodpmmlfdkdemaa
open Go.RowKit Go.Lk
set_option linter.unusedVariables false
set_option linter.unusedSimpArgs false
theorem set_back (arr : Array Value) (a : Nat) (v o : Value) (h : arr[a]? = some o) : (arr.setIfInBounds a v).setIfInBounds a o = arr := by
  obtain ⟨hlt, e⟩ := Array.getElem?_eq_some_iff.1 h
  apply Array.ext_getElem?
  intro i
  rw [Array.getElem?_setIfInBounds, Array.getElem?_setIfInBounds]
  split
  · rename_i e'
    subst e'
    simp [hlt, e]
  · rfl
theorem note_back {w w1 w2 : World} {cb a : Nat} {arr : Array Value} {v o : Value} (h : w.heap[cb]? = some (.cells arr 3 (0, 0))) (ho : arr[a]? = some o) (h1 : w1.heap[cb]? = (w.setCell ⟨cb, a, none⟩ v).heap[cb]?) (h2 : w2.heap[cb]? = w1.heap[cb]?) : (w2.setCell ⟨cb, a, none⟩ o).heap[cb]? = w.heap[cb]? := by
  have e1 := Joins.block_setCell (i := a) h v
  have e2 := Joins.block_setCell (i := a) (h2.trans (h1.trans e1)) o
  rw [e2, set_back arr a v o ho, h]
set_option maxRecDepth 100000 in
set_option maxHeartbeats 4000000 in
theorem note46 {K N b : Nat} {l : List In} {tx : List Int} {w : World} {M : Mv} {s : Vst} {E : List En} {sF fb : List Nat} {x a : Nat} {c : List Int} {cb cp pb po : Nat} (f : Nat) (ih : Hid (VIH K N b l tx f)) (h : VC K N b l tx w M s E sF fb x c cb cp) (hf : l.length < f + s.met.length) (ha : a < K) (hK : K ≤ 10000) (hcs : Hid (∀ W, Below N w W → W.cell? ⟨pb, po + 1, none⟩ = some (.int .i64 (x : Int)) ∧ W.cell? ⟨pb, po + 3, none⟩ = some (.int .i64 (a : Int)))) :
    Calls Try.prog 60 #[.pointer (some ⟨b, 0, none⟩), .pointer (some ⟨pb, po, none⟩), .slice (some ⟨cb, 0, none⟩) K cp] w (VP N b l tx w M E sF fb (vis (act l tx M.j) M.j f x (c.set a (M.j : Int)) s)) := by
  have hcl : c.length = K := by have := h.cap.1; simpa using this
  obtain ⟨o, hoc⟩ : ∃ o, c[a]? = some o := ⟨c[a], List.getElem?_eq_getElem (by omega)⟩
  have hcell : w.cell? ⟨cb, a, none⟩ = some (.int .i64 o) := by rw [h.cap.cellAt a (by omega)]; simp [hoc]
  have hfz := h.cap.frozenAt a
  obtain ⟨arr, harr⟩ := row_block h.cap
  have hao : arr[a]? = some (.int .i64 o) := by rw [← hcell, Joins.cell_of_block harr]
  have hcb := h.cap.lt cb rfl
  obtain ⟨m1, m3⟩ := hcs.out w (Below.refl _ _)
  have c4 := h.vi.mb.c 4
  simp at c4
  have hjj : M.j ≤ 35184372088832 := by have := h.vi.hj; have := h.vi.tt.2.1; omega
  have HB : Hid (∀ V, Eqw (w.setCell ⟨cb, a, none⟩ (.int .i64 (M.j : Int))) V → Below N w V ∧ VC K N b l tx V M s E sF fb x (c.set a (M.j : Int)) cb cp) := by
    intro V e
    have hb : Below N w V := ((Below.refl N w).setCell (p := ⟨cb, a, none⟩) hcb.1 _).trans (e.below N)
    refine ⟨hb, h.vi.kept hb (fun k hk => (e.blk k).trans (Below.heap_setCell _ _ _ _ (fun e' => h.cn (show cb ∈ _ from by rw [← show k = cb from e']; exact hk)))), h.hK, h.ov, h.inv, h.lt, ?_, h.cn⟩
    have := row_setC h.cap a (.int .i64 (M.j : Int))
    rw [← List.map_set] at this
    exact e.row this
  have HE : Hid (∀ V W2 : World, Eqw (w.setCell ⟨cb, a, none⟩ (.int .i64 (M.j : Int))) V → W2.heap[cb]? = V.heap[cb]? → (W2.setCell ⟨cb, a, none⟩ (.int .i64 o)).heap[cb]? = w.heap[cb]?) := fun V W2 e h2 => note_back (w1 := V) harr hao (e.blk cb) h2
  have HQ : Hid (∀ V, Eqw (w.setCell ⟨cb, a, none⟩ (.int .i64 (M.j : Int))) V → V.cell? ⟨cb, a, none⟩ = some (.int .i64 (M.j : Int)) ∧ V.frozen? ⟨cb, a, none⟩ = false) := fun V e => by
    have h1 := row_setC h.cap a (.int .i64 (M.j : Int))
    have h2 := e.row h1
    refine ⟨?_, h2.frozenAt a⟩
    rw [h2.cellAt a (by omega)]
    simp [hcl, ha]
  have HH := hid h
  have HF := hid hf
  have i1 : (a : Int) < (K : Int) := by omega
  clear h hf hcl hoc hao harr
  generalize hs2 : vis (act l tx M.j) M.j f x (c.set a (M.j : Int)) s = s2
  have HS2 := hid hs2
  clear hs2
  go_enter Try.func60, Try.ntmps60
  go_upto_region 2 with fail
  go_region
  obtain ⟨V, hV⟩ : ∃ V, V = (w.setCell ⟨cb, a, none⟩ (.int .i64 (M.j : Int))).drew := ⟨_, rfl⟩
  rw [← hV]
  have e0 : Hid (Eqw (w.setCell ⟨cb, a, none⟩ (.int .i64 (M.j : Int))) V) := by rw [hV]; exact Eqw.drew _
  clear hV
  obtain ⟨hb, hvc⟩ := HB.out V e0.out
  have hb0 := hid hb
  have hvc0 := hid hvc
  obtain ⟨n1, n3⟩ := hcs.out V hb
  have HI := ih.out x (c.set a (M.j : Int)) s V M E sF fb cb cp hvc HF.out
  rw [HS2.out] at HI
  clear hb hvc m1 m3 hcell hfz c4
  go_upto_region 4 with (go_at_call 33; (with_reducible refine HI.mono ?_); rintro e w3 hvp; have HP := hid hvp; obtain ⟨rfl, M', E', sF', fb', hv', hM', hc'⟩ := hvp; have hbl := (hc'.below hvc0.out.vi.nw (fun k hk => (hvc0.out.vi.low k hk).1)); have hb3 : Below N w w3 := hb0.out.trans hbl; obtain ⟨p1, p3⟩ := hcs.out w3 hb3; have hcv := hvc0.out.cap.lt cb rfl; have hblk := hc'.block cb hcv.2 HH.out.cn; obtain ⟨q0, q1⟩ := HQ.out V e0.out; have q0 := (cell_eq hblk a).trans q0; have q1 := (frz_eq hblk a).trans q1; have HC := hid hc'; have HVI := hid hv'; have HM' := hid hM'; have HBK := hid hblk; have HB3 := hid hb3; clear hv' hM' hc' hbl hb3 hblk n1 n3 HI)
  go_wp2
  go_ret
  have hcn' : cb ∉ VF b M' E' sF' fb' := fun hm => by
    have hcl2 := (hvc0.out.cap.lt cb rfl).2
    rcases HC.out.new cb hm with h' | h'
    · exact HH.out.cn h'
    · omega
  have hb4 : Below N w (w3.setCell ⟨cb, a, none⟩ (.int .i64 o)) := HB3.out.setCell (p := ⟨cb, a, none⟩) hcb.1 _
  have hsz : V.heap.size = w.heap.size := by rw [e0.out.heap]; simp [World.setCell]
  refine ⟨rfl, M', E', sF', fb', ?_, HM'.out, ?_⟩
  · exact HVI.out.kept ((Below.refl N w3).setCell (p := ⟨cb, a, none⟩) hcb.1 _) (fun k hk => Below.heap_setCell _ _ _ _ (fun e => hcn' (by rw [← show k = cb from e]; exact hk)))
  · refine ⟨hb4.os, hb4.tape, hb4.output, hb4.size, fun k hk hn => ?_, fun k hk => by have := HC.out.new k hk; rw [hsz] at this; exact this⟩
    by_cases e : k = cb
    · subst e; exact HE.out V w3 e0.out HBK.out
    · exact (Below.heap_setCell _ _ _ _ e).trans ((HC.out.block k (by rw [hsz]; exact hk) hn).trans ((e0.out.blk k).trans (Below.heap_setCell _ _ _ _ e)))
end Go.Proofs.Ytodpmmlfdkdemaa
