/- HELPERS: an instruction's fields out of a reader. -/
import Derived.Test.YteanndophopplaaDoorGc
namespace Go.Proofs.YteanndophopplaaDoor
open Go.RowKit
set_option linter.unusedVariables false
set_option linter.unusedSimpArgs false
theorem getF_1 {α : Type} {C : Codec α} {L : Nat} {l : List α} : getF C L 1 l = (match C.get l with | none => none | some (x, l1) => match getRS C L l1 with | none => none | some (R, u) => some (⟨1, x, 0, 0, R⟩, u)) := by
  unfold getF getRS
  simp only [if_true]
  cases C.get l with
  | none => rfl
  | some p =>
    simp only
    cases C.get p.2 with
    | none => rfl
    | some q =>
      simp only
      by_cases h : L < q.1
      · rw [if_pos h, if_pos h]
      · rw [if_neg h, if_neg h]; cases getR C q.1 q.2 <;> rfl
theorem getF_2 {α : Type} {C : Codec α} {L : Nat} {l : List α} : getF C L 2 l = (match C.get l with | none => none | some (x, l1) => match C.get l1 with | none => none | some (y, u) => some (⟨2, x, y, 0, []⟩, u)) := by
  unfold getF; simp only [if_true]; rfl
theorem getF_3 {α : Type} {C : Codec α} {L : Nat} {l : List α} : getF C L 3 l = (match C.get l with | none => none | some (a, l1) => match C.get l1 with | none => none | some (x, u) => some (⟨3, x, 0, a, []⟩, u)) := by
  unfold getF; rfl
theorem getF_4 {α : Type} {C : Codec α} {L : Nat} {l : List α} : getF C L 4 l = (match C.get l with | none => none | some (a, l1) => match C.get l1 with | none => none | some (x, u) => some (⟨4, x, 0, a, []⟩, u)) := by
  unfold getF; rfl
theorem getF_5 {α : Type} {C : Codec α} {L : Nat} {l : List α} : getF C L 5 l = (match C.get l with | none => none | some (a, u) => some (⟨5, 0, 0, a, []⟩, u)) := by
  unfold getF; rfl
theorem getF_6 {α : Type} {C : Codec α} {L : Nat} {l : List α} : getF C L 6 l = some (⟨6, 0, 0, 0, []⟩, l) := by
  unfold getF; rfl
theorem getF_7 {α : Type} {C : Codec α} {L : Nat} {l : List α} : getF C L 7 l = (match C.get l with | none => none | some (x, u) => some (⟨7, x, 0, 0, []⟩, u)) := by
  unfold getF; rfl
theorem getF_no {α : Type} {C : Codec α} {L op : Nat} {l : List α} (h : op < 1 ∨ 7 < op) : getF C L op l = none := by
  unfold getF
  rw [if_neg (by omega), if_neg (by omega), if_neg (by omega), if_neg (by omega), if_neg (by omega), if_neg (by omega)]
/-- what comes of fields that are taken -/
abbrev TFP {α : Type} (RD : World → List α → Prop) (w w' : World) (e : Ending) (I : In) (u : List α) : Prop := ∃ M : Iv, e = .returned M.v ∧ M.op = I.op ∧ M.x = I.x ∧ M.y = I.y ∧ M.a = I.a ∧ M.r2 = I.R.length ∧ w'.ownsRow w.heap.size 51 2 M.rv I.R.length (O2 I.R) ∧ RD w' u
abbrev TFPost {α : Type} (rb : Nat) (RD : World → List α → Prop) (C : Codec α) (op : Nat) (l : List α) (w : World) (e : Ending) (w' : World) : Prop := Mo w w' rb ∧ ((getF C 5000 op l = none ∧ e = Broke) ∨ ∃ I u, getF C 5000 op l = some (I, u) ∧ TFP RD w w' e I u)
abbrev B5 (w : World) (b : Nat) (v0 v1 v2 v3 v4 : Value) : Prop := w.heap[b]? = some (.cells #[v0, v1, v2, v3, v4] 49 (0, 0))
theorem frz5 {w : World} {b : Nat} {v0 v1 v2 v3 v4 : Value} (h : B5 w b v0 v1 v2 v3 v4) : w.frozen? ⟨b, 0, none⟩ = false ∧ w.frozen? ⟨b, 1, none⟩ = false ∧ w.frozen? ⟨b, 2, none⟩ = false ∧ w.frozen? ⟨b, 3, none⟩ = false ∧ w.frozen? ⟨b, 4, none⟩ = false :=
  ⟨Joins.unfrozen_of_block h 0, Joins.unfrozen_of_block h 1, Joins.unfrozen_of_block h 2, Joins.unfrozen_of_block h 3, Joins.unfrozen_of_block h 4⟩
theorem B5.set1 {w : World} {b : Nat} {v0 v1 v2 v3 v4 : Value} (h : B5 w b v0 v1 v2 v3 v4) (u : Value) : B5 (w.setCell ⟨b, 1, none⟩ u) b v0 u v2 v3 v4 := Joins.block_setCell h u
theorem B5.set2 {w : World} {b : Nat} {v0 v1 v2 v3 v4 : Value} (h : B5 w b v0 v1 v2 v3 v4) (u : Value) : B5 (w.setCell ⟨b, 2, none⟩ u) b v0 v1 u v3 v4 := Joins.block_setCell h u
theorem B5.set3 {w : World} {b : Nat} {v0 v1 v2 v3 v4 : Value} (h : B5 w b v0 v1 v2 v3 v4) (u : Value) : B5 (w.setCell ⟨b, 3, none⟩ u) b v0 v1 v2 u v4 := Joins.block_setCell h u
theorem B5.set4 {w : World} {b : Nat} {v0 v1 v2 v3 v4 : Value} (h : B5 w b v0 v1 v2 v3 v4) (u : Value) : B5 (w.setCell ⟨b, 4, none⟩ u) b v0 v1 v2 v3 u := Joins.block_setCell h u
/-- five cells are written -/
theorem all5 {w : World} {b : Nat} {v0 v1 v2 v3 v4 : Value} (h : B5 w b v0 v1 v2 v3 v4) (u0 u1 u2 u3 u4 : Value) : B5 (((((w.setCell ⟨b, 0, none⟩ u0).setCell ⟨b, 1, none⟩ u1).setCell ⟨b, 2, none⟩ u2).setCell ⟨b, 3, none⟩ u3).setCell ⟨b, 4, none⟩ u4) b u0 u1 u2 u3 u4 :=
  Joins.block_setCell (Joins.block_setCell (Joins.block_setCell (Joins.block_setCell (Joins.block_setCell h u0) u1) u2) u3) u4
theorem Mo.set5 {w w' : World} {rb b : Nat} (h : Mo w w' rb) (hb : w.heap.size ≤ b) (u0 u1 u2 u3 u4 : Value) : Mo w (((((w'.setCell ⟨b, 0, none⟩ u0).setCell ⟨b, 1, none⟩ u1).setCell ⟨b, 2, none⟩ u2).setCell ⟨b, 3, none⟩ u3).setCell ⟨b, 4, none⟩ u4) rb :=
  ((((h.setNew (a := ⟨b, 0, none⟩) u0 hb).setNew (a := ⟨b, 1, none⟩) u1 hb).setNew (a := ⟨b, 2, none⟩) u2 hb).setNew (a := ⟨b, 3, none⟩) u3 hb).setNew (a := ⟨b, 4, none⟩) u4 hb
theorem set5_old {w : World} {b k : Nat} (h : k ≠ b) (u0 u1 u2 u3 u4 : Value) : (((((w.setCell ⟨b, 0, none⟩ u0).setCell ⟨b, 1, none⟩ u1).setCell ⟨b, 2, none⟩ u2).setCell ⟨b, 3, none⟩ u3).setCell ⟨b, 4, none⟩ u4).heap[k]? = w.heap[k]? := by
  rw [Below.heap_setCell _ _ _ _ h, Below.heap_setCell _ _ _ _ h, Below.heap_setCell _ _ _ _ h, Below.heap_setCell _ _ _ _ h, Below.heap_setCell _ _ _ _ h]
abbrev zI : Value := .int .i64 0
abbrev nilS : Value := .slice none 0 0
/-- where taking begins: two boxes -/
structure T0 {α : Type} (RD : World → List α → Prop) (rb : Nat) (w W : World) (op : Int) (l : List α) : Prop where
  y : B5 W w.heap.size zI zI zI zI nilS
  x : B5 W (w.heap.size + 1) (.int .i64 op) zI zI zI nilS
  mo : Mo w W rb
  rd : RD W l
  lt : rb < w.heap.size
theorem T0.mk' {α : Type} {B rb : Nat} {RD : World → List α → Prop} (hr : Rdr B rb RD) {w : World} {l : List α} (h : RD w l) (op : Int) : T0 RD rb w ((w.alloc (.cells #[zI, zI, zI, zI, nilS] 49)).alloc (.cells #[.int .i64 op, zI, zI, zI, nilS] 49)) op l := by
  have hlt := hr.lt _ _ h
  have hlow := hr.low
  refine ⟨(heap_alloc_old _ _ (by simp)).trans (heap_alloc_new _ _), ?_, (Mo.alloc _ _ _).trans (Mo.alloc _ _ _), ?_, hlt⟩
  · have := heap_alloc_new (w.alloc (.cells #[zI, zI, zI, zI, nilS] 49)) (.cells #[.int .i64 op, zI, zI, zI, nilS] 49)
    have h2 : (w.alloc (.cells #[zI, zI, zI, zI, nilS] 49)).heap.size = w.heap.size + 1 := by simp
    rw [h2] at this; exact this
  · exact hr.kept _ _ _ h ((heap_alloc_old _ _ (by simp; omega)).trans (heap_alloc_old _ _ hlt)) (fun b hb => (heap_alloc_old _ _ (by simp; omega)).trans (heap_alloc_old _ _ (by omega)))
/-- a box of instructions behind a call that turns the reader alone -/
theorem B5.mo {w w' : World} {b rb : Nat} {v0 v1 v2 v3 v4 : Value} (h : B5 w b v0 v1 v2 v3 v4) (hm : Mo w w' rb) (hb : b ≠ rb) : B5 w' b v0 v1 v2 v3 v4 := (hm.block b (Array.getElem?_eq_some_iff.1 h).1 hb).trans h
/-- a cell of another box is written -/
theorem Rdr.set {α : Type} {B rb : Nat} {RD : World → List α → Prop} (hr : Rdr B rb RD) {w : World} {l : List α} (h : RD w l) {a : Addr} (v : Value) (ha : rb < a.block) : RD (w.setCell a v) l :=
  hr.kept _ _ _ h (Below.heap_setCell _ _ _ _ (by omega)) (fun b hb => Below.heap_setCell _ _ _ _ (by have := hr.low; omega))
theorem Rdr.set5 {α : Type} {B rb : Nat} {RD : World → List α → Prop} (hr : Rdr B rb RD) {w : World} {l : List α} (h : RD w l) {b : Nat} (hb : rb < b) (u0 u1 u2 u3 u4 : Value) : RD (((((w.setCell ⟨b, 0, none⟩ u0).setCell ⟨b, 1, none⟩ u1).setCell ⟨b, 2, none⟩ u2).setCell ⟨b, 3, none⟩ u3).setCell ⟨b, 4, none⟩ u4) l :=
  hr.set (hr.set (hr.set (hr.set (hr.set h u0 hb) u1 hb) u2 hb) u3 hb) u4 hb
set_option maxRecDepth 100000 in
set_option maxHeartbeats 4000000 in
theorem take_1 {α : Type} {f B rb : Nat} {RD : World → List α → Prop} {C : Codec α} (hN : NumR f rb RD C) (hf : Enters f) (hr : Rdr B rb RD) {w : World} {l : List α} (h : RD w l) :
    Calls Tryd.prog 51 #[.int .i64 1, mv f rb] w (TFPost rb RD C 1 l w) := by
  have hT := T0.mk' hr h 1
  obtain ⟨W, hW⟩ : ∃ W, W = (w.alloc (.cells #[zI, zI, zI, zI, nilS] 49)).alloc (.cells #[.int .i64 1, zI, zI, zI, nilS] 49) := ⟨_, rfl⟩
  rw [← hW] at hT
  have HT := hid hT
  have HW := hid hW
  have hlt := hT.lt
  obtain ⟨xb, hxb⟩ : ∃ xb, w.heap.size + 1 = xb := ⟨_, rfl⟩
  have HXB := hid hxb
  have hx1 : w.heap.size < xb := by omega
  have hx2 : rb < xb := by omega
  have hnx : xb ≠ rb := by omega
  have hny : w.heap.size ≠ rb := by omega
  have hX0 : B5 W xb (.int .i64 1) zI zI zI nilS := by rw [← hxb]; exact hT.x
  cases hg1 : C.get l with
  | none =>
    have C1 := hN.none hT.rd hg1
    clear hT hW hxb h hX0
    go_enter Tryd.func51, Tryd.ntmps51
    go_upto_region 2 with fail
    rw [← HW.out, HXB.out]
    go_wp2_with (with_reducible refine C1.mono ?_; rintro e w1 ⟨rfl, hM1⟩)
    exact ⟨rfl, HT.out.mo.trans hM1, .inl ⟨by rw [getF_1, hg1], rfl⟩⟩
  | some p =>
    obtain ⟨n1, u1⟩ := p
    have C1 := hN.some hT.rd hg1
    have C2 : ∀ V, RD V u1 → _ := fun V hV => takeRanges67 (w := V) hN hf hr hV
    cases hg2 : getRS C 5000 u1 with
    | none =>
      have D : ∀ V, RD V u1 → Calls Tryd.prog 67 #[mv f rb] V fun e w' => e = Broke ∧ Mo V w' rb := fun V hV => (C2 V hV).mono (by
        rintro e w' ⟨hM, ⟨_, rfl⟩ | ⟨R, u, g, h2, _⟩⟩
        · exact ⟨rfl, hM⟩
        · rw [hg2] at h2; cases h2)
      have HX0 := hid hX0
      clear hT hW hxb h hX0
      go_enter Tryd.func51, Tryd.ntmps51
      go_upto_region 2 with fail
      rw [← HW.out, HXB.out]
      go_wp2_with (first | (with_reducible refine C1.mono ?_; rintro e w1 ⟨rfl, hR1, hM1⟩; obtain ⟨k0, k1, k2, k3, k4⟩ := five (HX0.out.mo hM1 hnx); obtain ⟨f0, f1, f2, f3, f4⟩ := frz5 (HX0.out.mo hM1 hnx); have hX1 : B5 (w1.setCell ⟨xb, 1, none⟩ (.int .i64 (n1 : Int))) xb (.int .i64 1) (.int .i64 (n1 : Int)) zI zI nilS := B5.set1 (HX0.out.mo hM1 hnx) (Value.int .i64 (n1 : Int)); have hY1 : B5 (w1.setCell ⟨xb, 1, none⟩ (.int .i64 (n1 : Int))) w.heap.size zI zI zI zI nilS := (Below.heap_setCell _ ⟨xb, 1, none⟩ _ _ (by exact Nat.ne_of_lt hx1)).trans (HT.out.y.mo hM1 hny); have hRD1 := hr.set hR1 (a := ⟨xb, 1, none⟩) (Value.int .i64 (n1 : Int)) (by exact hx2); have hMo1 : Mo w (w1.setCell ⟨xb, 1, none⟩ (.int .i64 (n1 : Int))) rb := (HT.out.mo.trans hM1).setNew (a := ⟨xb, 1, none⟩) _ (by exact Nat.le_of_lt hx1); have C3 := D _ hRD1; have HMo1 := hid hMo1; clear hX1 hY1 hRD1 hMo1; clear hR1 hM1 C1) | (go_at_call 67; with_reducible refine C3.mono ?_; rintro e w2 ⟨rfl, hM2⟩))
      exact ⟨rfl, HMo1.out.trans hM2, .inl ⟨by rw [getF_1, hg1]; simp only; rw [hg2], rfl⟩⟩
    | some p =>
      obtain ⟨R, u2⟩ := p
      have D : ∀ V, RD V u1 → Calls Tryd.prog 67 #[mv f rb] V fun e w' => Mo V w' rb ∧ ∃ g, e = .returned (.slice (some ⟨g, 0, none⟩) R.length R.length) ∧ w'.ownsRow V.heap.size 51 2 (.slice (some ⟨g, 0, none⟩) R.length R.length) R.length (O2 R) ∧ RD w' u2 := fun V hV => (C2 V hV).mono (by
        rintro e w' ⟨hM, ⟨h2, _⟩ | ⟨R', u', g, h2, rfl, h3, h4⟩⟩
        · rw [hg2] at h2; cases h2
        · rw [hg2] at h2; cases h2; exact ⟨hM, g, rfl, h3, h4⟩)
      obtain ⟨rn, hrn⟩ : ∃ rn, rn = R.length := ⟨_, rfl⟩
      rw [← hrn] at D
      have HRN := hid hrn
      clear hrn
      have HX0 := hid hX0
      clear hT hW hxb h hX0
      go_enter Tryd.func51, Tryd.ntmps51
      go_upto_region 2 with fail
      rw [← HW.out, HXB.out]
      go_wp2_with (first | (with_reducible refine C1.mono ?_; rintro e w1 ⟨rfl, hR1, hM1⟩; obtain ⟨k0, k1, k2, k3, k4⟩ := five (HX0.out.mo hM1 hnx); obtain ⟨f0, f1, f2, f3, f4⟩ := frz5 (HX0.out.mo hM1 hnx); have hX1 : B5 (w1.setCell ⟨xb, 1, none⟩ (.int .i64 (n1 : Int))) xb (.int .i64 1) (.int .i64 (n1 : Int)) zI zI nilS := B5.set1 (HX0.out.mo hM1 hnx) (Value.int .i64 (n1 : Int)); have hY1 : B5 (w1.setCell ⟨xb, 1, none⟩ (.int .i64 (n1 : Int))) w.heap.size zI zI zI zI nilS := (Below.heap_setCell _ ⟨xb, 1, none⟩ _ _ (by exact Nat.ne_of_lt hx1)).trans (HT.out.y.mo hM1 hny); have hRD1 := hr.set hR1 (a := ⟨xb, 1, none⟩) (Value.int .i64 (n1 : Int)) (by exact hx2); have hMo1 : Mo w (w1.setCell ⟨xb, 1, none⟩ (.int .i64 (n1 : Int))) rb := (HT.out.mo.trans hM1).setNew (a := ⟨xb, 1, none⟩) _ (by exact Nat.le_of_lt hx1); have C3 := D _ hRD1; have HMo1 := hid hMo1; have HX1 := hid hX1; have HY1 := hid hY1; clear hX1 hY1 hRD1 hMo1; clear hR1 hM1 C1) | (go_at_call 67; with_reducible refine C3.mono ?_; rintro e w2 ⟨hM2, g, rfl, hrow, hR2⟩; obtain ⟨k0, k1, k2, k3, k4⟩ := five (HX1.out.mo hM2 hnx); obtain ⟨f0, f1, f2, f3, f4⟩ := frz5 (HX1.out.mo hM2 hnx); have hX2 : B5 (w2.setCell ⟨xb, 4, none⟩ (.slice (some ⟨g, 0, none⟩) rn rn)) xb (.int .i64 1) (.int .i64 (n1 : Int)) zI zI (.slice (some ⟨g, 0, none⟩) rn rn) := B5.set4 (HX1.out.mo hM2 hnx) (.slice (some ⟨g, 0, none⟩) rn rn); have hY2 : B5 (w2.setCell ⟨xb, 4, none⟩ (.slice (some ⟨g, 0, none⟩) rn rn)) w.heap.size zI zI zI zI nilS := (Below.heap_setCell _ ⟨xb, 4, none⟩ _ _ (by exact Nat.ne_of_lt hx1)).trans (HY1.out.mo hM2 hny); obtain ⟨e0, e1, e2, e3, e4⟩ := five hX2; obtain ⟨g0, g1, g2, g3, g4⟩ := frz5 hY2; obtain ⟨q0, q1, q2, q3, q4⟩ := five hY2; have HYF := hid hY2; have HRF := hid (hr.set hR2 (a := ⟨xb, 4, none⟩) (.slice (some ⟨g, 0, none⟩) rn rn) (by exact hx2)); have HMF := hid ((HMo1.out.trans hM2).setNew (a := ⟨xb, 4, none⟩) (.slice (some ⟨g, 0, none⟩) rn rn) (by exact Nat.le_of_lt hx1)); have HROW := hid hrow; have HSZ := hid HMo1.out.size; have hgx : g ≠ xb := (by have a := (hrow.lt g rfl).1; have b := (Array.getElem?_eq_some_iff.1 HX1.out).1; omega); have hgy : g ≠ w.heap.size := (by have a := (hrow.lt g rfl).1; have b := (Array.getElem?_eq_some_iff.1 HX1.out).1; omega); have hwg : w.heap.size ≤ g := (by have a := (hrow.lt g rfl).1; have b := (Array.getElem?_eq_some_iff.1 HX1.out).1; omega); clear hrow; clear hX2 hY2 hR2 hM2 C3))
      all_goals
        refine bodyPost_ret (results_cell_row rfl _ _ w.heap.size 49 _ (0, 0) _ rfl (all5 HYF.out _ _ _ _ _) Tryd.underlying49 rfl (by kernel_rfl)) rfl ?_
        refine ⟨HMF.out.set5 (Nat.le_refl _) _ _ _ _ _, .inr ⟨⟨1, n1, 0, 0, R⟩, u2, by rw [getF_1, hg1]; simp only; rw [hg2], ⟨1, n1, 0, 0, some ⟨g, 0, none⟩, rn, rn⟩, rfl, rfl, rfl, rfl, rfl, HRN.out, ?_, hr.set5 HRF.out hlt _ _ _ _ _⟩⟩
        rw [← HRN.out]
        refine own_wide (row_kept HROW.out (fun b e => ?_)) HSZ.out
        simp [Value.ownBlock] at e
        subst e
        rw [set5_old hgy]
        exact Below.heap_setCell _ _ _ _ hgx
set_option maxRecDepth 100000 in
set_option maxHeartbeats 4000000 in
theorem take_2 {α : Type} {f B rb : Nat} {RD : World → List α → Prop} {C : Codec α} (hN : NumR f rb RD C) (hf : Enters f) (hr : Rdr B rb RD) {w : World} {l : List α} (h : RD w l) :
    Calls Tryd.prog 51 #[.int .i64 2, mv f rb] w (TFPost rb RD C 2 l w) := by
  have hT := T0.mk' hr h 2
  obtain ⟨W, hW⟩ : ∃ W, W = (w.alloc (.cells #[zI, zI, zI, zI, nilS] 49)).alloc (.cells #[.int .i64 2, zI, zI, zI, nilS] 49) := ⟨_, rfl⟩
  rw [← hW] at hT
  have HT := hid hT
  have HW := hid hW
  have hlt := hT.lt
  obtain ⟨xb, hxb⟩ : ∃ xb, w.heap.size + 1 = xb := ⟨_, rfl⟩
  have HXB := hid hxb
  have hx1 : w.heap.size < xb := by omega
  have hx2 : rb < xb := by omega
  have hnx : xb ≠ rb := by omega
  have hny : w.heap.size ≠ rb := by omega
  have hX0 : B5 W xb (.int .i64 2) zI zI zI nilS := by rw [← hxb]; exact hT.x
  cases hg1 : C.get l with
  | none =>
    have C1 := hN.none hT.rd hg1
    clear hT hW hxb h hX0
    go_enter Tryd.func51, Tryd.ntmps51
    go_upto_region 2 with fail
    rw [← HW.out, HXB.out]
    go_wp2_with (with_reducible refine C1.mono ?_; rintro e w1 ⟨rfl, hM1⟩)
    exact ⟨rfl, HT.out.mo.trans hM1, .inl ⟨by rw [getF_2, hg1], rfl⟩⟩
  | some p =>
    obtain ⟨n1, u1⟩ := p
    have C1 := hN.some hT.rd hg1
    cases hg2 : C.get u1 with
    | none =>
      have D : ∀ V, RD V u1 → Calls Tryd.prog f #[pt rb] V fun e w' => e = Broke ∧ Mo V w' rb := fun V hV => hN.none hV hg2
      have HX0 := hid hX0
      clear hT hW hxb h hX0
      go_enter Tryd.func51, Tryd.ntmps51
      go_upto_region 2 with fail
      rw [← HW.out, HXB.out]
      go_wp2_with (first | (with_reducible refine C1.mono ?_; rintro e w1 ⟨rfl, hR1, hM1⟩; obtain ⟨k0, k1, k2, k3, k4⟩ := five (HX0.out.mo hM1 hnx); obtain ⟨f0, f1, f2, f3, f4⟩ := frz5 (HX0.out.mo hM1 hnx); have hX1 : B5 (w1.setCell ⟨xb, 1, none⟩ (.int .i64 (n1 : Int))) xb (.int .i64 2) (.int .i64 (n1 : Int)) zI zI nilS := B5.set1 (HX0.out.mo hM1 hnx) (Value.int .i64 (n1 : Int)); have hY1 : B5 (w1.setCell ⟨xb, 1, none⟩ (.int .i64 (n1 : Int))) w.heap.size zI zI zI zI nilS := (Below.heap_setCell _ ⟨xb, 1, none⟩ _ _ (by exact Nat.ne_of_lt hx1)).trans (HT.out.y.mo hM1 hny); have hRD1 := hr.set hR1 (a := ⟨xb, 1, none⟩) (Value.int .i64 (n1 : Int)) (by exact hx2); have hMo1 : Mo w (w1.setCell ⟨xb, 1, none⟩ (.int .i64 (n1 : Int))) rb := (HT.out.mo.trans hM1).setNew (a := ⟨xb, 1, none⟩) _ (by exact Nat.le_of_lt hx1); have C3 := D _ hRD1; have HMo1 := hid hMo1; clear hX1 hY1 hRD1 hMo1; clear hR1 hM1 C1) | (with_reducible refine C3.mono ?_; rintro e w2 ⟨rfl, hM2⟩))
      exact ⟨rfl, HMo1.out.trans hM2, .inl ⟨by rw [getF_2, hg1]; simp only; rw [hg2], rfl⟩⟩
    | some p =>
      obtain ⟨n2, u2⟩ := p
      have D : ∀ V, RD V u1 → Calls Tryd.prog f #[pt rb] V fun e w' => e = .returned (.int .i64 (n2 : Int)) ∧ RD w' u2 ∧ Mo V w' rb := fun V hV => hN.some hV hg2
      have HX0 := hid hX0
      clear hT hW hxb h hX0
      go_enter Tryd.func51, Tryd.ntmps51
      go_upto_region 2 with fail
      rw [← HW.out, HXB.out]
      go_wp2_with (first | (with_reducible refine C1.mono ?_; rintro e w1 ⟨rfl, hR1, hM1⟩; obtain ⟨k0, k1, k2, k3, k4⟩ := five (HX0.out.mo hM1 hnx); obtain ⟨f0, f1, f2, f3, f4⟩ := frz5 (HX0.out.mo hM1 hnx); have hX1 : B5 (w1.setCell ⟨xb, 1, none⟩ (.int .i64 (n1 : Int))) xb (.int .i64 2) (.int .i64 (n1 : Int)) zI zI nilS := B5.set1 (HX0.out.mo hM1 hnx) (Value.int .i64 (n1 : Int)); have hY1 : B5 (w1.setCell ⟨xb, 1, none⟩ (.int .i64 (n1 : Int))) w.heap.size zI zI zI zI nilS := (Below.heap_setCell _ ⟨xb, 1, none⟩ _ _ (by exact Nat.ne_of_lt hx1)).trans (HT.out.y.mo hM1 hny); have hRD1 := hr.set hR1 (a := ⟨xb, 1, none⟩) (Value.int .i64 (n1 : Int)) (by exact hx2); have hMo1 : Mo w (w1.setCell ⟨xb, 1, none⟩ (.int .i64 (n1 : Int))) rb := (HT.out.mo.trans hM1).setNew (a := ⟨xb, 1, none⟩) _ (by exact Nat.le_of_lt hx1); have C3 := D _ hRD1; have HMo1 := hid hMo1; have HX1 := hid hX1; have HY1 := hid hY1; clear hX1 hY1 hRD1 hMo1; clear hR1 hM1 C1) | (with_reducible refine C3.mono ?_; rintro e w2 ⟨rfl, hR2, hM2⟩; obtain ⟨k0, k1, k2, k3, k4⟩ := five (HX1.out.mo hM2 hnx); obtain ⟨f0, f1, f2, f3, f4⟩ := frz5 (HX1.out.mo hM2 hnx); have hX2 : B5 (w2.setCell ⟨xb, 2, none⟩ (.int .i64 (n2 : Int))) xb (.int .i64 2) (.int .i64 (n1 : Int)) (.int .i64 (n2 : Int)) zI nilS := B5.set2 (HX1.out.mo hM2 hnx) (.int .i64 (n2 : Int)); have hY2 : B5 (w2.setCell ⟨xb, 2, none⟩ (.int .i64 (n2 : Int))) w.heap.size zI zI zI zI nilS := (Below.heap_setCell _ ⟨xb, 2, none⟩ _ _ (by exact Nat.ne_of_lt hx1)).trans (HY1.out.mo hM2 hny); obtain ⟨e0, e1, e2, e3, e4⟩ := five hX2; obtain ⟨g0, g1, g2, g3, g4⟩ := frz5 hY2; obtain ⟨q0, q1, q2, q3, q4⟩ := five hY2; have HYF := hid hY2; have HRF := hid (hr.set hR2 (a := ⟨xb, 2, none⟩) (.int .i64 (n2 : Int)) (by exact hx2)); have HMF := hid ((HMo1.out.trans hM2).setNew (a := ⟨xb, 2, none⟩) (.int .i64 (n2 : Int)) (by exact Nat.le_of_lt hx1));  clear hX2 hY2 hR2 hM2 C3))
      all_goals
        refine bodyPost_ret (results_cell_row rfl _ _ w.heap.size 49 _ (0, 0) _ rfl (all5 HYF.out _ _ _ _ _) Tryd.underlying49 rfl (by kernel_rfl)) rfl ?_
        refine ⟨HMF.out.set5 (Nat.le_refl _) _ _ _ _ _, .inr ⟨⟨2, n1, n2, 0, []⟩, u2, by rw [getF_2, hg1]; simp only; rw [hg2], ⟨2, n1, n2, 0, none, 0, 0⟩, rfl, rfl, rfl, rfl, rfl, rfl, World.ownsRow_nil _ _ _ _, hr.set5 HRF.out hlt _ _ _ _ _⟩⟩
set_option maxRecDepth 100000 in
set_option maxHeartbeats 4000000 in
theorem take_3 {α : Type} {f B rb : Nat} {RD : World → List α → Prop} {C : Codec α} (hN : NumR f rb RD C) (hf : Enters f) (hr : Rdr B rb RD) {w : World} {l : List α} (h : RD w l) :
    Calls Tryd.prog 51 #[.int .i64 3, mv f rb] w (TFPost rb RD C 3 l w) := by
  have hT := T0.mk' hr h 3
  obtain ⟨W, hW⟩ : ∃ W, W = (w.alloc (.cells #[zI, zI, zI, zI, nilS] 49)).alloc (.cells #[.int .i64 3, zI, zI, zI, nilS] 49) := ⟨_, rfl⟩
  rw [← hW] at hT
  have HT := hid hT
  have HW := hid hW
  have hlt := hT.lt
  obtain ⟨xb, hxb⟩ : ∃ xb, w.heap.size + 1 = xb := ⟨_, rfl⟩
  have HXB := hid hxb
  have hx1 : w.heap.size < xb := by omega
  have hx2 : rb < xb := by omega
  have hnx : xb ≠ rb := by omega
  have hny : w.heap.size ≠ rb := by omega
  have hX0 : B5 W xb (.int .i64 3) zI zI zI nilS := by rw [← hxb]; exact hT.x
  cases hg1 : C.get l with
  | none =>
    have C1 := hN.none hT.rd hg1
    clear hT hW hxb h hX0
    go_enter Tryd.func51, Tryd.ntmps51
    go_upto_region 2 with fail
    rw [← HW.out, HXB.out]
    go_wp2_with (with_reducible refine C1.mono ?_; rintro e w1 ⟨rfl, hM1⟩)
    exact ⟨rfl, HT.out.mo.trans hM1, .inl ⟨by rw [getF_3, hg1], rfl⟩⟩
  | some p =>
    obtain ⟨n1, u1⟩ := p
    have C1 := hN.some hT.rd hg1
    cases hg2 : C.get u1 with
    | none =>
      have D : ∀ V, RD V u1 → Calls Tryd.prog f #[pt rb] V fun e w' => e = Broke ∧ Mo V w' rb := fun V hV => hN.none hV hg2
      have HX0 := hid hX0
      clear hT hW hxb h hX0
      go_enter Tryd.func51, Tryd.ntmps51
      go_upto_region 2 with fail
      rw [← HW.out, HXB.out]
      go_wp2_with (first | (with_reducible refine C1.mono ?_; rintro e w1 ⟨rfl, hR1, hM1⟩; obtain ⟨k0, k1, k2, k3, k4⟩ := five (HX0.out.mo hM1 hnx); obtain ⟨f0, f1, f2, f3, f4⟩ := frz5 (HX0.out.mo hM1 hnx); have hX1 : B5 (w1.setCell ⟨xb, 3, none⟩ (.int .i64 (n1 : Int))) xb (.int .i64 3) zI zI (.int .i64 (n1 : Int)) nilS := B5.set3 (HX0.out.mo hM1 hnx) (Value.int .i64 (n1 : Int)); have hY1 : B5 (w1.setCell ⟨xb, 3, none⟩ (.int .i64 (n1 : Int))) w.heap.size zI zI zI zI nilS := (Below.heap_setCell _ ⟨xb, 3, none⟩ _ _ (by exact Nat.ne_of_lt hx1)).trans (HT.out.y.mo hM1 hny); have hRD1 := hr.set hR1 (a := ⟨xb, 3, none⟩) (Value.int .i64 (n1 : Int)) (by exact hx2); have hMo1 : Mo w (w1.setCell ⟨xb, 3, none⟩ (.int .i64 (n1 : Int))) rb := (HT.out.mo.trans hM1).setNew (a := ⟨xb, 3, none⟩) _ (by exact Nat.le_of_lt hx1); have C3 := D _ hRD1; have HMo1 := hid hMo1; clear hX1 hY1 hRD1 hMo1; clear hR1 hM1 C1) | (with_reducible refine C3.mono ?_; rintro e w2 ⟨rfl, hM2⟩))
      exact ⟨rfl, HMo1.out.trans hM2, .inl ⟨by rw [getF_3, hg1]; simp only; rw [hg2], rfl⟩⟩
    | some p =>
      obtain ⟨n2, u2⟩ := p
      have D : ∀ V, RD V u1 → Calls Tryd.prog f #[pt rb] V fun e w' => e = .returned (.int .i64 (n2 : Int)) ∧ RD w' u2 ∧ Mo V w' rb := fun V hV => hN.some hV hg2
      have HX0 := hid hX0
      clear hT hW hxb h hX0
      go_enter Tryd.func51, Tryd.ntmps51
      go_upto_region 2 with fail
      rw [← HW.out, HXB.out]
      go_wp2_with (first | (with_reducible refine C1.mono ?_; rintro e w1 ⟨rfl, hR1, hM1⟩; obtain ⟨k0, k1, k2, k3, k4⟩ := five (HX0.out.mo hM1 hnx); obtain ⟨f0, f1, f2, f3, f4⟩ := frz5 (HX0.out.mo hM1 hnx); have hX1 : B5 (w1.setCell ⟨xb, 3, none⟩ (.int .i64 (n1 : Int))) xb (.int .i64 3) zI zI (.int .i64 (n1 : Int)) nilS := B5.set3 (HX0.out.mo hM1 hnx) (Value.int .i64 (n1 : Int)); have hY1 : B5 (w1.setCell ⟨xb, 3, none⟩ (.int .i64 (n1 : Int))) w.heap.size zI zI zI zI nilS := (Below.heap_setCell _ ⟨xb, 3, none⟩ _ _ (by exact Nat.ne_of_lt hx1)).trans (HT.out.y.mo hM1 hny); have hRD1 := hr.set hR1 (a := ⟨xb, 3, none⟩) (Value.int .i64 (n1 : Int)) (by exact hx2); have hMo1 : Mo w (w1.setCell ⟨xb, 3, none⟩ (.int .i64 (n1 : Int))) rb := (HT.out.mo.trans hM1).setNew (a := ⟨xb, 3, none⟩) _ (by exact Nat.le_of_lt hx1); have C3 := D _ hRD1; have HMo1 := hid hMo1; have HX1 := hid hX1; have HY1 := hid hY1; clear hX1 hY1 hRD1 hMo1; clear hR1 hM1 C1) | (with_reducible refine C3.mono ?_; rintro e w2 ⟨rfl, hR2, hM2⟩; obtain ⟨k0, k1, k2, k3, k4⟩ := five (HX1.out.mo hM2 hnx); obtain ⟨f0, f1, f2, f3, f4⟩ := frz5 (HX1.out.mo hM2 hnx); have hX2 : B5 (w2.setCell ⟨xb, 1, none⟩ (.int .i64 (n2 : Int))) xb (.int .i64 3) (.int .i64 (n2 : Int)) zI (.int .i64 (n1 : Int)) nilS := B5.set1 (HX1.out.mo hM2 hnx) (.int .i64 (n2 : Int)); have hY2 : B5 (w2.setCell ⟨xb, 1, none⟩ (.int .i64 (n2 : Int))) w.heap.size zI zI zI zI nilS := (Below.heap_setCell _ ⟨xb, 1, none⟩ _ _ (by exact Nat.ne_of_lt hx1)).trans (HY1.out.mo hM2 hny); obtain ⟨e0, e1, e2, e3, e4⟩ := five hX2; obtain ⟨g0, g1, g2, g3, g4⟩ := frz5 hY2; obtain ⟨q0, q1, q2, q3, q4⟩ := five hY2; have HYF := hid hY2; have HRF := hid (hr.set hR2 (a := ⟨xb, 1, none⟩) (.int .i64 (n2 : Int)) (by exact hx2)); have HMF := hid ((HMo1.out.trans hM2).setNew (a := ⟨xb, 1, none⟩) (.int .i64 (n2 : Int)) (by exact Nat.le_of_lt hx1));  clear hX2 hY2 hR2 hM2 C3))
      all_goals
        refine bodyPost_ret (results_cell_row rfl _ _ w.heap.size 49 _ (0, 0) _ rfl (all5 HYF.out _ _ _ _ _) Tryd.underlying49 rfl (by kernel_rfl)) rfl ?_
        refine ⟨HMF.out.set5 (Nat.le_refl _) _ _ _ _ _, .inr ⟨⟨3, n2, 0, n1, []⟩, u2, by rw [getF_3, hg1]; simp only; rw [hg2], ⟨3, n2, 0, n1, none, 0, 0⟩, rfl, rfl, rfl, rfl, rfl, rfl, World.ownsRow_nil _ _ _ _, hr.set5 HRF.out hlt _ _ _ _ _⟩⟩
set_option maxRecDepth 100000 in
set_option maxHeartbeats 4000000 in
theorem take_4 {α : Type} {f B rb : Nat} {RD : World → List α → Prop} {C : Codec α} (hN : NumR f rb RD C) (hf : Enters f) (hr : Rdr B rb RD) {w : World} {l : List α} (h : RD w l) :
    Calls Tryd.prog 51 #[.int .i64 4, mv f rb] w (TFPost rb RD C 4 l w) := by
  have hT := T0.mk' hr h 4
  obtain ⟨W, hW⟩ : ∃ W, W = (w.alloc (.cells #[zI, zI, zI, zI, nilS] 49)).alloc (.cells #[.int .i64 4, zI, zI, zI, nilS] 49) := ⟨_, rfl⟩
  rw [← hW] at hT
  have HT := hid hT
  have HW := hid hW
  have hlt := hT.lt
  obtain ⟨xb, hxb⟩ : ∃ xb, w.heap.size + 1 = xb := ⟨_, rfl⟩
  have HXB := hid hxb
  have hx1 : w.heap.size < xb := by omega
  have hx2 : rb < xb := by omega
  have hnx : xb ≠ rb := by omega
  have hny : w.heap.size ≠ rb := by omega
  have hX0 : B5 W xb (.int .i64 4) zI zI zI nilS := by rw [← hxb]; exact hT.x
  cases hg1 : C.get l with
  | none =>
    have C1 := hN.none hT.rd hg1
    clear hT hW hxb h hX0
    go_enter Tryd.func51, Tryd.ntmps51
    go_upto_region 2 with fail
    rw [← HW.out, HXB.out]
    go_wp2_with (with_reducible refine C1.mono ?_; rintro e w1 ⟨rfl, hM1⟩)
    exact ⟨rfl, HT.out.mo.trans hM1, .inl ⟨by rw [getF_4, hg1], rfl⟩⟩
  | some p =>
    obtain ⟨n1, u1⟩ := p
    have C1 := hN.some hT.rd hg1
    cases hg2 : C.get u1 with
    | none =>
      have D : ∀ V, RD V u1 → Calls Tryd.prog f #[pt rb] V fun e w' => e = Broke ∧ Mo V w' rb := fun V hV => hN.none hV hg2
      have HX0 := hid hX0
      clear hT hW hxb h hX0
      go_enter Tryd.func51, Tryd.ntmps51
      go_upto_region 2 with fail
      rw [← HW.out, HXB.out]
      go_wp2_with (first | (with_reducible refine C1.mono ?_; rintro e w1 ⟨rfl, hR1, hM1⟩; obtain ⟨k0, k1, k2, k3, k4⟩ := five (HX0.out.mo hM1 hnx); obtain ⟨f0, f1, f2, f3, f4⟩ := frz5 (HX0.out.mo hM1 hnx); have hX1 : B5 (w1.setCell ⟨xb, 3, none⟩ (.int .i64 (n1 : Int))) xb (.int .i64 4) zI zI (.int .i64 (n1 : Int)) nilS := B5.set3 (HX0.out.mo hM1 hnx) (Value.int .i64 (n1 : Int)); have hY1 : B5 (w1.setCell ⟨xb, 3, none⟩ (.int .i64 (n1 : Int))) w.heap.size zI zI zI zI nilS := (Below.heap_setCell _ ⟨xb, 3, none⟩ _ _ (by exact Nat.ne_of_lt hx1)).trans (HT.out.y.mo hM1 hny); have hRD1 := hr.set hR1 (a := ⟨xb, 3, none⟩) (Value.int .i64 (n1 : Int)) (by exact hx2); have hMo1 : Mo w (w1.setCell ⟨xb, 3, none⟩ (.int .i64 (n1 : Int))) rb := (HT.out.mo.trans hM1).setNew (a := ⟨xb, 3, none⟩) _ (by exact Nat.le_of_lt hx1); have C3 := D _ hRD1; have HMo1 := hid hMo1; clear hX1 hY1 hRD1 hMo1; clear hR1 hM1 C1) | (with_reducible refine C3.mono ?_; rintro e w2 ⟨rfl, hM2⟩))
      exact ⟨rfl, HMo1.out.trans hM2, .inl ⟨by rw [getF_4, hg1]; simp only; rw [hg2], rfl⟩⟩
    | some p =>
      obtain ⟨n2, u2⟩ := p
      have D : ∀ V, RD V u1 → Calls Tryd.prog f #[pt rb] V fun e w' => e = .returned (.int .i64 (n2 : Int)) ∧ RD w' u2 ∧ Mo V w' rb := fun V hV => hN.some hV hg2
      have HX0 := hid hX0
      clear hT hW hxb h hX0
      go_enter Tryd.func51, Tryd.ntmps51
      go_upto_region 2 with fail
      rw [← HW.out, HXB.out]
      go_wp2_with (first | (with_reducible refine C1.mono ?_; rintro e w1 ⟨rfl, hR1, hM1⟩; obtain ⟨k0, k1, k2, k3, k4⟩ := five (HX0.out.mo hM1 hnx); obtain ⟨f0, f1, f2, f3, f4⟩ := frz5 (HX0.out.mo hM1 hnx); have hX1 : B5 (w1.setCell ⟨xb, 3, none⟩ (.int .i64 (n1 : Int))) xb (.int .i64 4) zI zI (.int .i64 (n1 : Int)) nilS := B5.set3 (HX0.out.mo hM1 hnx) (Value.int .i64 (n1 : Int)); have hY1 : B5 (w1.setCell ⟨xb, 3, none⟩ (.int .i64 (n1 : Int))) w.heap.size zI zI zI zI nilS := (Below.heap_setCell _ ⟨xb, 3, none⟩ _ _ (by exact Nat.ne_of_lt hx1)).trans (HT.out.y.mo hM1 hny); have hRD1 := hr.set hR1 (a := ⟨xb, 3, none⟩) (Value.int .i64 (n1 : Int)) (by exact hx2); have hMo1 : Mo w (w1.setCell ⟨xb, 3, none⟩ (.int .i64 (n1 : Int))) rb := (HT.out.mo.trans hM1).setNew (a := ⟨xb, 3, none⟩) _ (by exact Nat.le_of_lt hx1); have C3 := D _ hRD1; have HMo1 := hid hMo1; have HX1 := hid hX1; have HY1 := hid hY1; clear hX1 hY1 hRD1 hMo1; clear hR1 hM1 C1) | (with_reducible refine C3.mono ?_; rintro e w2 ⟨rfl, hR2, hM2⟩; obtain ⟨k0, k1, k2, k3, k4⟩ := five (HX1.out.mo hM2 hnx); obtain ⟨f0, f1, f2, f3, f4⟩ := frz5 (HX1.out.mo hM2 hnx); have hX2 : B5 (w2.setCell ⟨xb, 1, none⟩ (.int .i64 (n2 : Int))) xb (.int .i64 4) (.int .i64 (n2 : Int)) zI (.int .i64 (n1 : Int)) nilS := B5.set1 (HX1.out.mo hM2 hnx) (.int .i64 (n2 : Int)); have hY2 : B5 (w2.setCell ⟨xb, 1, none⟩ (.int .i64 (n2 : Int))) w.heap.size zI zI zI zI nilS := (Below.heap_setCell _ ⟨xb, 1, none⟩ _ _ (by exact Nat.ne_of_lt hx1)).trans (HY1.out.mo hM2 hny); obtain ⟨e0, e1, e2, e3, e4⟩ := five hX2; obtain ⟨g0, g1, g2, g3, g4⟩ := frz5 hY2; obtain ⟨q0, q1, q2, q3, q4⟩ := five hY2; have HYF := hid hY2; have HRF := hid (hr.set hR2 (a := ⟨xb, 1, none⟩) (.int .i64 (n2 : Int)) (by exact hx2)); have HMF := hid ((HMo1.out.trans hM2).setNew (a := ⟨xb, 1, none⟩) (.int .i64 (n2 : Int)) (by exact Nat.le_of_lt hx1));  clear hX2 hY2 hR2 hM2 C3))
      all_goals
        refine bodyPost_ret (results_cell_row rfl _ _ w.heap.size 49 _ (0, 0) _ rfl (all5 HYF.out _ _ _ _ _) Tryd.underlying49 rfl (by kernel_rfl)) rfl ?_
        refine ⟨HMF.out.set5 (Nat.le_refl _) _ _ _ _ _, .inr ⟨⟨4, n2, 0, n1, []⟩, u2, by rw [getF_4, hg1]; simp only; rw [hg2], ⟨4, n2, 0, n1, none, 0, 0⟩, rfl, rfl, rfl, rfl, rfl, rfl, World.ownsRow_nil _ _ _ _, hr.set5 HRF.out hlt _ _ _ _ _⟩⟩
set_option maxRecDepth 100000 in
set_option maxHeartbeats 4000000 in
theorem take_5 {α : Type} {f B rb : Nat} {RD : World → List α → Prop} {C : Codec α} (hN : NumR f rb RD C) (hf : Enters f) (hr : Rdr B rb RD) {w : World} {l : List α} (h : RD w l) :
    Calls Tryd.prog 51 #[.int .i64 5, mv f rb] w (TFPost rb RD C 5 l w) := by
  have hT := T0.mk' hr h 5
  obtain ⟨W, hW⟩ : ∃ W, W = (w.alloc (.cells #[zI, zI, zI, zI, nilS] 49)).alloc (.cells #[.int .i64 5, zI, zI, zI, nilS] 49) := ⟨_, rfl⟩
  rw [← hW] at hT
  have HT := hid hT
  have HW := hid hW
  have hlt := hT.lt
  obtain ⟨xb, hxb⟩ : ∃ xb, w.heap.size + 1 = xb := ⟨_, rfl⟩
  have HXB := hid hxb
  have hx1 : w.heap.size < xb := by omega
  have hx2 : rb < xb := by omega
  have hnx : xb ≠ rb := by omega
  have hny : w.heap.size ≠ rb := by omega
  have hX0 : B5 W xb (.int .i64 5) zI zI zI nilS := by rw [← hxb]; exact hT.x
  cases hg1 : C.get l with
  | none =>
    have C1 := hN.none hT.rd hg1
    clear hT hW hxb h hX0
    go_enter Tryd.func51, Tryd.ntmps51
    go_upto_region 2 with fail
    rw [← HW.out, HXB.out]
    go_wp2_with (with_reducible refine C1.mono ?_; rintro e w1 ⟨rfl, hM1⟩)
    exact ⟨rfl, HT.out.mo.trans hM1, .inl ⟨by rw [getF_5, hg1], rfl⟩⟩
  | some p =>
    obtain ⟨n1, u1⟩ := p
    have C1 := hN.some hT.rd hg1
    have HX0 := hid hX0
    clear hT hW hxb h hX0
    go_enter Tryd.func51, Tryd.ntmps51
    go_upto_region 2 with fail
    rw [← HW.out, HXB.out]
    go_wp2_with (with_reducible refine C1.mono ?_; rintro e w1 ⟨rfl, hR1, hM1⟩; obtain ⟨k0, k1, k2, k3, k4⟩ := five (HX0.out.mo hM1 hnx); obtain ⟨f0, f1, f2, f3, f4⟩ := frz5 (HX0.out.mo hM1 hnx); have hX1 : B5 (w1.setCell ⟨xb, 3, none⟩ (.int .i64 (n1 : Int))) xb (.int .i64 5) zI zI (.int .i64 (n1 : Int)) nilS := B5.set3 (HX0.out.mo hM1 hnx) (Value.int .i64 (n1 : Int)); have hY1 : B5 (w1.setCell ⟨xb, 3, none⟩ (.int .i64 (n1 : Int))) w.heap.size zI zI zI zI nilS := (Below.heap_setCell _ ⟨xb, 3, none⟩ _ _ (by exact Nat.ne_of_lt hx1)).trans (HT.out.y.mo hM1 hny); have hRD1 := hr.set hR1 (a := ⟨xb, 3, none⟩) (Value.int .i64 (n1 : Int)) (by exact hx2); have hMo1 : Mo w (w1.setCell ⟨xb, 3, none⟩ (.int .i64 (n1 : Int))) rb := (HT.out.mo.trans hM1).setNew (a := ⟨xb, 3, none⟩) _ (by exact Nat.le_of_lt hx1); obtain ⟨e0, e1, e2, e3, e4⟩ := five hX1; obtain ⟨g0, g1, g2, g3, g4⟩ := frz5 hY1; obtain ⟨q0, q1, q2, q3, q4⟩ := five hY1; have HYF := hid hY1; have HMF := hid hMo1; have HRF := hid hRD1; clear hX1 hY1 hRD1 hMo1; clear hR1 hM1 C1)
    all_goals
      refine bodyPost_ret (results_cell_row rfl _ _ w.heap.size 49 _ (0, 0) _ rfl (all5 HYF.out _ _ _ _ _) Tryd.underlying49 rfl (by kernel_rfl)) rfl ?_
      refine ⟨HMF.out.set5 (Nat.le_refl _) _ _ _ _ _, .inr ⟨⟨5, 0, 0, n1, []⟩, u1, by rw [getF_5, hg1], ⟨5, 0, 0, n1, none, 0, 0⟩, rfl, rfl, rfl, rfl, rfl, rfl, World.ownsRow_nil _ _ _ _, hr.set5 HRF.out hlt _ _ _ _ _⟩⟩
set_option maxRecDepth 100000 in
set_option maxHeartbeats 4000000 in
theorem take_6 {α : Type} {f B rb : Nat} {RD : World → List α → Prop} {C : Codec α} (hN : NumR f rb RD C) (hf : Enters f) (hr : Rdr B rb RD) {w : World} {l : List α} (h : RD w l) :
    Calls Tryd.prog 51 #[.int .i64 6, mv f rb] w (TFPost rb RD C 6 l w) := by
  have hT := T0.mk' hr h 6
  obtain ⟨W, hW⟩ : ∃ W, W = (w.alloc (.cells #[zI, zI, zI, zI, nilS] 49)).alloc (.cells #[.int .i64 6, zI, zI, zI, nilS] 49) := ⟨_, rfl⟩
  rw [← hW] at hT
  have HT := hid hT
  have HW := hid hW
  have hlt := hT.lt
  obtain ⟨xb, hxb⟩ : ∃ xb, w.heap.size + 1 = xb := ⟨_, rfl⟩
  have HXB := hid hxb
  have hx1 : w.heap.size < xb := by omega
  have hx2 : rb < xb := by omega
  have hnx : xb ≠ rb := by omega
  have hny : w.heap.size ≠ rb := by omega
  have hX0 : B5 W xb (.int .i64 6) zI zI zI nilS := by rw [← hxb]; exact hT.x
  have HYF := hid hT.y
  have HMF := hid hT.mo
  have HRF := hid hT.rd
  obtain ⟨e0, e1, e2, e3, e4⟩ := five hX0
  obtain ⟨g0, g1, g2, g3, g4⟩ := frz5 hT.y
  obtain ⟨q0, q1, q2, q3, q4⟩ := five hT.y
  clear hT hW hxb h hX0
  go_enter Tryd.func51, Tryd.ntmps51
  go_upto_region 2 with fail
  rw [← HW.out, HXB.out]
  go_wp2
  all_goals
    refine bodyPost_ret (results_cell_row rfl _ _ w.heap.size 49 _ (0, 0) _ rfl (all5 HYF.out _ _ _ _ _) Tryd.underlying49 rfl (by kernel_rfl)) rfl ?_
    refine ⟨HMF.out.set5 (Nat.le_refl _) _ _ _ _ _, .inr ⟨⟨6, 0, 0, 0, []⟩, l, by rw [getF_6], ⟨6, 0, 0, 0, none, 0, 0⟩, rfl, rfl, rfl, rfl, rfl, rfl, World.ownsRow_nil _ _ _ _, hr.set5 HRF.out hlt _ _ _ _ _⟩⟩
set_option maxRecDepth 100000 in
set_option maxHeartbeats 4000000 in
theorem take_7 {α : Type} {f B rb : Nat} {RD : World → List α → Prop} {C : Codec α} (hN : NumR f rb RD C) (hf : Enters f) (hr : Rdr B rb RD) {w : World} {l : List α} (h : RD w l) :
    Calls Tryd.prog 51 #[.int .i64 7, mv f rb] w (TFPost rb RD C 7 l w) := by
  have hT := T0.mk' hr h 7
  obtain ⟨W, hW⟩ : ∃ W, W = (w.alloc (.cells #[zI, zI, zI, zI, nilS] 49)).alloc (.cells #[.int .i64 7, zI, zI, zI, nilS] 49) := ⟨_, rfl⟩
  rw [← hW] at hT
  have HT := hid hT
  have HW := hid hW
  have hlt := hT.lt
  obtain ⟨xb, hxb⟩ : ∃ xb, w.heap.size + 1 = xb := ⟨_, rfl⟩
  have HXB := hid hxb
  have hx1 : w.heap.size < xb := by omega
  have hx2 : rb < xb := by omega
  have hnx : xb ≠ rb := by omega
  have hny : w.heap.size ≠ rb := by omega
  have hX0 : B5 W xb (.int .i64 7) zI zI zI nilS := by rw [← hxb]; exact hT.x
  cases hg1 : C.get l with
  | none =>
    have C1 := hN.none hT.rd hg1
    clear hT hW hxb h hX0
    go_enter Tryd.func51, Tryd.ntmps51
    go_upto_region 2 with fail
    rw [← HW.out, HXB.out]
    go_wp2_with (with_reducible refine C1.mono ?_; rintro e w1 ⟨rfl, hM1⟩)
    exact ⟨rfl, HT.out.mo.trans hM1, .inl ⟨by rw [getF_7, hg1], rfl⟩⟩
  | some p =>
    obtain ⟨n1, u1⟩ := p
    have C1 := hN.some hT.rd hg1
    have HX0 := hid hX0
    clear hT hW hxb h hX0
    go_enter Tryd.func51, Tryd.ntmps51
    go_upto_region 2 with fail
    rw [← HW.out, HXB.out]
    go_wp2_with (with_reducible refine C1.mono ?_; rintro e w1 ⟨rfl, hR1, hM1⟩; obtain ⟨k0, k1, k2, k3, k4⟩ := five (HX0.out.mo hM1 hnx); obtain ⟨f0, f1, f2, f3, f4⟩ := frz5 (HX0.out.mo hM1 hnx); have hX1 : B5 (w1.setCell ⟨xb, 1, none⟩ (.int .i64 (n1 : Int))) xb (.int .i64 7) (.int .i64 (n1 : Int)) zI zI nilS := B5.set1 (HX0.out.mo hM1 hnx) (Value.int .i64 (n1 : Int)); have hY1 : B5 (w1.setCell ⟨xb, 1, none⟩ (.int .i64 (n1 : Int))) w.heap.size zI zI zI zI nilS := (Below.heap_setCell _ ⟨xb, 1, none⟩ _ _ (by exact Nat.ne_of_lt hx1)).trans (HT.out.y.mo hM1 hny); have hRD1 := hr.set hR1 (a := ⟨xb, 1, none⟩) (Value.int .i64 (n1 : Int)) (by exact hx2); have hMo1 : Mo w (w1.setCell ⟨xb, 1, none⟩ (.int .i64 (n1 : Int))) rb := (HT.out.mo.trans hM1).setNew (a := ⟨xb, 1, none⟩) _ (by exact Nat.le_of_lt hx1); obtain ⟨e0, e1, e2, e3, e4⟩ := five hX1; obtain ⟨g0, g1, g2, g3, g4⟩ := frz5 hY1; obtain ⟨q0, q1, q2, q3, q4⟩ := five hY1; have HYF := hid hY1; have HMF := hid hMo1; have HRF := hid hRD1; clear hX1 hY1 hRD1 hMo1; clear hR1 hM1 C1)
    all_goals
      refine bodyPost_ret (results_cell_row rfl _ _ w.heap.size 49 _ (0, 0) _ rfl (all5 HYF.out _ _ _ _ _) Tryd.underlying49 rfl (by kernel_rfl)) rfl ?_
      refine ⟨HMF.out.set5 (Nat.le_refl _) _ _ _ _ _, .inr ⟨⟨7, n1, 0, 0, []⟩, u1, by rw [getF_7, hg1], ⟨7, n1, 0, 0, none, 0, 0⟩, rfl, rfl, rfl, rfl, rfl, rfl, World.ownsRow_nil _ _ _ _, hr.set5 HRF.out hlt _ _ _ _ _⟩⟩
end Go.Proofs.YteanndophopplaaDoor
