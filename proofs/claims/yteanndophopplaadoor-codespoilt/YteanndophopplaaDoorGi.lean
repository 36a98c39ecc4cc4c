/- HELPERS: the program that bytes are. -/
import Derived.Test.YteanndophopplaaDoorGj
import Derived.Deep.LoopGhost
namespace Go.Proofs.YteanndophopplaaDoor
open Go.RowKit
set_option linter.unusedVariables false
set_option linter.unusedSimpArgs false
abbrev C3 : Codec Nat := byteC 3 (by omega)
theorem rest_n1 {m : List Nat} (h : C3.get m = none) : restP C3 5000 20000 m = none := by unfold restP; rw [h]
theorem rest_n2 {m m1 : List Nat} {k : Nat} (h : C3.get m = some (k, m1)) (h2 : C3.get m1 = none) : restP C3 5000 20000 m = none := by unfold restP; rw [h]; simp only; rw [h2]
theorem rest_n3 {m m1 m2 : List Nat} {k s : Nat} (h : C3.get m = some (k, m1)) (h2 : C3.get m1 = some (s, m2)) (h3 : C3.get m2 = none) : restP C3 5000 20000 m = none := by unfold restP; rw [h]; simp only; rw [h2]; simp only; rw [h3]
theorem rest_s {m m1 m2 m3 : List Nat} {k s n : Nat} (h : C3.get m = some (k, m1)) (h2 : C3.get m1 = some (s, m2)) (h3 : C3.get m2 = some (n, m3)) : restP C3 5000 20000 m = if 20000 < n then none else (match getN C3 5000 n m3 with | none => none | some (J, m4) => some ((J, (s : Int), (k : Int)), m4)) := by
  unfold restP; rw [h]; simp only; rw [h2]; simp only; rw [h3]
  by_cases hn : 20000 < n
  · simp [hn]
  · simp only [hn, if_false]; cases getN C3 5000 n m3 <;> rfl
theorem body_none {m : List Nat} (h : restP C3 5000 20000 m = none) : bodyP C3 5000 20000 m = none := by unfold bodyP; rw [h]
theorem getN_step {n : Nat} {l l1 : List Nat} {I : In} (h : getI C3 5000 l = some (I, l1)) : getN C3 5000 (n + 1) l = (match getN C3 5000 n l1 with | none => none | some (J, l2) => some (I :: J, l2)) := by
  rw [getN, h]
  simp only
  cases getN C3 5000 n l1 <;> rfl
theorem getN_stop {n : Nat} {l : List Nat} (h : getI C3 5000 l = none) : getN C3 5000 (n + 1) l = none := by
  rw [getN, h]
theorem getI_nil : getI C3 5000 [] = none := rfl
theorem getI_cons (x : Nat) (r : List Nat) : getI C3 5000 (x :: r) = getF C3 5000 x r := rfl
theorem PO.kept {w w' : World} {base : Nat} {z : Value} {J : List In} {MS : List Iv} (h : PO w base z J MS) (hk : ∀ b, base ≤ b → b < w.heap.size → w'.heap[b]? = w.heap[b]?) : PO w' base z J MS :=
  ⟨h.len, row_kept h.row (fun b e => hk b (h.row.lt b e).1 (h.row.lt b e).2), fun j hj hj' => (h.io j hj hj').kept (fun b e => hk b ((h.io j hj hj').rr.lt b e).1 ((h.io j hj hj').rr.lt b e).2), h.apart⟩
theorem PO.wide {w : World} {base base' : Nat} {z : Value} {J : List In} {MS : List Iv} (h : PO w base z J MS) (hb : base' ≤ base) : PO w base' z J MS :=
  ⟨h.len, own_wide h.row hb, fun j hj hj' => by
    have a := h.io j hj hj'
    exact ⟨a.op, a.x, a.y, a.a, a.len, a.sm, own_wide a.rr hb, a.ne⟩, h.apart⟩
/-- the boxes where reading begins -/
structure OB (w W : World) (m : List Nat) (a : Option Addr) (c : Nat) (rb : Nat) : Prop where
  res : W.heap[w.heap.size]? = some (.cells #[nilS, zI, zI] 24 (0, 0))
  p : W.heap[rb + 1]? = some (.cells #[nilS, zI, zI] 24 (0, 0))
  rd : RDb (w.heap.size + 1) rb W m
  low : w.heap.size + 1 ≤ rb
  sz : W.heap.size = rb + 2
  be : Below w.heap.size w W
theorem OB.mk' {w w0 w1 : World} {m : List Nat} {a : Option Addr} {c : Nat} (h0 : w0 = w.alloc (.cells #[nilS, zI, zI] 24)) (hb : Below w0.heap.size w0 w1) (hBA : BA w0 w0.heap.size a m) (hc : m.length ≤ c) (hlt : ∀ x ∈ m, x < 256) (hs : m.length ≤ 8388608) :
    OB w ((w1.alloc (.cells #[.slice a m.length c] 87)).alloc (.cells #[nilS, zI, zI] 24)) m a c w1.heap.size := by
  have s0 : w0.heap.size = w.heap.size + 1 := by rw [h0]; simp
  have hsz := hb.size
  have e0 : w0.heap[w.heap.size]? = some (.cells #[nilS, zI, zI] 24 (0, 0)) := by rw [h0]; exact heap_alloc_new w _
  have e1 := heap_alloc_new (w1.alloc (.cells #[.slice a m.length c] 87)) (.cells #[nilS, zI, zI] 24)
  have s1 : (w1.alloc (.cells #[.slice a m.length c] 87)).heap.size = w1.heap.size + 1 := by simp
  rw [s1] at e1
  have old : ∀ k, k < w1.heap.size → ((w1.alloc (.cells #[.slice a m.length c] 87)).alloc (.cells #[nilS, zI, zI] 24)).heap[k]? = w1.heap[k]? := fun k hk => (heap_alloc_old _ _ (by omega)).trans (heap_alloc_old _ _ hk)
  refine ⟨(old _ (by omega)).trans ((hb.block _ (by omega)).trans e0), e1, ⟨a, c, ?_⟩, by omega, by simp, ?_⟩
  · refine ⟨(heap_alloc_old _ _ (by omega)).trans (heap_alloc_new w1 _), ?_, by omega, hc, hlt, hs⟩
    rw [← s0]
    exact hBA.kept (fun b hb' => (old b (by omega)).trans (hb.block b hb')) (Nat.le_refl _)
  · have h1 : Below w.heap.size w w0 := by rw [h0]; exact Joins.below_alloc1 w _
    exact ((h1.trans (Joins.below_le hb (by omega))).alloc (by omega) _).alloc (by simp; omega) _
/-- what was read so far of a program -/
structure OC (w W : World) (v0 v1 v2 : Value) (m : List Nat) (rb : Nat) : Prop where
  res : W.heap[w.heap.size]? = some (.cells #[nilS, zI, zI] 24 (0, 0))
  p : B3 W (rb + 1) v0 v1 v2
  rd : RDb (w.heap.size + 1) rb W m
  low : w.heap.size + 1 ≤ rb
  sz : rb + 2 ≤ W.heap.size
  be : Below w.heap.size w W
theorem OB.oc {w W : World} {m : List Nat} {a : Option Addr} {c rb : Nat} (h : OB w W m a c rb) : OC w W nilS zI zI m rb := ⟨h.res, h.p, h.rd, h.low, by rw [h.sz]; exact Nat.le_refl _, h.be⟩
theorem OC.mo {w W W' : World} {v0 v1 v2 : Value} {m m' : List Nat} {rb : Nat} (h : OC w W v0 v1 v2 m rb) (hm : Mo W W' rb) (hr : RDb (w.heap.size + 1) rb W' m') : OC w W' v0 v1 v2 m' rb := by
  have h1 := h.low
  have h2 := h.sz
  have h3 := hm.size
  have h4 := h.be.size
  refine ⟨(hm.block _ (by omega) (by omega)).trans h.res, (hm.block _ (by omega) (by omega)).trans h.p, hr, h1, by omega, ?_⟩
  exact h.be.trans (hm.below (by omega) (by omega))
theorem OC.set {w W : World} {v0 v1 v2 u0 u1 u2 : Value} {m : List Nat} {rb i : Nat} {v : Value} (h : OC w W v0 v1 v2 m rb) (hp : B3 (W.setCell ⟨rb + 1, i, none⟩ v) (rb + 1) u0 u1 u2) : OC w (W.setCell ⟨rb + 1, i, none⟩ v) u0 u1 u2 m rb := by
  have h1 := h.low
  have h2 := h.sz
  refine ⟨(Below.heap_setCell _ _ _ _ (show w.heap.size ≠ rb + 1 by omega)).trans h.res, hp, (rdr_b h1).set h.rd v (by show rb < rb + 1; omega), h1, by simp [World.setCell]; omega, h.be.setCell (by show w.heap.size ≤ rb + 1; omega) v⟩
theorem OC.set2 {w W : World} {v0 v1 v2 : Value} {m : List Nat} {rb : Nat} (h : OC w W v0 v1 v2 m rb) (v : Value) : OC w (W.setCell ⟨rb + 1, 2, none⟩ v) v0 v1 v m rb := h.set (Joins.block_setCell h.p v)
theorem OC.set1 {w W : World} {v0 v1 v2 : Value} {m : List Nat} {rb : Nat} (h : OC w W v0 v1 v2 m rb) (v : Value) : OC w (W.setCell ⟨rb + 1, 1, none⟩ v) v0 v v2 m rb := h.set (Joins.block_setCell h.p v)
theorem OC.set0 {w W : World} {v0 v1 v2 : Value} {m : List Nat} {rb : Nat} (h : OC w W v0 v1 v2 m rb) (v : Value) : OC w (W.setCell ⟨rb + 1, 0, none⟩ v) v v1 v2 m rb := h.set (Joins.block_setCell h.p v)
theorem OC.cells {w W : World} {v0 v1 v2 : Value} {m : List Nat} {rb g : Nat} (h : OC w W v0 v1 v2 m rb) (hg : rb + 2 ≤ g) (o : Nat) (vs : List Value) : OC w (W.setCells g o vs) v0 v1 v2 m rb := by
  have h1 := h.low
  refine ⟨(setCells_old g vs o W _ (by omega)).trans h.res, (setCells_old g vs o W _ (by omega)).trans h.p, (rdr_b h1).kept _ _ _ h.rd (setCells_old g vs o W _ (by omega)) (fun b hb => setCells_old g vs o W _ (by omega)), h1, by rw [setCells_size]; exact h.sz, Below.setCells (by omega) vs o _ _ h.be⟩
theorem OC.alloc {w W : World} {v0 v1 v2 : Value} {m : List Nat} {rb : Nat} (h : OC w W v0 v1 v2 m rb) (o : Obj) : OC w (W.alloc o) v0 v1 v2 m rb :=
  h.mo (Mo.alloc _ _ _) ((rdr_b h.low).kept _ _ _ h.rd (heap_alloc_old _ _ (by have := h.sz; omega)) (fun b hb => heap_alloc_old _ _ (by have := h.sz; have := h.low; omega)))
/-- one cell of the program that is read is written -/
theorem RDb.cell {B rb : Nat} {w : World} {l : List Nat} (h : RDb B rb w l) {a : Addr} (v : Value) (ha : rb < a.block) (hB : B ≤ rb) : RDb B rb (w.setCell a v) l := (rdr_b hB).set h v ha
set_option maxRecDepth 100000 in
set_option maxHeartbeats 4000000 in
theorem ofBytes_no {w : World} {ad : Option Addr} {n c : Nat} {l : List Nat} (h : BA w w.heap.size ad l) (hn : n = l.length) (hs : n ≤ 8388608) (hcp : n ≤ c) (hcm : c ≤ 9223372036854775807) (hlt : ∀ x ∈ l, x < 256) (hi : innerP l = none) :
    Calls Tryd.prog 36 #[.slice ad n c] w fun e w' => e = Broke ∧ Below w.heap.size w w' := by
  obtain ⟨w0, hw0⟩ : ∃ w0, w0 = w.alloc (.cells #[nilS, zI, zI] 24) := ⟨_, rfl⟩
  have hb0 : Below w.heap.size w w0 := by rw [hw0]; exact Joins.below_alloc1 w _
  have C55 := inner55 (w := w0) (c := c) (h.kept hb0.block hb0.size) hn hs hcp hcm hlt
  have C1 : Calls Tryd.prog 55 #[.slice ad n c] w0 fun e w' => e = Broke ∧ Below w0.heap.size w0 w' := C55.mono (by
    rintro e w' ⟨hB, ⟨_, rfl⟩ | ⟨m, a, c', h2, _⟩⟩
    · exact ⟨rfl, hB⟩
    · rw [hi] at h2; cases h2)
  rw [hw0] at C1 hb0
  have HB := hid hb0
  clear C55 hw0 hb0 h hn hlt hi
  go_enter Tryd.func36, Tryd.ntmps36
  go_wp2_with (go_at_call 55; (with_reducible refine C1.mono ?_); rintro e w1 ⟨rfl, hb1⟩)
  exact ⟨rfl, rfl, HB.out.trans (Joins.below_le hb1 HB.out.size)⟩
set_option maxRecDepth 100000 in
set_option maxHeartbeats 4000000 in
theorem ofBytes_in {w : World} {ad : Option Addr} {n c : Nat} {l m : List Nat} (h : BA w w.heap.size ad l) (hn : n = l.length) (hs : n ≤ 8388608) (hcp : n ≤ c) (hcm : c ≤ 9223372036854775807) (hlt : ∀ x ∈ l, x < 256) (hi : innerP l = some m)  :
    Calls Tryd.prog 36 #[.slice ad n c] w fun e w' => Below w.heap.size w w' ∧ ((bodyP C3 5000 20000 m = none ∧ e = Broke) ∨ ∃ J s k g MS, bodyP C3 5000 20000 m = some (J, s, k) ∧ e = .returned (pv (some ⟨g, 0, none⟩) J.length J.length s k) ∧ PO w' w.heap.size (.slice (some ⟨g, 0, none⟩) J.length J.length) J MS) := by
  obtain ⟨w0, hw0⟩ : ∃ w0, w0 = w.alloc (.cells #[nilS, zI, zI] 24) := ⟨_, rfl⟩
  have hb0 : Below w.heap.size w w0 := by rw [hw0]; exact Joins.below_alloc1 w _
  have C55 := inner55 (w := w0) (c := c) (h.kept hb0.block hb0.size) hn hs hcp hcm hlt
  have hm : m.length ≤ 8388608 ∧ ∀ x ∈ m, x < 256 := by
    have e := (inner_iff l m).1 hi
    have hl := congrArg List.length e
    simp [sum4] at hl
    refine ⟨by omega, fun x hx => hlt x (by rw [e]; simp [hx])⟩
  have C1 : Calls Tryd.prog 55 #[.slice ad n c] w0 fun e w' => ∃ a c', e = .returned (.slice a m.length c') ∧ OB w ((w'.alloc (.cells #[.slice a m.length c'] 87)).alloc (.cells #[nilS, zI, zI] 24)) m a c' w'.heap.size := C55.mono (by
    rintro e w' ⟨hB, ⟨h2, _⟩ | ⟨m', a, c', h2, rfl, h3, h4⟩⟩
    · rw [hi] at h2; cases h2
    · rw [hi] at h2; cases h2
      exact ⟨a, c', rfl, OB.mk' hw0 hB h4 h3 hm.2 hm.1⟩)
  rw [hw0] at C1
  obtain ⟨mn, hmn⟩ : ∃ mn, m.length = mn := ⟨_, rfl⟩
  rw [hmn] at C1
  clear C55 hw0 hb0 h hn hlt hi hm hmn
  go_enter Tryd.func36, Tryd.ntmps36
  go_upto_region 3 with (go_at_call 55; (with_reducible refine C1.mono ?_); rintro e w1 ⟨a1, c1, rfl, hOB⟩; have HOB := hid hOB; clear hOB C1)
  obtain ⟨W, hW⟩ : ∃ W, W = (w1.alloc (.cells #[.slice a1 mn c1] 87)).alloc (.cells #[nilS, zI, zI] 24) := ⟨_, rfl⟩
  have HO : Hid (OC w W nilS zI zI m w1.heap.size) := by rw [hW]; exact HOB.out.oc
  rw [← hW]
  obtain ⟨rb, hrb⟩ : ∃ rb, w1.heap.size = rb := ⟨_, rfl⟩
  rw [hrb] at HO ⊢
  clear HOB hW hrb
  have hN := numR_b (w.heap.size + 1) rb
  cases hg1 : C3.get m with
  | none =>
    have C1 := hN.none HO.out.rd hg1
    go_wp2_with (go_at_call 56; (with_reducible refine C1.mono ?_); rintro e w2 ⟨rfl, hM⟩)
    exact ⟨rfl, HO.out.be.trans (hM.below (by have := HO.out.low; omega) HO.out.be.size), .inl ⟨body_none (rest_n1 hg1), rfl⟩⟩
  | some p1 =>
    obtain ⟨k0, m1⟩ := p1
    have C1 := hN.some HO.out.rd hg1
    go_upto_region 4 with (go_at_call 56; (with_reducible refine C1.mono ?_); rintro e w2 ⟨rfl, hR2, hM2⟩; have h1 := HO.out.mo hM2 hR2; obtain ⟨c0, c1, c2⟩ := three_cells h1.p; obtain ⟨f0, f1, f2⟩ := frz3 h1.p; have H1 := hid (h1.set2 (.int .i64 (k0 : Int))); clear h1 hR2 hM2 C1)
    cases hg2 : C3.get m1 with
    | none =>
      have C2 := hN.none H1.out.rd hg2
      go_wp2_with (go_at_call 56; (with_reducible refine C2.mono ?_); rintro e w3 ⟨rfl, hM⟩)
      exact ⟨rfl, H1.out.be.trans (hM.below (by have := H1.out.low; omega) H1.out.be.size), .inl ⟨body_none (rest_n2 hg1 hg2), rfl⟩⟩
    | some p2 =>
      obtain ⟨s0, m2⟩ := p2
      have C2 := hN.some H1.out.rd hg2
      go_upto_region 5 with (go_at_call 56; (with_reducible refine C2.mono ?_); rintro e w3 ⟨rfl, hR3, hM3⟩; have h2 := H1.out.mo hM3 hR3; obtain ⟨c0, c1, c2⟩ := three_cells h2.p; obtain ⟨f0, f1, f2⟩ := frz3 h2.p; have H2 := hid (h2.set1 (.int .i64 (s0 : Int))); clear h2 hR3 hM3 C2)
      clear H1 HO
      cases hg3 : C3.get m2 with
      | none =>
        have C3' := hN.none H2.out.rd hg3
        go_wp2_with (go_at_call 56; (with_reducible refine C3'.mono ?_); rintro e w4 ⟨rfl, hM⟩)
        exact ⟨rfl, H2.out.be.trans (hM.below (by have := H2.out.low; omega) H2.out.be.size), .inl ⟨body_none (rest_n3 hg1 hg2 hg3), rfl⟩⟩
      | some p3 =>
        obtain ⟨n0, m3⟩ := p3
        have C3' := hN.some H2.out.rd hg3
        have HRS := hid (rest_s hg1 hg2 hg3)
        by_cases h20 : 20000 < n0
        · have b1 : decide ((n0 : Int) > 20000) = true := by simp; omega
          have b2 : (20000 : Int) < (n0 : Int) := by omega
          go_wp2_with (go_at_call 56; (with_reducible refine C3'.mono ?_); rintro e w4 ⟨rfl, hR, hM⟩)
          exact ⟨rfl, H2.out.be.trans (hM.below (by have := H2.out.low; omega) H2.out.be.size), .inl ⟨body_none (by rw [HRS.out, if_pos h20]), rfl⟩⟩
        · have b1 : decide ((n0 : Int) > 20000) = false := by simp; omega
          have b2 : ¬ ((20000 : Int) < (n0 : Int)) := by omega
          have mk := makeI n0 (by omega)
          go_upto_region 8 with (go_at_call 56; (with_reducible refine C3'.mono ?_); rintro e w4 ⟨rfl, hR4, hM4⟩; have H4 := hid (H2.out.mo hM4 hR4); clear hR4 hM4 C3')
          obtain ⟨g, hgg⟩ : ∃ g, w4.heap.size = g := ⟨_, rfl⟩
          have hp4 := (H4.out.alloc (.cells (madeCells #[.int .i64 0, .int .i64 0, .int .i64 0, .int .i64 0, .slice none 0 0] (n0 * 5)) 49)).p
          obtain ⟨c0, c1, c2⟩ := three_cells hp4
          obtain ⟨f0, f1, f2⟩ := frz3 hp4
          clear hgg
          go_upto_region 9 with fail
          obtain ⟨V, hV⟩ : ∃ V, V = (w4.alloc (.cells (madeCells #[.int .i64 0, .int .i64 0, .int .i64 0, .int .i64 0, .slice none 0 0] (n0 * 5)) 49)).setCell ⟨rb + 1, 0, none⟩ (.slice (some ⟨w4.heap.size, 0, none⟩) n0 n0) := ⟨_, rfl⟩
          have hOC : OC w V (rowv w4.heap.size n0) (.int .i64 (s0 : Int)) (.int .i64 (k0 : Int)) m3 rb := by rw [hV]; exact (H4.out.alloc _).set0 _
          have hLI : LI (rb + 2) w4.heap.size n0 V [] [] n0 := by
            have e : LI (rb + 2) w4.heap.size n0 (w4.alloc (.cells (madeCells Z5.cells (n0 * 5)) 49)) [] [] n0 := LI.start H4.out.sz (by unfold maxLen; omega)
            rw [hV]
            exact e.mo (rb := rb + 1) (by omega) (Mo.set _ _ _ _)
          rw [← hV]
          obtain ⟨g, hgg⟩ : ∃ g, w4.heap.size = g := ⟨_, rfl⟩
          rw [hgg] at hOC hLI ⊢
          have HOC := hid hOC
          have HLI := hid hLI
          obtain ⟨c0, c1, c2⟩ := three_cells hOC.p
          have hgN : rb + 2 ≤ g := by rw [← hgg]; exact H4.out.sz
          clear hV hOC hLI hgg f0 f1 f2 hp4 H4 H2 mk
          go_wp2_with fail
          clear c0 c1 c2
          go_loopw [25] (fun y wq => ∃ (i : Nat) (MS : List Iv) (A : List In) (li : List Nat), y = .int .i64 (i : Int) ∧ i ≤ n0 ∧ Hid (A.length = i) ∧ Hid (LI (rb + 2) g n0 wq MS A (n0 - i)) ∧ Hid (OC w wq (rowv g n0) (.int .i64 (s0 : Int)) (.int .i64 (k0 : Int)) li rb) ∧ Hid (getN C3 5000 n0 m3 = (match getN C3 5000 (n0 - i) li with | none => none | some (J, u) => some (A ++ J, u)))) (fun y _ => n0 - (intOf y).toNat)
          case atStart =>
            refine ⟨0, [], [], m3, rfl, by omega, rfl, HLI.out, HOC.out, ?_⟩
            show getN C3 5000 n0 m3 = (match getN C3 5000 n0 m3 with | none => none | some (J, u) => some ([] ++ J, u))
            cases getN C3 5000 n0 m3 <;> rfl
          case round =>
            clear HLI HOC
            obtain ⟨i, MS, A, li, rfl, hi', HA, HLI, HOC, HG⟩ := hrel
            have c0 := Joins.cell_of_block HOC.out.p 0
            have c1 := Joins.cell_of_block HOC.out.p 1
            have c2 := Joins.cell_of_block HOC.out.p 2
            by_cases hil : i < n0
            · have b3 : decide ((i : Int) < (n0 : Int)) = true := by simp; omega
              have b4 : (i : Int) < (n0 : Int) := by omega
              have ad1 : IntKind.i64.wrap ((i : Int) + 1) = (i : Int) + 1 := by simp [IntKind.wrap, IntKind.bits, IntKind.signed]; omega
              go_upto_region 12 with fail
              obtain ⟨k, hk⟩ : ∃ k, n0 - i = k + 1 := ⟨n0 - i - 1, by omega⟩
              rw [hk] at HLI HG
              have hrd := (rdr_b HOC.out.low).kept _ wr.drew _ HOC.out.rd rfl (fun _ _ => rfl)
              have HOd := hid (HOC.out.mo (Mo.drew wr rb) hrd)
              have HLd := hid (HLI.out.mo (rb := rb) (by omega) (Mo.drew wr rb))
              have HK := hid hk
              clear hk hrd
              refine wp_region_lexK [0, 1, 2, 5] [3, 4, 6, 7, 8] 8 (fun V => V.cell? ⟨rb + 1, 0, none⟩ = some (rowv g n0)) (by kernel_rfl) (by kernel_rfl) rfl (by kernel_rfl) (by kernel_rfl) c0 ?_
              simp only [opsAt, opsNo, List.getElem?_toArray, List.getElem?_cons_zero, List.getElem?_cons_succ]
              iterate 4
                refine lex_cons ?_ rfl (fun V hV => ?_) (fun _ _ _ h => h) ?_
                rotate_left
                · go_simp <;> with_reducible rfl
                simp only [Act.put, List.setIfInBounds_toArray, List.set_cons_zero, List.set_cons_succ]
              refine lex_nil (tailK_cons fun K1 hK1 => ?_)
              have hbe := HOd.out.be
              cases li with
              | nil =>
                obtain ⟨a', c', hRB⟩ := HOd.out.rd
                refine step_callP rfl 57 (.tmp 3) 87 rfl en57 ?_
                refine (next57_nil hRB).mono ?_
                rintro e w5 ⟨rfl, rfl⟩
                refine .inr ⟨_, rfl, ?_⟩
                exact ⟨rfl, hbe, .inl ⟨body_none (by rw [HRS.out, if_neg h20, HG.out, getN_stop getI_nil]), rfl⟩⟩
              | cons x r =>
                obtain ⟨a', c', hRB⟩ := HOd.out.rd
                have hx := hRB.lt x (by simp)
                refine step_callP rfl 57 (.tmp 3) 87 rfl en57 ?_
                refine (next57_cons hRB).mono ?_
                rintro e w5 ⟨rfl, hR5, hM5⟩
                refine .inl ⟨_, rfl, ?_⟩
                have HO5 := hid (HOd.out.mo hM5 hR5)
                have HL5 := hid (HLd.out.mo (by omega) hM5)
                clear hRB hR5 hM5
                refine hK1.out _ _ (fun _ => Joins.cell_of_block HO5.out.p 0) (tailK_cons fun K2 hK2 => ?_)
                refine step_val rfl (.int .i64 (x : Int)) ?_ ?_
                · have b5 : IntKind.i64.wrap (x : Int) = (x : Int) := by simp [IntKind.wrap, IntKind.bits, IntKind.signed]; omega
                  go_simp
                refine hK2.out _ _ (fun _ => Joins.cell_of_block HO5.out.p 0) (tailK_cons fun K3 hK3 => ?_)
                have C51 := take51 hN en56 (rdr_b HO5.out.low) x HO5.out.rd
                have hbe5 := HO5.out.be
                refine step_callG2 rfl 51 (.tmp 32) (.tmp 33) 3 82 rfl en51 ?_
                refine C51.mono ?_
                rintro e w6 ⟨hM6, ⟨hgf, rfl⟩ | ⟨I, u, hgf, M, rfl, o0, o1, o2, o3, o4, o5, hR6⟩⟩
                · refine .inr ⟨_, rfl, ?_⟩
                  exact ⟨rfl, hbe5.trans (hM6.below (by have := HO5.out.low; omega) hbe5.size), .inl ⟨body_none (by rw [HRS.out, if_neg h20, HG.out, getN_stop (by rw [getI_cons, hgf])]), rfl⟩⟩
                · refine .inl ⟨_, rfl, ?_⟩
                  have HO6 := hid (HO5.out.mo hM6 hR6)
                  have HL6 := hid (HL5.out.mo (by omega) hM6)
                  have HLN := hid (HL5.out.next (by omega) hM6 o0 o1 o2 o3 o4 o5 (getF_len hgf))
                  have hIs := getN_step (n := k) (l := x :: r) (l1 := u) (I := I) (by rw [getI_cons, hgf])
                  refine hK3.out _ _ (fun _ => Joins.cell_of_block HO6.out.p 0) (tailK_cons fun K5 hK5 => ?_)
                  refine step_val rfl (.pointer (some ⟨g, i * 5, none⟩)) ?_ ?_
                  · go_simp
                  refine hK5.out _ _ (fun _ => Joins.cell_of_block HO6.out.p 0) (tailK_cons fun K4 hK4 => ?_)
                  have hth := HL6.out.there
                  rw [HA.out] at hth HLN
                  refine step_store5 rfl (.tmp 35) (.tmp 34) rfl g i M rfl rfl hth ?_
                  have HO7 := hid (HO6.out.cells (g := g) hgN (i * 5) (Iv.cs M))
                  have HGN : Hid (getN C3 5000 n0 m3 = (match getN C3 5000 k u with | none => none | some (J, u2) => some ((A ++ [I]) ++ J, u2))) := by
                    show _ = _
                    rw [HG.out, hIs]
                    cases getN C3 5000 k u with
                    | none => rfl
                    | some p => simp
                  clear o0 o1 o2 o3 o4 o5 hgf hM6 hR6 C51 hth hIs HO6 HL6 HO5 HL5 HG HLI HOC HLd HOd c0 c1 c2
                  refine hK4.out _ _ (fun h => absurd rfl h) (tailK_nil ?_)
                  simp only [Act.put, List.setIfInBounds_toArray, List.set_cons_zero, List.set_cons_succ]
                  go_wp2
                  refine ⟨⟨i + 1, MS ++ [M], A ++ [I], u, by push_cast; rfl, by omega, by show _ = _; rw [List.length_append, HA.out]; rfl, ?_, HO7.out, ?_⟩, by simp [intOf]; omega⟩
                  · rw [show n0 - (i + 1) = k by have := HK.out; omega]; exact HLN.out
                  · rw [show n0 - (i + 1) = k by have := HK.out; omega]; exact HGN.out
            · have b3 : decide ((i : Int) < (n0 : Int)) = false := by simp; omega
              obtain rfl : i = n0 := by omega
              rw [Nat.sub_self] at HLI HG
              have HGE : Hid (restP C3 5000 20000 m = some ((A, (s0 : Int), (k0 : Int)), li)) := by
                show _ = _
                rw [HRS.out, if_neg h20, HG.out]
                simp [getN]
              obtain ⟨a', c', hRB⟩ := HOC.out.rd
              cases li with
              | cons x r =>
                have k0' : wr.cell? ⟨rb, 0, none⟩ = some (.slice a' (r.length + 1) c') := Joins.cell_of_block hRB.box 0
                have hbe := HOC.out.be
                obtain ⟨rn, hrn⟩ : ∃ rn, r.length = rn := ⟨_, rfl⟩
                rw [hrn] at k0'
                have b4 : (0 : Int) < (rn : Int) + 1 := by omega
                have b5 : decide ((rn : Int) + 1 > 0) = true := by rw [decide_eq_true_eq]; omega
                clear hRB hrn
                go_wp2
                exact ⟨rfl, hbe, .inl ⟨by unfold bodyP; rw [HGE.out], rfl⟩⟩
              | nil =>
                have k0' : wr.cell? ⟨rb, 0, none⟩ = some (.slice a' 0 c') := Joins.cell_of_block hRB.box 0
                have hpo := HLI.out.po (base := rb + 2) (Nat.le_refl _)
                have hlow := HOC.out.low
                have hpi := hpo.pi (by rw [HA.out])
                have C53 := mayBe53 (c := i) (s := (s0 : Int)) (k := (k0 : Int)) hpi
                have HPO := hid hpo
                have HBE := hid HOC.out.be
                have HRES := hid HOC.out.res
                have hrs : w.heap.size < wr.heap.size := (Array.getElem?_eq_some_iff.1 HOC.out.res).1
                have HGB : Hid (bodyP C3 5000 20000 m = if mayB A (s0 : Int) (k0 : Int) then some (A, (s0 : Int), (k0 : Int)) else none) := by
                  show _ = _
                  unfold bodyP; rw [HGE.out]
                clear hpo hpi hRB HOC HLI HRS HG HGE hg1 hg2 hg3
                have hi2 : i ≤ 20000 := by omega
                go_upto_region 16 with fail
                cases hm : mayB A (s0 : Int) (k0 : Int) with
                | false =>
                  have D53 : Calls Tryd.prog 53 #[pv (some ⟨g, 0, none⟩) i i (s0 : Int) (k0 : Int)] wr fun e w' => e = Broke ∧ Below wr.heap.size wr w' := C53.mono (by
                    rintro e w' ⟨hb, ⟨_, rfl⟩ | ⟨h2, _⟩⟩
                    · exact ⟨rfl, hb⟩
                    · rw [hm] at h2; cases h2)
                  clear C53
                  go_wp2_with (go_at_call 53; (with_reducible refine D53.mono ?_); rintro e w5 ⟨rfl, hb5⟩)
                  exact ⟨rfl, HBE.out.trans (Joins.below_le hb5 HBE.out.size), .inl ⟨by rw [HGB.out, hm]; rfl, rfl⟩⟩
                | true =>
                  have D53 : Calls Tryd.prog 53 #[pv (some ⟨g, 0, none⟩) i i (s0 : Int) (k0 : Int)] wr fun e w' => e = .returned (pv (some ⟨g, 0, none⟩) i i (s0 : Int) (k0 : Int)) ∧ Below wr.heap.size wr w' := C53.mono (by
                    rintro e w' ⟨hb, ⟨h2, _⟩ | ⟨_, rfl⟩⟩
                    · rw [hm] at h2; cases h2
                    · exact ⟨rfl, hb⟩)
                  clear C53
                  go_wp2_with (go_at_call 53; (with_reducible refine D53.mono ?_); rintro e w5 ⟨rfl, hb5⟩; have HB5 := hid hb5; have e1 : B3 w5 w.heap.size (.slice none 0 0) (.int .i64 0) (.int .i64 0) := (hb5.block _ hrs).trans HRES.out; obtain ⟨q0, q1, q2⟩ := three_cells e1; obtain ⟨f0, f1, f2⟩ := frz3 e1; have E1 := hid e1; clear hb5 D53 e1)
                  refine bodyPost_ret (results_cell_row rfl _ _ w.heap.size 24 _ (0, 0) _ rfl (all3 E1.out _ _ _) Tryd.underlying24 rfl (by kernel_rfl)) rfl ?_
                  have hB : Below w.heap.size w w5 := HBE.out.trans (Joins.below_le HB5.out HBE.out.size)
                  refine ⟨((hB.setCell (Nat.le_refl _) _).setCell (Nat.le_refl _) _).setCell (Nat.le_refl _) _, .inr ⟨A, (s0 : Int), (k0 : Int), g, MS, by rw [HGB.out, hm]; rfl, by rw [HA.out], ?_⟩⟩
                  rw [HA.out]
                  exact (HPO.out.kept (fun b h1 h2 => (set3_old (by omega) _ _ _).trans (HB5.out.block b h2))).wide (by omega)
theorem ofBytes36 {w : World} {ad : Option Addr} {n c : Nat} {l : List Nat} (h : BA w w.heap.size ad l) (hn : n = l.length) (hs : n ≤ 8388608) (hcp : n ≤ c) (hcm : c ≤ 9223372036854775807) (hlt : ∀ x ∈ l, x < 256) :
    Calls Tryd.prog 36 #[.slice ad n c] w fun e w' => Below w.heap.size w w' ∧ ((loadP C3 5000 20000 l = none ∧ e = Broke) ∨ ∃ J s k g MS, loadP C3 5000 20000 l = some (J, s, k) ∧ e = .returned (pv (some ⟨g, 0, none⟩) J.length J.length s k) ∧ PO w' w.heap.size (.slice (some ⟨g, 0, none⟩) J.length J.length) J MS) := by
  unfold loadP
  cases hi : innerP l with
  | none =>
    refine (ofBytes_no h hn hs hcp hcm hlt hi).mono ?_
    rintro e w' ⟨rfl, hb⟩
    exact ⟨hb, .inl ⟨rfl, rfl⟩⟩
  | some m => exact ofBytes_in h hn hs hcp hcm hlt hi
end Go.Proofs.YteanndophopplaaDoor
