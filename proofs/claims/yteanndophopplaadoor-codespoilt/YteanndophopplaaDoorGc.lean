/- HELPERS: ranges out of a reader. -/
import Derived.Test.YteanndophopplaaDoorGb
import Derived.Test.YteanndophopplaaDoorCp
import Derived.Deep.LoopGhost
namespace Go.Proofs.YteanndophopplaaDoor
open Go.RowKit
set_option linter.unusedVariables false
set_option linter.unusedSimpArgs false
abbrev mkI (k : Int) : Iv := ⟨k, 0, 0, 0, none, 0, 0⟩
theorem makeR (c : Nat) (hc : c * 16 ≤ 140737488355328) (w : World) : (Instr.makeSlice 47 (.int .i64 (c : Int)) (.int .i64 (c : Int))).run Tryd.prog w = .ok (.slice (some ⟨w.heap.size, 0, none⟩) c c) (w.alloc (.cells (madeCells (Value.agg #[.int .i64 0, .int .i64 0]).cells (c * 2)) 51)) := by
  obtain ⟨i0, hi0, hz0, hz1, hz2⟩ := info_parts info49
  have h := run_make (P := Tryd.prog) w 47 51 i0 (.agg #[.int .i64 0, .int .i64 0]) Tryd.underlying47 hi0 hz0 .i64 .i64 c c (by omega) (by omega) (by rw [hz2]; omega) (by omega)
  simp only [Int.toNat_natCast, hz1] at h
  exact h
theorem makeI (c : Nat) (hc : c * 56 ≤ 140737488355328) (w : World) : (Instr.makeSlice 22 (.int .i64 (c : Int)) (.int .i64 (c : Int))).run Tryd.prog w = .ok (.slice (some ⟨w.heap.size, 0, none⟩) c c) (w.alloc (.cells (madeCells Z5.cells (c * 5)) 49)) := by
  obtain ⟨i0, hi0, hz0, hz1, hz2⟩ := info_parts info51
  have h := run_make (P := Tryd.prog) w 22 49 i0 Z5 Tryd.underlying22 hi0 hz0 .i64 .i64 c c (by omega) (by omega) (by rw [hz2]; omega) (by omega)
  simp only [Int.toNat_natCast, hz1] at h
  exact h
theorem made_rep (z : Array Value) (hz : 0 < z.size) : ∀ c : Nat, (madeCells z (c * z.size)).toList = (List.replicate c z.toList).flatten := by
  intro c
  apply List.ext_getElem?
  intro i
  have key : ∀ (c i : Nat), i < c * z.size → (List.replicate c z.toList).flatten[i]? = z[i % z.size]? := by
    intro c
    induction c with
    | zero => intro i h; simp at h
    | succ c ih =>
      intro i h
      rw [List.replicate_succ, List.flatten_cons]
      by_cases hi : i < z.size
      · rw [List.getElem?_append_left (by simpa using hi), Nat.mod_eq_of_lt hi]; simp
      · rw [List.getElem?_append_right (by simpa using Nat.le_of_not_lt hi)]
        have h2 : i - z.size < c * z.size := by rw [Nat.add_mul] at h; omega
        have := ih (i - z.size) h2
        rw [show i - z.toList.length = i - z.size by simp, this]
        rw [← Nat.mod_eq_sub_mod (by omega)]
  by_cases hi : i < c * z.size
  · rw [key c i hi]
    have hm : i % z.size < z.size := Nat.mod_lt _ hz
    simp [madeCells, hi, hm]
  · rw [List.getElem?_eq_none (by simp [madeCells]; omega), List.getElem?_eq_none (by simp; omega)]
theorem made_rowI (c N : Nat) (w : World) (hN : N ≤ w.heap.size) (hc : c ≤ maxLen) : (w.alloc (.cells (madeCells Z5.cells (c * 5)) 49)).ownsRow N 49 5 (.slice (some ⟨w.heap.size, 0, none⟩) c c) c ((List.replicate c (mkI 0)).flatMap Iv.cs) := by
  have h := World.ownsRow_lit (base := N) (e := 49) (size := 5) w (madeCells Z5.cells (c * 5)) c hN hc (by rw [size_madeCells])
  have e := made_rep Z5.cells (by decide) c
  rw [show Z5.cells.size = 5 from rfl] at e
  rw [e] at h
  have e2 : (List.replicate c Z5.cells.toList).flatten = (List.replicate c (mkI 0)).flatMap Iv.cs := by
    rw [List.flatMap_def, List.map_replicate]; rfl
  rw [e2] at h
  exact h
theorem made_rowR (c N : Nat) (w : World) (hN : N ≤ w.heap.size) (hc : c ≤ maxLen) : (w.alloc (.cells (madeCells (Value.agg #[.int .i64 0, .int .i64 0]).cells (c * 2)) 51)).ownsRow N 51 2 (.slice (some ⟨w.heap.size, 0, none⟩) c c) c (O2 (List.replicate c (0, 0))) := by
  have h := World.ownsRow_lit (base := N) (e := 51) (size := 2) w (madeCells (Value.agg #[.int .i64 0, .int .i64 0]).cells (c * 2)) c hN hc (by rw [size_madeCells])
  have e := made_rep (Value.agg #[.int .i64 0, .int .i64 0]).cells (by decide) c
  rw [show (Value.agg #[.int .i64 0, .int .i64 0]).cells.size = 2 from rfl] at e
  rw [e] at h
  have e2 : (List.replicate c (Value.agg #[.int .i64 0, .int .i64 0]).cells.toList).flatten = O2 (List.replicate c (0, 0)) := by
    unfold O2
    rw [List.flatMap_def, List.map_replicate]; rfl
  rw [e2] at h
  exact h
/-- what a reader in memory is like -/
structure Rdr {α : Type} (B rb : Nat) (RD : World → List α → Prop) : Prop where
  kept : ∀ w w' l, RD w l → w'.heap[rb]? = w.heap[rb]? → (∀ b, b < B → w'.heap[b]? = w.heap[b]?) → RD w' l
  lt : ∀ w l, RD w l → rb < w.heap.size
  low : B ≤ rb
/-- what a reader's number does -/
abbrev NumR {α : Type} (f rb : Nat) (RD : World → List α → Prop) (C : Codec α) : Prop := ∀ (w : World) (l : List α), RD w l →
  Calls Tryd.prog f #[pt rb] w fun e w' => Mo w w' rb ∧ ((C.get l = none ∧ e = Broke) ∨ ∃ n u, C.get l = some (n, u) ∧ e = .returned (.int .i64 (n : Int)) ∧ RD w' u)
theorem NumR.none {α : Type} {f rb : Nat} {RD : World → List α → Prop} {C : Codec α} (h : NumR f rb RD C) {w : World} {l : List α} (hR : RD w l) (hg : C.get l = none) : Calls Tryd.prog f #[pt rb] w fun e w' => e = Broke ∧ Mo w w' rb :=
  (h w l hR).mono (by
    rintro e w' ⟨hM, ⟨_, rfl⟩ | ⟨n, u, h2, _⟩⟩
    · exact ⟨rfl, hM⟩
    · rw [hg] at h2; cases h2)
theorem NumR.some {α : Type} {f rb : Nat} {RD : World → List α → Prop} {C : Codec α} (h : NumR f rb RD C) {w : World} {l u : List α} {n : Nat} (hR : RD w l) (hg : C.get l = .some (n, u)) : Calls Tryd.prog f #[pt rb] w fun e w' => e = .returned (.int .i64 (n : Int)) ∧ RD w' u ∧ Mo w w' rb :=
  (h w l hR).mono (by
    rintro e w' ⟨hM, ⟨h2, _⟩ | ⟨n', u', h2, rfl, h3⟩⟩
    · rw [hg] at h2; cases h2
    · rw [hg] at h2; cases h2; exact ⟨rfl, h3, hM⟩)
theorem O2_at2 (A : List (Int × Int)) (c0 c1 : Int) (B : List (Int × Int)) (x : Int) : (O2 (A ++ (c0, c1) :: B)).set (A.length * 2) (.int .i64 x) = O2 (A ++ (x, c1) :: B) ∧ (O2 (A ++ (c0, c1) :: B)).set (A.length * 2 + 1) (.int .i64 x) = O2 (A ++ (c0, x) :: B) := by
  have e : ∀ a b : Int, O2 (A ++ (a, b) :: B) = O2 A ++ (Value.int .i64 a :: Value.int .i64 b :: O2 B) := fun a b => by simp [O2]
  rw [e, e, e]
  have hl : (O2 A).length = A.length * 2 := O2_len A
  rw [List.set_append_right _ _ (by omega), List.set_append_right _ _ (by omega), hl]
  simp
/-- the row of ranges that is filled -/
abbrev RowF (w : World) (N g c : Nat) (A : List (Int × Int)) (k : Nat) : Prop := w.ownsRow N 51 2 (.slice (some ⟨g, 0, none⟩) c c) c (O2 (A ++ List.replicate k (0, 0)))
theorem RowF.set {w w1 w2 : World} {N g c rb : Nat} {A : List (Int × Int)} {k : Nat} {lo hi : Int} (h : RowF w N g c A (k + 1)) (hg : g ≠ rb) (h1 : Mo w w1 rb) (h2 : Mo (w1.setCell ⟨g, A.length * 2, none⟩ (.int .i64 lo)) w2 rb) :
    RowF (w2.setCell ⟨g, A.length * 2 + 1, none⟩ (.int .i64 hi)) N g c (A ++ [(lo, hi)]) k := by
  have hb := (h.lt g rfl).2
  have a1 : w1.ownsRow N 51 2 (.slice (some ⟨g, 0, none⟩) c c) c (O2 (A ++ (0, 0) :: List.replicate k (0, 0))) := row_kept h (fun b e => by simp [Value.ownBlock] at e; subst e; exact h1.block _ hb hg)
  have a2 := row_setC a1 (A.length * 2) (.int .i64 lo)
  rw [(O2_at2 _ _ _ _ _).1] at a2
  have hb2 := (a2.lt g rfl).2
  have a3 : w2.ownsRow N 51 2 (.slice (some ⟨g, 0, none⟩) c c) c (O2 (A ++ (lo, 0) :: List.replicate k (0, 0))) := row_kept a2 (fun b e => by simp [Value.ownBlock] at e; subst e; exact h2.block _ hb2 hg)
  have a4 := row_setC a3 (A.length * 2 + 1) (.int .i64 hi)
  rw [(O2_at2 _ _ _ _ _).2] at a4
  have e : (A ++ [(lo, hi)]) ++ List.replicate k (0, 0) = A ++ (lo, hi) :: List.replicate k (0, 0) := by simp
  show World.ownsRow _ _ _ _ _ _ (O2 ((A ++ [(lo, hi)]) ++ List.replicate k (0, 0)))
  rw [e]
  exact a4
theorem RowF.at_ {w w1 : World} {N g c rb : Nat} {A : List (Int × Int)} {k : Nat} (h : RowF w N g c A (k + 1)) (hg : g ≠ rb) (h1 : Mo w w1 rb) (hc : A.length + (k + 1) = c) : (∃ v, w1.cell? ⟨g, A.length * 2, none⟩ = some v) ∧ w1.frozen? ⟨g, A.length * 2, none⟩ = false ∧ (∃ v, w1.cell? ⟨g, A.length * 2 + 1, none⟩ = some v) ∧ w1.frozen? ⟨g, A.length * 2 + 1, none⟩ = false := by
  have hb := (h.lt g rfl).2
  have a1 : RowF w1 N g c A (k + 1) := row_kept h (fun b e => by simp [Value.ownBlock] at e; subst e; exact h1.block _ hb hg)
  have ht := row_there a1 (j := A.length * 2) (m := 2) (by omega)
  exact ⟨Option.isSome_iff_exists.1 (ht 0 (by omega)).1, (ht 0 (by omega)).2, Option.isSome_iff_exists.1 (ht 1 (by omega)).1, (ht 1 (by omega)).2⟩
theorem RowF.mid {w w1 w2 : World} {N g c rb : Nat} {A : List (Int × Int)} {k : Nat} {lo : Int} (h : RowF w N g c A (k + 1)) (hg : g ≠ rb) (h1 : Mo w w1 rb) (h2 : Mo (w1.setCell ⟨g, A.length * 2, none⟩ (.int .i64 lo)) w2 rb) (hc : A.length + (k + 1) = c) : (∃ v, w2.cell? ⟨g, A.length * 2 + 1, none⟩ = some v) ∧ w2.frozen? ⟨g, A.length * 2 + 1, none⟩ = false := by
  have hb := (h.lt g rfl).2
  have a1 : w1.ownsRow N 51 2 (.slice (some ⟨g, 0, none⟩) c c) c (O2 (A ++ (0, 0) :: List.replicate k (0, 0))) := row_kept h (fun b e => by simp [Value.ownBlock] at e; subst e; exact h1.block _ hb hg)
  have a2 := row_setC a1 (A.length * 2) (.int .i64 lo)
  have hb2 := (a2.lt g rfl).2
  have a3 := row_kept a2 (w' := w2) (fun b e => by simp [Value.ownBlock] at e; subst e; exact h2.block _ hb2 hg)
  have ht := row_there a3 (j := A.length * 2) (m := 2) (by omega)
  exact ⟨Option.isSome_iff_exists.1 (ht 1 (by omega)).1, (ht 1 (by omega)).2⟩
theorem Mo.setNew {w w' : World} {rb : Nat} (h : Mo w w' rb) {a : Addr} (v : Value) (ha : w.heap.size ≤ a.block) : Mo w (w'.setCell a v) rb :=
  ⟨h.os, h.tape, h.output, by have := h.size; simp [World.setCell]; exact this, fun k hk hn => (Below.heap_setCell _ _ _ _ (by omega)).trans (h.block k hk hn)⟩
/-- how many ranges, then these; up to so many -/
def getRS {α : Type} (C : Codec α) (L : Nat) (l : List α) : Option (List (Int × Int) × List α) := match C.get l with
  | none => none
  | some (c, l1) => if L < c then none else getR C c l1
theorem getRS_none {α : Type} {C : Codec α} {L : Nat} {l : List α} (h : C.get l = none) : getRS C L l = none := by unfold getRS; rw [h]
theorem getRS_some {α : Type} {C : Codec α} {L n : Nat} {l u : List α} (h : C.get l = some (n, u)) : getRS C L l = if L < n then none else getR C n u := by unfold getRS; rw [h]
theorem getR_none1 {α : Type} {C : Codec α} {k : Nat} {l : List α} (h : C.get l = none) : getR C (k + 1) l = none := by unfold getR; rw [h]
theorem getR_none2 {α : Type} {C : Codec α} {k lo : Nat} {l u : List α} (h : C.get l = some (lo, u)) (h2 : C.get u = none) : getR C (k + 1) l = none := by unfold getR; rw [h]; simp only; rw [h2]
theorem getR_some {α : Type} {C : Codec α} {k lo hi : Nat} {l u u2 : List α} (h : C.get l = some (lo, u)) (h2 : C.get u = some (hi, u2)) : getR C (k + 1) l = (match getR C k u2 with | none => none | some (R, l3) => some (((lo : Int), (hi : Int)) :: R, l3)) := by
  show (match C.get l with | none => none | some (lo, l1) => match C.get l1 with | none => none | some (hi, l2) => match getR C k l2 with | none => none | some (R, l3) => some (((lo : Int), (hi : Int)) :: R, l3)) = _
  rw [h]; simp only; rw [h2]
set_option maxRecDepth 100000 in
set_option maxHeartbeats 4000000 in
theorem takeRanges67 {α : Type} {f B rb : Nat} {RD : World → List α → Prop} {C : Codec α} (hN : NumR f rb RD C) (hf : Enters f) (hr : Rdr B rb RD) {w : World} {l : List α} (h : RD w l) :
    Calls Tryd.prog 67 #[mv f rb] w fun e w' => Mo w w' rb ∧ ((getRS C 5000 l = none ∧ e = Broke) ∨ ∃ R u g, getRS C 5000 l = some (R, u) ∧ e = .returned (.slice (some ⟨g, 0, none⟩) R.length R.length) ∧ w'.ownsRow w.heap.size 51 2 (.slice (some ⟨g, 0, none⟩) R.length R.length) R.length (O2 R) ∧ RD w' u) := by
  have hlt := hr.lt _ _ h
  cases hg : C.get l with
  | none =>
    have C1 := hN.none h hg
    go_enter Tryd.func67, Tryd.ntmps67
    go_wp2_with (with_reducible refine C1.mono ?_; rintro e w1 ⟨rfl, hM⟩)
    exact ⟨rfl, hM, .inl ⟨getRS_none hg, rfl⟩⟩
  | some p =>
    obtain ⟨n, u⟩ := p
    have C1 := hN.some h hg
    have HGR := hid (getRS_some (L := 5000) hg)
    clear h hg
    by_cases h5 : 5000 < n
    · have b1 : decide ((n : Int) > 5000) = true := by simp; omega
      have b2 : (5000 : Int) < (n : Int) := by omega
      go_enter Tryd.func67, Tryd.ntmps67
      go_wp2_with (with_reducible refine C1.mono ?_; rintro e w1 ⟨rfl, hR1, hM⟩)
      exact ⟨rfl, hM, .inl ⟨by rw [HGR.out, if_pos h5], rfl⟩⟩
    · have b1 : decide ((n : Int) > 5000) = false := by simp; omega
      have b2 : ¬ ((5000 : Int) < (n : Int)) := by omega
      have HGR2 : Hid (getRS C 5000 l = getR C n u) := by show _ = _; rw [HGR.out, if_neg h5]
      clear HGR
      have mk := makeR n (by omega)
      go_enter Tryd.func67, Tryd.ntmps67
      go_wp2_with (with_reducible refine C1.mono ?_; rintro e w1 ⟨rfl, hR1, hM1⟩; have HR1 := hid hR1; have HM1 := hid hM1; clear hR1 hM1 C1)
      obtain ⟨g, hgg⟩ : ∃ g, g = w1.heap.size := ⟨_, rfl⟩
      obtain ⟨W, hW⟩ : ∃ W, W = w1.alloc (.cells (madeCells #[.int .i64 0, .int .i64 0] (n * 2)) 51) := ⟨_, rfl⟩
      rw [← hgg, ← hW]
      have HRow : Hid (RowF W w.heap.size g n [] n) := by rw [hW, hgg]; exact made_rowR n w.heap.size w1 HM1.out.size (by unfold maxLen; omega)
      have HMW : Hid (Mo w W rb) := by rw [hW]; exact HM1.out.trans (Mo.alloc _ _ _)
      have hgr : g ≠ rb := by have := HM1.out.size; omega
      have hgw : w.heap.size ≤ g := by rw [hgg]; exact HM1.out.size
      have HRD : Hid (RD W u) := by rw [hW]; exact hr.kept _ _ _ HR1.out (heap_alloc_old _ _ (by have := HM1.out.size; omega)) (fun b hb => heap_alloc_old _ _ (by have := HM1.out.size; have := hr.low; omega))
      clear hgg hW HM1 HR1 mk b1 b2
      go_loopw [16] (fun y wq => ∃ (i : Nat) (A : List (Int × Int)) (li : List α), y = .int .i64 (i : Int) ∧ i ≤ n ∧ Hid (A.length = i) ∧ Hid (RowF wq w.heap.size g n A (n - i)) ∧ Hid (Mo w wq rb) ∧ Hid (RD wq li) ∧ Hid (getRS C 5000 l = (match getR C (n - i) li with | none => none | some (R, u2) => some (A ++ R, u2)))) (fun y _ => n - (intOf y).toNat)
      case atStart =>
        refine ⟨0, [], u, rfl, by omega, rfl, HRow.out, HMW.out, HRD.out, ?_⟩
        show _ = _
        rw [HGR2.out, Nat.sub_zero]
        cases getR C n u <;> rfl
      case round =>
        clear HRow HMW HRD HGR2
        obtain ⟨i, A, li, rfl, hi, HA, HRow, HM, HRD, HG⟩ := hrel
        by_cases hil : i < n
        · have b1 : decide ((i : Int) < (n : Int)) = true := by simp; omega
          have b2 : (i : Int) < (n : Int) := by omega
          have ad1 : IntKind.i64.wrap ((i : Int) + 1) = (i : Int) + 1 := by simp [IntKind.wrap, IntKind.bits, IntKind.signed]; omega
          obtain ⟨k, hk⟩ : ∃ k, n - i = k + 1 := ⟨n - i - 1, by omega⟩
          rw [hk] at HRow HG
          have HKL : Hid (A.length + (k + 1) = n) := by show _ = _; rw [HA.out]; omega
          have HK := hid hk
          have hrlt := hr.lt _ _ HRD.out
          clear hk
          cases hg1 : C.get li with
          | none =>
            have C1 := hN.none HRD.out hg1
            go_wp2_with (with_reducible refine C1.mono ?_; rintro e w2 ⟨rfl, hM2⟩)
            exact ⟨rfl, HM.out.trans hM2, .inl ⟨by rw [HG.out, getR_none1 hg1], rfl⟩⟩
          | some p =>
            obtain ⟨lo, u1⟩ := p
            have C1 := hN.some HRD.out hg1
            cases hg2 : C.get u1 with
            | none =>
              have C2 : ∀ W, RD W u1 → _ := fun W hW => hN.none (w := W) hW hg2
              have HN0 : Hid (getRS C 5000 l = none) := by show _ = _; rw [HG.out, getR_none2 hg1 hg2]
              clear hg1 hg2 HG
              go_wp2_with (first | (with_reducible refine C1.mono ?_; rintro e w2 ⟨rfl, hR2, hM2⟩; obtain ⟨⟨v0, k0⟩, f0, _, _⟩ := HRow.out.at_ hgr hM2 HKL.out; rw [HA.out] at k0 f0; have HM2 := hid hM2; have D2 := C2 _ (hr.kept _ _ _ hR2 (Below.heap_setCell _ ⟨g, i * 2, none⟩ (.int .i64 (lo : Int)) _ (by exact Ne.symm hgr)) (fun b hb => Below.heap_setCell _ _ _ _ (by have := hr.low; have := hr.lt _ _ hR2; simp; omega))); clear hM2 hR2 C1) | (with_reducible refine D2.mono ?_; rintro e w3 ⟨rfl, hM3⟩))
              have hg2w : w.heap.size ≤ g := hgw
              exact ⟨rfl, ((HM.out.trans HM2.out).setNew (a := ⟨g, i * 2, none⟩) _ hgw).trans hM3, .inl ⟨HN0.out, rfl⟩⟩
            | some p =>
              obtain ⟨hh, u2⟩ := p
              have C2 : ∀ W, RD W u1 → _ := fun W hW => hN.some (w := W) hW hg2
              have HG2 := hid (getR_some (k := k) hg1 hg2)
              clear hg1 hg2
              go_wp2_with (first | (with_reducible refine C1.mono ?_; rintro e w2 ⟨rfl, hR2, hM2⟩; obtain ⟨⟨v0, k0⟩, f0, _, _⟩ := HRow.out.at_ hgr hM2 HKL.out; rw [HA.out] at k0 f0; have HM2 := hid hM2; have D2 := C2 _ (hr.kept _ _ _ hR2 (Below.heap_setCell _ ⟨g, i * 2, none⟩ (.int .i64 (lo : Int)) _ (by exact Ne.symm hgr)) (fun b hb => Below.heap_setCell _ _ _ _ (by have := hr.low; have := hr.lt _ _ hR2; simp; omega))); clear hM2 hR2 C1) | (with_reducible refine D2.mono ?_; rintro e w3 ⟨rfl, hR3, hM3⟩; obtain ⟨⟨v1, k1⟩, f1⟩ := HRow.out.mid (lo := (lo : Int)) hgr HM2.out (by rw [HA.out]; exact hM3) HKL.out; rw [HA.out] at k1 f1; have HM3 := hid hM3; have HR3 := hid hR3; clear hM3 hR3 D2))
              have hrow := HRow.out.set (hi := (hh : Int)) hgr HM2.out (by rw [HA.out]; exact HM3.out)
              rw [HA.out] at hrow
              refine ⟨⟨i + 1, A ++ [((lo : Int), (hh : Int))], u2, by push_cast; rfl, by omega, by show _ = _; rw [List.length_append, HA.out]; rfl, ?_, ?_, ?_, ?_⟩, by simp [intOf]; omega⟩
              · rw [show n - (i + 1) = k by have := HK.out; omega]; exact hrow
              · exact (((HM.out.trans HM2.out).setNew (a := ⟨g, i * 2, none⟩) _ hgw).trans HM3.out).setNew (a := ⟨g, i * 2 + 1, none⟩) _ hgw
              · exact hr.kept _ _ _ HR3.out (Below.heap_setCell _ ⟨g, i * 2 + 1, none⟩ (.int .i64 (hh : Int)) _ (by exact Ne.symm hgr)) (fun b hb => Below.heap_setCell _ _ _ _ (by have := hr.low; have := hr.lt _ _ HR3.out; simp; omega))
              · show _ = _
                rw [show n - (i + 1) = k by have := HK.out; omega, HG.out, HG2.out]
                cases getR C k u2 with
                | none => rfl
                | some p => simp
        · have b1 : decide ((i : Int) < (n : Int)) = false := by simp; omega
          obtain rfl : i = n := by omega
          rw [Nat.sub_self] at HRow HG
          go_wp2
          all_goals go_ret
          have e0 : A ++ List.replicate 0 ((0 : Int), (0 : Int)) = A := by simp
          have hrow := HRow.out
          unfold RowF at hrow
          rw [e0] at hrow
          refine ⟨HM.out, .inr ⟨A, li, g, ?_, ?_, ?_, HRD.out⟩⟩
          · rw [HG.out]; simp [getR]
          · rw [HA.out]; rfl
          · rw [HA.out]; exact hrow
end Go.Proofs.YteanndophopplaaDoor
