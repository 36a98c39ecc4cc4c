/- HELPERS: a place that is noted ahead of a way. -/
import Derived.Test.YtnpocciioedgpaaWo
namespace Go.Proofs.Ytnpocciioedgpaa
open Go.RowKit
set_option linter.unusedVariables false
set_option linter.unusedSimpArgs false
theorem row_set {w : World} {base e n b cap j : Nat} {u : Value} {xs : List Value} (h : w.ownsRow base e 1 (.slice (some ⟨b, 0, none⟩) n cap) n xs) (hj : j < n) : (w.setCell ⟨b, j, none⟩ u).ownsRow base e 1 (.slice (some ⟨b, 0, none⟩) n cap) n (xs.set j u) := by
  refine ⟨by rw [List.length_set]; exact h.1, .inr ?_⟩
  rcases h.2 with ⟨h, _⟩ | ⟨g, cap', cur, he, hb, hgg, h1, h2, h3, h4⟩
  · cases h
  · simp only [Value.slice.injEq, Option.some.injEq, Addr.mk.injEq] at he
    obtain ⟨⟨rfl, _⟩, _, rfl⟩ := he
    refine ⟨b, cap, cur.setIfInBounds j u, rfl, hb, Joins.block_setCell hgg u, h1, h2, by simpa using h3, ?_⟩
    rw [← h4]
    simp only [Array.toList_setIfInBounds]
    rw [List.take_set]
theorem WS.blocks {N : Nat} {w : World} {g : Nat} {C : Cx} {s : Sg} {B : List Nat} (h : WS N w g C s B) : g ∈ B ∧ C.mb ∈ B ∧ C.nb ∈ B := by
  obtain ⟨pv, cs, F, _, _, _, _, rfl⟩ := h.ex
  simp
theorem WS.nblk {N : Nat} {w : World} {g : Nat} {C : Cx} {s : Sg} {B : List Nat} (h : WS N w g C s B) : ∃ cur, w.heap[C.nb]? = some (.cells cur 3 (0, 0)) := by
  have h1 := h.notes
  rcases h1.2 with ⟨h2, _⟩ | ⟨b, cap', cur, he, hb, hgg, _⟩
  · simp [Cx.nv] at h2
  · simp only [Cx.nv, Value.slice.injEq, Option.some.injEq, Addr.mk.injEq] at he
    obtain ⟨⟨rfl, _⟩, _⟩ := he
    exact ⟨cur, hgg⟩
theorem WS.note {N : Nat} {w : World} {g : Nat} {C : Cx} {s : Sg} {B : List Nat} (h : WS N w g C s B) (c : Nat) (hc : c < C.K) (x : Int) : WS N (w.setCell ⟨C.nb, c, none⟩ (.int .i64 x)) g C { s with notes := s.notes.set c x } B := by
  obtain ⟨pv, cs, F, h1, h2, h3, h4, rfl⟩ := h.ex
  obtain ⟨cur, hn⟩ := h.nblk
  obtain ⟨es, cl, hm, hm2⟩ := h.map
  have hkeep : ∀ k, k ≠ C.nb → (w.setCell ⟨C.nb, c, none⟩ (.int .i64 x)).heap[k]? = w.heap[k]? := fun k hk => Below.heap_setCell _ _ _ _ hk
  have hrow : ∀ {e size n : Nat} {v : Value} {xs : List Value}, e ≠ 3 → w.ownsRow N e size v n xs → (w.setCell ⟨C.nb, c, none⟩ (.int .i64 x)).ownsRow N e size v n xs := fun he hr => own_setCell hr (fun e2 => own_ne hr hn he.symm e2)
  refine ⟨⟨pv, cs, F, ?_, hrow (by decide) h2, h3.kept fun k hk => hkeep k (fun e => h4 (e ▸ hk)), h4, rfl⟩, ⟨es, cl, (hkeep _ (fun e => by rw [e, hn] at hm; cases hm)).trans hm, hm2⟩, ?_, by simpa using h.len, h.two, h.few, h.low⟩
  · exact (hkeep g (fun e => by rw [e, hn] at h1; cases h1)).trans h1
  · have hl := h.len
    have := row_set (u := .int .i64 x) (j := c) (b := C.nb) (cap := C.ncap) (n := C.K) (by have := h.notes; rw [hl] at this; exact this) hc
    rw [List.length_set, hl]
    rw [show I64 (s.notes.set c x) = (I64 s.notes).set c (.int .i64 x) by simp [I64, List.map_set]]
    exact this
theorem WS.read {N : Nat} {w : World} {g : Nat} {C : Cx} {s : Sg} {B : List Nat} (h : WS N w g C s B) (c : Nat) (hc : c < C.K) : w.cell? ⟨C.nb, c, none⟩ = some (.int .i64 (s.notes.getD c 0)) := by
  have hl := h.len
  have hN := h.notes
  rw [hl] at hN
  have hN2 : w.ownsRow N 3 1 (.slice (some ⟨C.nb, 0, none⟩) C.K C.ncap) C.K (I64 s.notes) := hN
  rw [hN2.cellAt c (by omega)]
  simp [I64, List.getD, List.getElem?_eq_getElem (show c < s.notes.length by omega)]
theorem WS.drew {N : Nat} {w : World} {g : Nat} {C : Cx} {s : Sg} {B : List Nat} (h : WS N w g C s B) : WS N w.drew g C s B := by
  obtain ⟨pv, cs, F, h1, h2, h3, h4, rfl⟩ := h.ex
  exact ⟨⟨pv, cs, F, h1, h2, h3.kept fun _ _ => rfl, h4, rfl⟩, h.map.same rfl, h.notes, h.len, h.two, h.few, h.low⟩
theorem Chg.trans {w w1 w2 : World} {F F' F2 : List Nat} (h : Chg w w1 F F') (h2 : Chg w1 w2 F' F2) : Chg w w2 F F2 := by
  refine ⟨h2.os.trans h.os, h2.tape.trans h.tape, h2.output.trans h.output, Nat.le_trans h.size h2.size, fun k hk hn => ?_, fun k hk => ?_⟩
  · refine (h2.block k (Nat.lt_of_lt_of_le hk h.size) (fun hm => ?_)).trans (h.block k hk hn)
    rcases h.new k hm with h3 | h3
    · exact hn h3
    · omega
  · rcases h2.new k hk with h3 | h3
    · exact h.new k h3
    · right; have := h.size; omega
theorem Chg.refl (w : World) (F : List Nat) : Chg w w F F := ⟨rfl, rfl, rfl, Nat.le_refl _, fun _ _ _ => rfl, fun _ h => .inl h⟩
set_option maxRecDepth 100000 in
set_option maxHeartbeats 2000000 in
theorem noted95 (N g : Nat) (C : Cx) (s : Sg) (B : List Nat) (w : World) (hW : Hid (WS N w g C s B)) (b3 b4 b5 c : Nat) (v : Value) (p : Nat) (h3 : Bx w b3 60 (pt g)) (h4 : Bx w b4 3 (.int .i64 (c : Int))) (h5 : Bx w b5 84 v)
    (hB3 : b3 ∉ B) (hB4 : b4 ∉ B) (hB5 : b5 ∉ B) (hc : c < C.K) (s' : Sg)
    (hQ : ∀ w', WS N w' g C { s with notes := s.notes.set c (p : Int) } B → Chg w w' B B → CallsV v p w' fun e w2 => e = .returned (.tuple #[]) ∧ ∃ B', WS N w2 g C s' B' ∧ Chg w' w2 B B') :
    Calls Try.prog 95 #[.int .i64 (p : Int), pt b3, pt b4, pt b5] w fun e w2 => e = .returned (.tuple #[]) ∧ ∃ B', WS N w2 g C { s' with notes := s'.notes.set c (s.notes.getD c 0) } B' ∧ Chg w w2 B B' := by
  obtain ⟨pv, cs, F, hg, _⟩ := hW.out.ex
  have few := hW.out.few
  have g5 : w.cell? ⟨g, 5, none⟩ = some (.slice (some ⟨C.nb, 0, none⟩) C.K C.ncap) := Joins.cell_of_block hg 5
  have c3 := bx0 h3
  have c4 := bx0 h4
  obtain ⟨old, hold⟩ : ∃ old, old = s.notes.getD c 0 := ⟨_, rfl⟩
  have rd := hW.out.read c hc
  rw [← hold] at rd ⊢
  obtain ⟨cur, hn⟩ := hW.out.nblk
  have uf := Joins.unfrozen_of_block hn c
  have i1 : (c : Int) < (C.K : Int) := by omega
  have HG := hid hg
  have HWS := hid hW.out
  have HQ := hid hQ
  have HO := hid hold
  have H3 := hid h3
  have H4 := hid h4
  have H5 := hid h5
  clear hg hn h3 h4 h5 hQ hW hold
  go_enter Try.func95, Try.ntmps95
  go_wp2_with fail
  go_region
  all_goals
    go_wp2_with fail
    go_region
    all_goals
      obtain ⟨X, hX⟩ : ∃ X, X = (w.setCell ⟨C.nb, c, none⟩ (.int .i64 (p : Int))).drew.drew := ⟨_, rfl⟩
      rw [← hX]
      have hXs : WS N X g C { s with notes := s.notes.set c (p : Int) } B := by rw [hX]; exact (HWS.out.note c hc (p : Int)).drew.drew
      have hXc : Chg w X B B := by rw [hX]; exact (((Chg.refl w B).set (a := ⟨C.nb, c, none⟩) (.int .i64 (p : Int)) HWS.out.blocks.2.2).drew).drew
      have x5 : X.cell? ⟨b5, 0, none⟩ = some v := bx0 (t := 84) ((hXc.block b5 (bx_lt H5.out) hB5).trans H5.out)
      obtain ⟨f, fi, ca, rfl, hcf, hC⟩ := HQ.out X hXs hXc
      have HXs := hid hXs
      have HXc := hid hXc
      have HX := hid hX
      clear hXs hXc hX
      go_wp2_with ((with_reducible refine hC.mono ?_); rintro e w2 ⟨rfl, B2, hW2, hC2⟩; clear hC; have HC := hid (HXc.out.trans hC2); have HW2 := hid hW2; clear hW2 hC2)
      obtain ⟨pv2, cs2, F2, hg2, _⟩ := HW2.out.ex
      have y5 : w2.cell? ⟨g, 5, none⟩ = some (.slice (some ⟨C.nb, 0, none⟩) C.K C.ncap) := Joins.cell_of_block hg2 5
      have y3 := bx0 (t := 60) ((HC.out.block b3 (bx_lt H3.out) hB3).trans H3.out)
      have y4 := bx0 (t := 3) ((HC.out.block b4 (bx_lt H4.out) hB4).trans H4.out)
      obtain ⟨cur2, hn2⟩ := HW2.out.nblk
      have uf2 := Joins.unfrozen_of_block hn2 c
      have y6 := HW2.out.read c hc
      obtain ⟨old2, hold2⟩ : ∃ old2, old2 = s'.notes.getD c 0 := ⟨_, rfl⟩
      rw [← hold2] at y6
      clear hg2 hn2 hold2
      go_wp2_with fail
      go_region
      all_goals
        go_wp2
        go_end0
        exact ⟨rfl, B2, (HW2.out.note c hc old).drew, ((HC.out.set (a := ⟨C.nb, c, none⟩) (.int .i64 old) HWS.out.blocks.2.2).drew)⟩
end Go.Proofs.Ytnpocciioedgpaa
