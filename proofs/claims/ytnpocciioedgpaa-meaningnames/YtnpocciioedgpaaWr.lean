/- HELPERS: a rune of a class. -/
import Derived.Test.YtnpocciioedgpaaWi
namespace Go.Proofs.Ytnpocciioedgpaa
open Go.RowKit
set_option linter.unusedVariables false
set_option linter.unusedSimpArgs false
/-- a text in memory -/
def TX (w : World) (v : Value) (tx : List Int) (Ft : List Nat) : Prop := ∃ ad cap, v = .slice ad tx.length cap ∧ tx.length ≤ cap ∧
  (tx.length = 0 ∨ ∃ b off, ad = some ⟨b, off, none⟩ ∧ b ∈ Ft ∧ b < w.heap.size ∧ ∀ k, k < tx.length → w.cell? ⟨b, off + k, none⟩ = some (.int .i64 (tx.getD k 0)))
theorem cell_heap {w w' : World} {b : Nat} (h : w'.heap[b]? = w.heap[b]?) (o : Nat) : w'.cell? ⟨b, o, none⟩ = w.cell? ⟨b, o, none⟩ := by
  unfold World.cell?
  simp [h]
theorem TX.kept {w w' : World} {v : Value} {tx : List Int} {Ft : List Nat} (h : TX w v tx Ft) (hk : ∀ k ∈ Ft, k < w.heap.size → w'.heap[k]? = w.heap[k]?) (hs : w.heap.size ≤ w'.heap.size) : TX w' v tx Ft := by
  obtain ⟨ad, cap, h1, h2, h3 | ⟨b, off, rfl, h4, h5, h6⟩⟩ := h
  · exact ⟨ad, cap, h1, h2, .inl h3⟩
  · exact ⟨_, cap, h1, h2, .inr ⟨b, off, rfl, h4, by omega, fun k hk2 => (cell_heap (hk b h4 h5) _).trans (h6 k hk2)⟩⟩
theorem fl_len (A : List (Int × Int)) : (fl A).length = A.length * 2 := by induction A <;> simp_all [fl, encR] <;> omega
theorem fl_at (A : List (Int × Int)) : ∀ k, k < A.length → (fl A)[k * 2]? = some (.int .i64 (A.getD k (0, 0)).1) ∧ (fl A)[k * 2 + 1]? = some (.int .i64 (A.getD k (0, 0)).2) := by
  induction A with
  | nil => intro k hk; simp at hk
  | cons a A ih =>
    intro k hk
    have e : fl (a :: A) = .int .i64 a.1 :: .int .i64 a.2 :: fl A := rfl
    rw [e]
    cases k with
    | zero => simp
    | succ k =>
      have := ih k (by simpa using hk)
      rw [show (k + 1) * 2 = k * 2 + 1 + 1 by omega]
      simpa using this
theorem row_at {w : World} {N0 M : Nat} {rv : Value} {R : Rng} (h : w.ownsRow N0 70 2 rv R.length (fl R)) (hM : w.heap.size ≤ M) : RowAt M w rv R := by
  rcases Joins.ownsRow_forms h with ⟨rfl, h0⟩ | ⟨b, cap, rfl⟩
  · exact ⟨none, 0, by rw [h0], .inl h0⟩
  · have hlt := (h.lt b rfl).2
    refine ⟨_, cap, rfl, .inr ⟨b, 0, rfl, by omega, fun k hk => ?_, fun k hk => ?_⟩⟩
    · rw [Nat.zero_add, h.cellAt (k * 2) (by omega)]; exact (fl_at R k hk).1
    · rw [Nat.zero_add, h.cellAt (k * 2 + 1) (by omega)]; exact (fl_at R k hk).2
set_option maxRecDepth 100000 in
set_option maxHeartbeats 2000000 in
theorem over89 (g : Nat) (tv hv wh m nv pv : Value) (n : Int) (w : World) (tx : List Int) (Ft : List Nat) (hg : w.heap[g]? = some (.cells #[tv, hv, wh, .int .i64 n, m, nv, pv] 86 (0, 0))) (hT : Hid (TX w tv tx Ft)) (b3 b4 b5 p : Nat) (h3 : Bx w b3 60 (pt g))
    (hp : tx.length ≤ p) : Calls Try.prog 89 #[.int .i64 (p : Int), pt b3, pt b4, pt b5] w fun e w' => e = .returned (.tuple #[]) ∧ Below w.heap.size w w' := by
  obtain ⟨ad, cap, rfl, hcap, _⟩ := hT.out
  have c3 := bx0 h3
  have g0 : w.cell? ⟨g, 0, none⟩ = some (.slice ad tx.length cap) := Joins.cell_of_block hg 0
  obtain ⟨l, hl⟩ : ∃ l, l = tx.length := ⟨_, rfl⟩
  rw [← hl] at g0 hp
  have b1 : decide ((p : Int) < (l : Int)) = false := by simp; omega
  have b2 : decide (p < l) = false := by simp; omega
  clear hg h3 hT hl
  go_enter Try.func89, Try.ntmps89
  go_wp2_with fail
  go_region
  all_goals
    go_wp2
    go_end0
    exact ⟨rfl, (Below.refl _ _).drew⟩
set_option maxRecDepth 100000 in
set_option maxHeartbeats 2000000 in
theorem other89 (g N0 : Nat) (tv hv wh m nv pv rv : Value) (n : Int) (w : World) (tx : List Int) (Ft : List Nat) (R : Rng) (hg : w.heap[g]? = some (.cells #[tv, hv, wh, .int .i64 n, m, nv, pv] 86 (0, 0))) (hT : Hid (TX w tv tx Ft)) (b3 b4 b5 p : Nat) (h3 : Bx w b3 60 (pt g))
    (h4 : Bx w b4 25 rv) (hr : w.ownsRow N0 70 2 rv R.length (fl R)) (hRl : R.length ≤ 1000000) (hp : p < tx.length) (hh : (rightB R && hasB R (tx.getD p 0)) = false) :
    Calls Try.prog 89 #[.int .i64 (p : Int), pt b3, pt b4, pt b5] w fun e w' => e = .returned (.tuple #[]) ∧ Below w.heap.size w w' := by
  obtain ⟨ad, cap, rfl, hcap, h0 | ⟨tb, off, rfl, _, htl, hcell⟩⟩ := hT.out
  · omega
  obtain ⟨s1, s3, rfl⟩ : ∃ s1 s3, rv = .slice s1 R.length s3 := by
    rcases Joins.ownsRow_forms hr with ⟨rfl, h⟩ | ⟨b, cap, rfl⟩
    · exact ⟨none, 0, by rw [h]⟩
    · exact ⟨_, _, rfl⟩
  have c3 := bx0 h3
  have c4 := bx0 h4
  have g0 : w.cell? ⟨g, 0, none⟩ = some (.slice (some ⟨tb, off, none⟩) tx.length cap) := Joins.cell_of_block hg 0
  have t0 := hcell p hp
  obtain ⟨r, hrr⟩ : ∃ r, r = tx.getD p 0 := ⟨_, rfl⟩
  rw [← hrr] at t0 hh
  obtain ⟨l, hl⟩ : ∃ l, l = tx.length := ⟨_, rfl⟩
  rw [← hl] at g0 hp hcap
  have b1 : decide ((p : Int) < (l : Int)) = true := by simp; omega
  have b2 : decide (p < l) = true := by simp; omega
  have b3' : (p : Int) < (l : Int) := by omega
  have H0 : Calls Try.prog 90 #[.slice s1 R.length s3, .int .i64 r] w.drew fun e w' => e = .returned (.bool false) ∧ Below w.heap.size w w' :=
    Calls.mono (has30 R s1 R.length s3 r w.drew (by exact rfl) (by omega) (by exact row_at (show w.drew.ownsRow N0 70 2 _ _ _ from hr) (Nat.le_refl _))) fun e w' h => ⟨by rw [h.1, hh], ⟨h.2.os, h.2.tape, h.2.output, h.2.size, h.2.block⟩⟩
  clear hg h3 h4 hT hl hr hrr hcell hh
  go_enter Try.func89, Try.ntmps89
  go_wp2_with fail
  go_region_with (go_at_call 90; (with_reducible refine H0.mono ?_); rintro e w2 ⟨rfl, hb2⟩)
  all_goals
    go_wp2
    go_end0
    exact ⟨rfl, hb2⟩
set_option maxRecDepth 100000 in
set_option maxHeartbeats 2000000 in
theorem rune89 (g N0 : Nat) (tv hv wh m nv pv rv : Value) (n : Int) (w : World) (tx : List Int) (Ft : List Nat) (R : Rng) (hg : w.heap[g]? = some (.cells #[tv, hv, wh, .int .i64 n, m, nv, pv] 86 (0, 0))) (hT : Hid (TX w tv tx Ft)) (b3 b4 b5 p : Nat) (h3 : Bx w b3 60 (pt g))
    (h4 : Bx w b4 25 rv) (hr : w.ownsRow N0 70 2 rv R.length (fl R)) (hRl : R.length ≤ 1000000) (hp : p < tx.length) (hh : (rightB R && hasB R (tx.getD p 0)) = true)
    (v : Value) (h5 : Bx w b5 84 v) (hpl : p < 1000000) (P : World → Prop) (hQ : ∀ w', Below w.heap.size w w' → CallsV v (p + 1) w' fun e w2 => e = .returned (.tuple #[]) ∧ P w2) :
    Calls Try.prog 89 #[.int .i64 (p : Int), pt b3, pt b4, pt b5] w fun e w' => e = .returned (.tuple #[]) ∧ P w' := by
  obtain ⟨ad, cap, rfl, hcap, h0 | ⟨tb, off, rfl, _, htl, hcell⟩⟩ := hT.out
  · omega
  obtain ⟨s1, s3, rfl⟩ : ∃ s1 s3, rv = .slice s1 R.length s3 := by
    rcases Joins.ownsRow_forms hr with ⟨rfl, h⟩ | ⟨b, cap, rfl⟩
    · exact ⟨none, 0, by rw [h]⟩
    · exact ⟨_, _, rfl⟩
  have c3 := bx0 h3
  have c4 := bx0 h4
  have g0 : w.cell? ⟨g, 0, none⟩ = some (.slice (some ⟨tb, off, none⟩) tx.length cap) := Joins.cell_of_block hg 0
  have t0 := hcell p hp
  obtain ⟨r, hrr⟩ : ∃ r, r = tx.getD p 0 := ⟨_, rfl⟩
  rw [← hrr] at t0 hh
  obtain ⟨l, hl⟩ : ∃ l, l = tx.length := ⟨_, rfl⟩
  rw [← hl] at g0 hp hcap
  have b1 : decide ((p : Int) < (l : Int)) = true := by simp; omega
  have b2 : decide (p < l) = true := by simp; omega
  have b3' : (p : Int) < (l : Int) := by omega
  have H0 : Calls Try.prog 90 #[.slice s1 R.length s3, .int .i64 r] w.drew fun e w' => e = .returned (.bool true) ∧ Below w.heap.size w w' :=
    Calls.mono (has30 R s1 R.length s3 r w.drew (by exact rfl) (by omega) (by exact row_at (show w.drew.ownsRow N0 70 2 _ _ _ from hr) (Nat.le_refl _))) fun e w' h => ⟨by rw [h.1, hh], ⟨h.2.os, h.2.tape, h.2.output, h.2.size, h.2.block⟩⟩
  have H5 := hid h5
  have HQ := hid hQ
  clear hg h3 h4 hT hl hr hrr hcell hh h5 hQ
  go_enter Try.func89, Try.ntmps89
  go_wp2_with fail
  go_region_with (go_at_call 90; (with_reducible refine H0.mono ?_); rintro e w2 ⟨rfl, hb2⟩)
  all_goals
    have x5 : w2.cell? ⟨b5, 0, none⟩ = some v := bx0 (t := 84) ((hb2.block b5 (bx_lt H5.out)).trans H5.out)
    obtain ⟨f, fi, ca, rfl, hcf, hC⟩ := HQ.out w2 hb2
    have ad1 : IntKind.i64.wrap ((p : Int) + 1) = (p : Int) + 1 := by simp [IntKind.wrap, IntKind.bits, IntKind.signed]; omega
    rw [show ((p + 1 : Nat) : Int) = (p : Int) + 1 by omega] at hC
    go_wp2_with ((with_reducible refine hC.mono ?_); rintro e w3 ⟨rfl, hP⟩)
    go_end0
    exact ⟨rfl, hP⟩
end Go.Proofs.Ytnpocciioedgpaa
