/- HELPERS: Wr, Wh, Wt, Wx, Ba, Bb, Bc, Bd, Ta, Tb, Tc, Ca. -/
import Derived.Test.YtnpocciioedgpaaK01
import Derived.WalkLawsBesides
import Derived.Lib.LazyBuf
import Derived.Deep.Cut
import Derived.Laws.EntriesVeiled
import Derived.Deep.RegionHeld2
import Derived.Deep.SlicePairs
import Derived.RowKit
/- HELPERS: a rune of a class. -/
namespace Go.Proofs.Ytnpocciioedgpaa
open Go.RowKit
set_option linter.unusedVariables false
set_option linter.unusedSimpArgs false
/-- a text in memory -/
def TX (w : World) (v : Value) (tx : List Int) (Ft : List Nat) : Prop := ∃ ad cap, v = .slice ad tx.length cap ∧ tx.length ≤ cap ∧
  (tx.length = 0 ∨ ∃ b off, ad = some ⟨b, off, none⟩ ∧ b ∈ Ft ∧ b < w.heap.size ∧ ∀ k, k < tx.length → w.cell? ⟨b, off + k, none⟩ = some (.int .i64 (tx.getD k 0)))
theorem cell_heap {w w' : World} {b : Nat} (h : w'.heap[b]? = w.heap[b]?) (o : Nat) : w'.cell? ⟨b, o, none⟩ = w.cell? ⟨b, o, none⟩ := by
  unfold World.cell?
  simp [h]
theorem TX.kept {w w' : World} {v : Value} {tx : List Int} {Ft : List Nat} (h : TX w v tx Ft) (hk : ∀ k ∈ Ft, k < w.heap.size → w'.heap[k]? = w.heap[k]?) (hs : w.heap.size ≤ w'.heap.size) : TX w' v tx Ft := by
  obtain ⟨ad, cap, h1, h2, h3 | ⟨b, off, rfl, h4, h5, h6⟩⟩ := h
  · exact ⟨ad, cap, h1, h2, .inl h3⟩
  · exact ⟨_, cap, h1, h2, .inr ⟨b, off, rfl, h4, by omega, fun k hk2 => (cell_heap (hk b h4 h5) _).trans (h6 k hk2)⟩⟩
theorem fl_len (A : List (Int × Int)) : (fl A).length = A.length * 2 := by induction A <;> simp_all [fl, encR] <;> omega
theorem fl_at (A : List (Int × Int)) : ∀ k, k < A.length → (fl A)[k * 2]? = some (.int .i64 (A.getD k (0, 0)).1) ∧ (fl A)[k * 2 + 1]? = some (.int .i64 (A.getD k (0, 0)).2) := by
  induction A with
  | nil => intro k hk; simp at hk
  | cons a A ih =>
    intro k hk
    have e : fl (a :: A) = .int .i64 a.1 :: .int .i64 a.2 :: fl A := rfl
    rw [e]
    cases k with
    | zero => simp
    | succ k =>
      have := ih k (by simpa using hk)
      rw [show (k + 1) * 2 = k * 2 + 1 + 1 by omega]
      simpa using this
theorem row_at {w : World} {N0 M : Nat} {rv : Value} {R : Rng} (h : w.ownsRow N0 70 2 rv R.length (fl R)) (hM : w.heap.size ≤ M) : RowAt M w rv R := by
  rcases Joins.ownsRow_forms h with ⟨rfl, h0⟩ | ⟨b, cap, rfl⟩
  · exact ⟨none, 0, by rw [h0], .inl h0⟩
  · have hlt := (h.lt b rfl).2
    refine ⟨_, cap, rfl, .inr ⟨b, 0, rfl, by omega, fun k hk => ?_, fun k hk => ?_⟩⟩
    · rw [Nat.zero_add, h.cellAt (k * 2) (by omega)]; exact (fl_at R k hk).1
    · rw [Nat.zero_add, h.cellAt (k * 2 + 1) (by omega)]; exact (fl_at R k hk).2
set_option maxRecDepth 100000 in
set_option maxHeartbeats 2000000 in
theorem over89 (g : Nat) (tv hv wh m nv pv : Value) (n : Int) (w : World) (tx : List Int) (Ft : List Nat) (hg : w.heap[g]? = some (.cells #[tv, hv, wh, .int .i64 n, m, nv, pv] 86 (0, 0))) (hT : Hid (TX w tv tx Ft)) (b3 b4 b5 p : Nat) (h3 : Bx w b3 60 (pt g))
    (hp : tx.length ≤ p) : Calls Try.prog 89 #[.int .i64 (p : Int), pt b3, pt b4, pt b5] w fun e w' => e = .returned (.tuple #[]) ∧ Below w.heap.size w w' := by
  obtain ⟨ad, cap, rfl, hcap, _⟩ := hT.out
  have c3 := bx0 h3
  have g0 : w.cell? ⟨g, 0, none⟩ = some (.slice ad tx.length cap) := Joins.cell_of_block hg 0
  obtain ⟨l, hl⟩ : ∃ l, l = tx.length := ⟨_, rfl⟩
  rw [← hl] at g0 hp
  have b1 : decide ((p : Int) < (l : Int)) = false := by simp; omega
  have b2 : decide (p < l) = false := by simp; omega
  clear hg h3 hT hl
  go_enter Try.func89, Try.ntmps89
  go_wp2_with fail
  go_region
  all_goals
    go_wp2
    go_end0
    exact ⟨rfl, (Below.refl _ _).drew⟩
set_option maxRecDepth 100000 in
set_option maxHeartbeats 2000000 in
theorem other89 (g : Nat) (GR : List Nat) (tv hv wh m nv pv rv : Value) (n : Int) (w : World) (tx : List Int) (Ft : List Nat) (R : Rng) (hg : w.heap[g]? = some (.cells #[tv, hv, wh, .int .i64 n, m, nv, pv] 86 (0, 0))) (hT : Hid (TX w tv tx Ft)) (b3 b4 b5 p : Nat) (h3 : Bx w b3 60 (pt g))
    (h4 : Bx w b4 25 rv) (hr : RowIn w rv R GR) (hRl : R.length ≤ 1000000) (hp : p < tx.length) (hh : (rightB R && hasB R (tx.getD p 0)) = false) :
    Calls Try.prog 89 #[.int .i64 (p : Int), pt b3, pt b4, pt b5] w fun e w' => e = .returned (.tuple #[]) ∧ Below w.heap.size w w' := by
  obtain ⟨ad, cap, rfl, hcap, h0 | ⟨tb, off, rfl, _, htl, hcell⟩⟩ := hT.out
  · omega
  obtain ⟨s1, s3, rfl⟩ := hr.form
  have c3 := bx0 h3
  have c4 := bx0 h4
  have g0 : w.cell? ⟨g, 0, none⟩ = some (.slice (some ⟨tb, off, none⟩) tx.length cap) := Joins.cell_of_block hg 0
  have t0 := hcell p hp
  obtain ⟨r, hrr⟩ : ∃ r, r = tx.getD p 0 := ⟨_, rfl⟩
  rw [← hrr] at t0 hh
  obtain ⟨l, hl⟩ : ∃ l, l = tx.length := ⟨_, rfl⟩
  rw [← hl] at g0 hp hcap
  have b1 : decide ((p : Int) < (l : Int)) = true := by simp; omega
  have b2 : decide (p < l) = true := by simp; omega
  have b3' : (p : Int) < (l : Int) := by omega
  have H0 : Calls Try.prog 90 #[.slice s1 R.length s3, .int .i64 r] w.drew fun e w' => e = .returned (.bool false) ∧ Below w.heap.size w w' :=
    Calls.mono (has30 R s1 R.length s3 r w.drew (by exact rfl) (by omega) (by exact (hr.kept (w' := w.drew) (fun _ _ => rfl)).at (Nat.le_refl _))) fun e w' h => ⟨by rw [h.1, hh], ⟨h.2.os, h.2.tape, h.2.output, h.2.size, h.2.block⟩⟩
  clear hg h3 h4 hT hl hr hrr hcell hh
  go_enter Try.func89, Try.ntmps89
  go_wp2_with fail
  go_region_with (go_at_call 90; (with_reducible refine H0.mono ?_); rintro e w2 ⟨rfl, hb2⟩)
  all_goals
    go_wp2
    go_end0
    exact ⟨rfl, hb2⟩
set_option maxRecDepth 100000 in
set_option maxHeartbeats 2000000 in
theorem rune89 (g : Nat) (GR : List Nat) (tv hv wh m nv pv rv : Value) (n : Int) (w : World) (tx : List Int) (Ft : List Nat) (R : Rng) (hg : w.heap[g]? = some (.cells #[tv, hv, wh, .int .i64 n, m, nv, pv] 86 (0, 0))) (hT : Hid (TX w tv tx Ft)) (b3 b4 b5 p : Nat) (h3 : Bx w b3 60 (pt g))
    (h4 : Bx w b4 25 rv) (hr : RowIn w rv R GR) (hRl : R.length ≤ 1000000) (hp : p < tx.length) (hh : (rightB R && hasB R (tx.getD p 0)) = true)
    (v : Value) (h5 : Bx w b5 84 v) (hpl : p < 1000000) (P : World → Prop) (hQ : ∀ w', Below w.heap.size w w' → CallsV v (p + 1) w' fun e w2 => e = .returned (.tuple #[]) ∧ P w2) :
    Calls Try.prog 89 #[.int .i64 (p : Int), pt b3, pt b4, pt b5] w fun e w' => e = .returned (.tuple #[]) ∧ P w' := by
  obtain ⟨ad, cap, rfl, hcap, h0 | ⟨tb, off, rfl, _, htl, hcell⟩⟩ := hT.out
  · omega
  obtain ⟨s1, s3, rfl⟩ := hr.form
  have c3 := bx0 h3
  have c4 := bx0 h4
  have g0 : w.cell? ⟨g, 0, none⟩ = some (.slice (some ⟨tb, off, none⟩) tx.length cap) := Joins.cell_of_block hg 0
  have t0 := hcell p hp
  obtain ⟨r, hrr⟩ : ∃ r, r = tx.getD p 0 := ⟨_, rfl⟩
  rw [← hrr] at t0 hh
  obtain ⟨l, hl⟩ : ∃ l, l = tx.length := ⟨_, rfl⟩
  rw [← hl] at g0 hp hcap
  have b1 : decide ((p : Int) < (l : Int)) = true := by simp; omega
  have b2 : decide (p < l) = true := by simp; omega
  have b3' : (p : Int) < (l : Int) := by omega
  have H0 : Calls Try.prog 90 #[.slice s1 R.length s3, .int .i64 r] w.drew fun e w' => e = .returned (.bool true) ∧ Below w.heap.size w w' :=
    Calls.mono (has30 R s1 R.length s3 r w.drew (by exact rfl) (by omega) (by exact (hr.kept (w' := w.drew) (fun _ _ => rfl)).at (Nat.le_refl _))) fun e w' h => ⟨by rw [h.1, hh], ⟨h.2.os, h.2.tape, h.2.output, h.2.size, h.2.block⟩⟩
  have H5 := hid h5
  have HQ := hid hQ
  clear hg h3 h4 hT hl hr hrr hcell hh h5 hQ
  go_enter Try.func89, Try.ntmps89
  go_wp2_with fail
  go_region_with (go_at_call 90; (with_reducible refine H0.mono ?_); rintro e w2 ⟨rfl, hb2⟩)
  all_goals
    have x5 : w2.cell? ⟨b5, 0, none⟩ = some v := bx0 (t := 84) ((hb2.block b5 (bx_lt H5.out)).trans H5.out)
    obtain ⟨f, fi, ca, rfl, hcf, hC⟩ := HQ.out w2 hb2
    have ad1 : IntKind.i64.wrap ((p : Int) + 1) = (p : Int) + 1 := by simp [IntKind.wrap, IntKind.bits, IntKind.signed]; omega
    rw [show ((p + 1 : Nat) : Int) = (p : Int) + 1 by omega] at hC
    go_wp2_with ((with_reducible refine hC.mono ?_); rintro e w3 ⟨rfl, hP⟩)
    go_end0
    exact ⟨rfl, hP⟩
end Go.Proofs.Ytnpocciioedgpaa
/- HELPERS: what is asserted holds, or not. -/
namespace Go.Proofs.Ytnpocciioedgpaa
open Go.RowKit
set_option linter.unusedVariables false
set_option linter.unusedSimpArgs false
/-- what holds at each place -/
def hols (tx : List Int) : List Int := (List.range (tx.length + 1)).map fun (p : Nat) => Look.atN tx (p : Int)
theorem hols_len (tx : List Int) : (hols tx).length = tx.length + 1 := by simp [hols]
theorem hols_at (tx : List Int) (p : Nat) (hp : p ≤ tx.length) : (hols tx).getD p 0 = Look.atN tx (p : Int) := by
  have h : p < tx.length + 1 := by omega
  simp [hols, List.getD_eq_getElem?_getD, List.getElem?_range h]
set_option maxRecDepth 100000 in
set_option maxHeartbeats 2000000 in
theorem fails91 (g : Nat) (tv hv wh m nv pv : Value) (n : Int) (w : World) (tx : List Int) (Ft : List Nat) (hg : w.heap[g]? = some (.cells #[tv, hv, wh, .int .i64 n, m, nv, pv] 86 (0, 0))) (hT : Hid (TX w hv (hols tx) Ft)) (b4 b3 b5 p : Nat) (a : Int) (h4 : Bx w b4 3 (.int .i64 a)) (h3 : Bx w b3 60 (pt g))
    (hp : p ≤ tx.length) (hh : heldB tx a p = false) : Calls Try.prog 91 #[.int .i64 (p : Int), pt b4, pt b3, pt b5] w fun e w' => e = .returned (.tuple #[]) ∧ Below w.heap.size w w' := by
  obtain ⟨ad, cap, rfl, hcap, h0 | ⟨tb, off, rfl, _, htl, hcell⟩⟩ := hT.out
  · rw [hols_len] at h0; omega
  have c3 := bx0 h3
  have c4 := bx0 h4
  rw [hols_len] at hcap
  have g1 : w.cell? ⟨g, 1, none⟩ = some (.slice (some ⟨tb, off, none⟩) (tx.length + 1) cap) := by rw [← hols_len]; exact Joins.cell_of_block hg 1
  have t0 := hcell p (by rw [hols_len]; omega)
  rw [hols_at tx p hp] at t0
  unfold heldB at hh
  obtain ⟨r, hrr⟩ : ∃ r, r = Look.atN tx (p : Int) := ⟨_, rfl⟩
  rw [← hrr] at t0 hh
  obtain ⟨l, hl⟩ : ∃ l, l = tx.length + 1 := ⟨_, rfl⟩
  rw [← hl] at g1 hcap
  have b1 : decide ((p : Int) < (l : Int)) = true := by simp; omega
  have b2 : decide (p < l) = true := by simp; omega
  have b3' : (p : Int) < (l : Int) := by omega
  have H0 : Calls Try.prog 92 #[.int .i64 a, .int .i64 r] w.drew fun e w' => e = .returned (.bool false) ∧ Below w.heap.size w w' :=
    Calls.mono (Look.holds13 a r w.drew) fun e w' h => ⟨by rw [h.1, hh], by rw [h.2]; exact (Below.refl _ _).drew⟩
  clear hg h3 h4 hT hl hrr hcell hh
  go_enter Try.func91, Try.ntmps91
  go_wp2_with fail
  go_region_with (go_at_call 92; (with_reducible refine H0.mono ?_); rintro e w2 ⟨rfl, hb2⟩)
  all_goals
    go_wp2
    go_end0
    exact ⟨rfl, hb2⟩
set_option maxRecDepth 100000 in
set_option maxHeartbeats 2000000 in
theorem holds91 (g : Nat) (tv hv wh m nv pv : Value) (n : Int) (w : World) (tx : List Int) (Ft : List Nat) (hg : w.heap[g]? = some (.cells #[tv, hv, wh, .int .i64 n, m, nv, pv] 86 (0, 0))) (hT : Hid (TX w hv (hols tx) Ft)) (b4 b3 b5 p : Nat) (a : Int) (h4 : Bx w b4 3 (.int .i64 a)) (h3 : Bx w b3 60 (pt g))
    (hp : p ≤ tx.length) (hh : heldB tx a p = true) (v : Value) (h5 : Bx w b5 84 v) (P : World → Prop) (hQ : ∀ w', Below w.heap.size w w' → CallsV v p w' fun e w2 => e = .returned (.tuple #[]) ∧ P w2) :
    Calls Try.prog 91 #[.int .i64 (p : Int), pt b4, pt b3, pt b5] w fun e w' => e = .returned (.tuple #[]) ∧ P w' := by
  obtain ⟨ad, cap, rfl, hcap, h0 | ⟨tb, off, rfl, _, htl, hcell⟩⟩ := hT.out
  · rw [hols_len] at h0; omega
  have c3 := bx0 h3
  have c4 := bx0 h4
  rw [hols_len] at hcap
  have g1 : w.cell? ⟨g, 1, none⟩ = some (.slice (some ⟨tb, off, none⟩) (tx.length + 1) cap) := by rw [← hols_len]; exact Joins.cell_of_block hg 1
  have t0 := hcell p (by rw [hols_len]; omega)
  rw [hols_at tx p hp] at t0
  unfold heldB at hh
  obtain ⟨r, hrr⟩ : ∃ r, r = Look.atN tx (p : Int) := ⟨_, rfl⟩
  rw [← hrr] at t0 hh
  obtain ⟨l, hl⟩ : ∃ l, l = tx.length + 1 := ⟨_, rfl⟩
  rw [← hl] at g1 hcap
  have b1 : decide ((p : Int) < (l : Int)) = true := by simp; omega
  have b2 : decide (p < l) = true := by simp; omega
  have b3' : (p : Int) < (l : Int) := by omega
  have H0 : Calls Try.prog 92 #[.int .i64 a, .int .i64 r] w.drew fun e w' => e = .returned (.bool true) ∧ Below w.heap.size w w' :=
    Calls.mono (Look.holds13 a r w.drew) fun e w' h => ⟨by rw [h.1, hh], by rw [h.2]; exact (Below.refl _ _).drew⟩
  have H5 := hid h5
  have HQ := hid hQ
  clear hg h3 h4 hT hl hrr hcell hh h5 hQ
  go_enter Try.func91, Try.ntmps91
  go_wp2_with fail
  go_region_with (go_at_call 92; (with_reducible refine H0.mono ?_); rintro e w2 ⟨rfl, hb2⟩)
  all_goals
    have x5 : w2.cell? ⟨b5, 0, none⟩ = some v := bx0 (t := 84) ((hb2.block b5 (bx_lt H5.out)).trans H5.out)
    obtain ⟨f, fi, ca, rfl, hcf, hC⟩ := HQ.out w2 hb2
    go_wp2_with ((with_reducible refine hC.mono ?_); rintro e w3 ⟨rfl, hP⟩)
    go_end0
    exact ⟨rfl, hP⟩
end Go.Proofs.Ytnpocciioedgpaa
/- HELPERS: coming through. -/
namespace Go.Proofs.Ytnpocciioedgpaa
open Go.RowKit
set_option linter.unusedVariables false
set_option linter.unusedSimpArgs false
/-- what List answers: nothing, or a row of its own -/
def Cloned (w w' : World) (e : Ending) (l : List Int) : Prop := ∃ v, e = .returned v ∧ w'.ownsRow w.heap.size 3 1 v l.length (I64 l) ∧ Below w.heap.size w w'
theorem eql_nil (t e : TypeId) (a : Option Addr) (l c : Nat) (h : Try.prog.underlying t = some (.slice e)) (w : World) : (binOp .eql t (.slice a l c) (.slice none 0 0)).run Try.prog w = .ok (.bool a.isNone) w := by
  simp only [binOp]
  simp [run_equal_slice_nil w t e a l c h]
set_option maxHeartbeats 1000000 in
theorem clone71 (N : Nat) (ov : Value) (l : List Int) (w : World) (ho : Hid (w.ownsRow N 3 1 ov l.length (I64 l))) (hl : l.length ≤ 1048576) :
    Calls Try.prog 71 #[ov] w fun e w' => Cloned w w' e l := by
  rcases Joins.ownsRow_forms ho.out with ⟨rfl, h0⟩ | ⟨b, cap, rfl⟩
  · have hl0 : l = [] := List.eq_nil_of_length_eq_zero h0
    subst hl0
    have hq := eql_nil 29 3 none 0 0 Try.underlying29
    simp only [Option.isNone_none] at hq
    go_enter Try.func71, Try.ntmps71
    go_wp2
    go_ret
    exact ⟨_, rfl, World.ownsRow_nil _ _ _ _, Below.refl _ _⟩
  · have hblt := (ho.out.lt b rfl).2
    have hcell : ∀ j u, (I64 l)[j]? = some u → (w.alloc (.cells #[] 3)).cell? ((⟨b, 0, none⟩ : Addr).add j) = some u := ((ho.out.alloc _).cells (g := b) rfl)
    have HC : Hid (∀ j u, (I64 l)[j]? = some u → (w.alloc (.cells #[] 3)).cell? ((⟨b, 0, none⟩ : Addr).add j) = some u) := hcell
    have HO0 : Hid ((w.alloc (.cells #[] 3)).ownsRow w.heap.size 3 1 (.slice (some ⟨w.heap.size, 0, none⟩) 0 0) 0 []) := by
      have := World.ownsRow_lit (base := w.heap.size) (e := 3) (size := 1) w #[] 0 (Nat.le_refl _) (by unfold maxLen; omega) rfl
      have t : (w.alloc (.cells #[] 3)).ownsRow w.heap.size 3 1 (.slice (some ⟨w.heap.size, 0, none⟩) 0 0) 0 [] := by simpa using this
      exact t
    obtain ⟨i0, hi, hz0, hz1, hz2⟩ := info_parts info3
    have hq := eql_nil 29 3 (some ⟨b, 0, none⟩) l.length cap Try.underlying29
    simp only [Option.isNone_some] at hq
    clear hcell ho
    go_enter Try.func71, Try.ntmps71
    go_wp2_with (at_builtin; refine wpList_append_own _ rfl (.tmp 5) (.tmp 6) 29 rfl w.heap.size 3 i0 (.int .i64 0) 1 8 Try.underlying29 hi hz0 hz1 hz2 rfl (by decide) _ 0 [] rfl HO0.out ⟨b, 0, none⟩ l.length cap (I64 l) rfl (by simp) HC.out (one_cell_ints l) (by unfold maxLen; omega) (by omega) (by simp) ?_)
    intro v' w1 ho1 hg1 _
    go_wp2
    go_ret
    refine ⟨_, rfl, by simpa using ho1, ?_⟩
    exact ((Below.refl _ _).alloc (Nat.le_refl _) _).grown hg1 (by simp) (fun k hk => by simp [Value.ownBlock] at hk; omega)
theorem run_append_moveN {P : Program} (w : World) (base : Nat) (t ty e : TypeId) (i : TypeInfo) (z : Value) (size bytes : Nat) (ht : P.underlying t = some (.slice e)) (hi : P.info? e = some i) (hz : i.zero = some z)
    (hsize : i.size = size) (hby : i.bytes = bytes) (hzs : z.cells.size = size) (hpos : 0 < size)
    (v : Value) (n : Nat) (xs : List Value) (hown : w.ownsRow base e size v n xs)
    (a : Addr) (m c : Nat) (news : List Value) (hl : news.length = m * size) (hm : 0 < m) (hnews : ∀ j u, news[j]? = some u → w.cell? (a.add j) = some u) (h1 : ∀ u ∈ news, u.oneCell' = true)
    (h63 : n + m ≤ maxLen) (hbytes : (n + m) * bytes ≤ 140737488355328) (hbase : base ≤ w.heap.size) :
    ∃ v' w', (Builtin.append_ #[t, t] ty #[v, .slice (some a) m c]).run P w = .ok v' w' ∧ w'.ownsRow base e size v' (n + m) (xs ++ news) ∧ Moved w w' v v' := by
  obtain ⟨v', w', hrun, h2, h3, h4, h5⟩ := run_append_own_at (P := P) w base t ty e i z size bytes ht hi hz hsize hby hzs hpos v n xs hown a m c news hl hnews h1 h63 hbytes hbase
  refine ⟨v', w', hrun, h2, ?_⟩
  rcases hown.2 with ⟨rfl, rfl⟩ | ⟨g, cap, cur, rfl, hbg, hg, hnc, hcm, hcs, htake⟩
  · rcases h5 with h5 | h5
    · exact .inl ⟨h5, h3⟩
    · exact .inr ⟨h5, h3⟩
  · by_cases hroom : n + m ≤ cap
    · have hr := run_append_room (P := P) w t ty e i ht hi g n cap cur hg a m c news (by rw [hsize]; omega) hnews h1 hroom (by rw [hsize, hcs, hl, ← Nat.add_mul]; exact Nat.mul_le_mul_right _ hroom)
      have he := hrun.symm.trans hr
      injection he with e1 e2
      left
      exact ⟨by rw [e1]; rfl, h3⟩
    · have holds : ∀ j u, xs[j]? = some u → w.cell? ((⟨g, 0, none⟩ : Addr).add j) = some u := hown.cells (g := g) rfl
      have hr := run_append_grow (P := P) w t ty e i z ht hi hz ⟨g, 0, none⟩ n cap xs (by rw [hsize]; exact hown.1) holds a m c news (by rw [hsize]; omega) hnews (by omega) (by unfold maxLen at h63; omega) (growslice_fits (by omega) (by rw [hby]; exact hbytes))
      have he := hrun.symm.trans hr
      injection he with e1 e2
      right
      refine ⟨by rw [e1]; rfl, ?_⟩
      rw [e2]
      exact ⟨rfl, rfl, rfl, by simp, fun k hk _ => heap_alloc_old w.drew _ hk⟩
theorem wpList_append_moveN {P : Program} {w : World} {ops : Array Oper} {rest : List Oper} {o : Oper} {a : Act} {Q : Exit → Act → World → Prop} (hgd : o.guard = none) (s x : Operand) (t : TypeId)
    (ho : o.op = .call { callee := .builtin .append, args := #[s, x], argTypes := #[t, t] })
    (base : Nat) (e : TypeId) (i : TypeInfo) (z : Value) (size bytes : Nat) (ht : P.underlying t = some (.slice e)) (hi : P.info? e = some i) (hz : i.zero = some z)
    (hsize : i.size = size) (hby : i.bytes = bytes) (hzs : z.cells.size = size) (hpos : 0 < size)
    (v : Value) (n : Nat) (xs : List Value) (hs : a.eval s = v) (hown : w.ownsRow base e size v n xs)
    (ad : Addr) (m c : Nat) (news : List Value) (hx : a.eval x = .slice (some ad) m c) (hl : news.length = m * size) (hm : 0 < m) (hnews : ∀ j u, news[j]? = some u → w.cell? (ad.add j) = some u) (h1 : ∀ u ∈ news, u.oneCell' = true)
    (h63 : n + m ≤ maxLen) (hbytes : (n + m) * bytes ≤ 140737488355328) (hbase : base ≤ w.heap.size)
    (h : ∀ v' w', Hid (w'.ownsRow base e size v' (n + m) (xs ++ news)) → Hid (Moved w w' v v') → wpList P ops Q rest (a.put o.dst v') w') : wpList P ops Q (o :: rest) a w := by
  refine wpList_plain hgd fun K hK => ?_
  obtain ⟨v', w', hr, h2, h3⟩ := run_append_moveN (P := P) w base t o.type e i z size bytes ht hi hz hsize hby hzs hpos v n xs hown ad m c news hl hm hnews h1 h63 hbytes hbase
  unfold Oper.wp execOp
  simp only [ho, resolve, invoke, builtin, Sem.run_bind, Sem.run_pure, Result.andThen_ok, List.map_toArray, List.map_cons, List.map_nil, hs, hx, hr]
  exact hK _ _ (h v' w' h2 h3)
theorem info53 : (Try.prog.info? 53).map (fun i => (i.zero, i.size, i.bytes)) = some (some (.agg #[.int .i64 0, .slice none 0 0]), 2, 32) := by kernel_rfl
theorem PR.typ {N : Nat} {w : World} {cs : List Value} {l : List (Int × List Int)} {F : List Nat} (h : PR N w cs l F) : ∀ k ∈ F, ∃ cur, w.heap[k]? = some (.cells cur 3 (0, 0)) := by
  induction h with
  | nil => intro k hk; cases hk
  | cons h hl ih =>
    intro k hk
    rcases List.mem_append.1 hk with hk | hk
    · rcases h.2 with ⟨rfl, _⟩ | ⟨b2, cap, cur, rfl, _, hgg, _⟩
      · simp [Value.ownBlock] at hk
      · simp [Value.ownBlock] at hk
        subst hk
        exact ⟨cur, hgg⟩
    · exact ih k hk
theorem row_cells {w : World} {base e n b cap : Nat} {xs : List Value} (h : w.ownsRow base e 1 (.slice (some ⟨b, 0, none⟩) n cap) n xs) : ∃ cur, w.heap[b]? = some (.cells cur e (0, 0)) := by
  rcases h.2 with ⟨h, _⟩ | ⟨g, cap', cur, he, hb, hgg, h1, h2, h3, h4⟩
  · cases h
  · simp only [Value.slice.injEq, Option.some.injEq, Addr.mk.injEq] at he
    obtain ⟨⟨rfl, _⟩, _, rfl⟩ := he
    exact ⟨cur, hgg⟩
set_option maxRecDepth 100000 in
set_option maxHeartbeats 2000000 in
theorem through55 (N g : Nat) (C : Cx) (s : Sg) (B : List Nat) (w : World) (hW : Hid (WS N w g C s B)) (p : Nat) (hN : N ≤ w.heap.size) (hpl : s.parses.length < 1000000) :
    Calls Try.prog 55 #[pt g, .int .i64 (p : Int)] w fun e w2 => e = .returned (.tuple #[]) ∧ ∃ B', WS N w2 g C { s with parses := s.parses ++ [((p : Int), s.notes.set 1 (p : Int))] } B' ∧ Chg w w2 B B' := by
  obtain ⟨pv, cs, F, hg, hpv, hPR, hnF, rfl⟩ := hW.out.ex
  have two := hW.out.two
  have few := hW.out.few
  have len := hW.out.len
  have g5 : w.cell? ⟨g, 5, none⟩ = some (.slice (some ⟨C.nb, 0, none⟩) C.K C.ncap) := Joins.cell_of_block hg 5
  have hcl := clone71 N C.nv s.notes w (by exact hW.out.notes) (by omega)
  have hgl := (Array.getElem?_eq_some_iff.1 hg).1
  have HG := hid hg
  have HPV := hid hpv
  have HPR := hid hPR
  clear hg hpv hPR
  rw [show C.nv = .slice (some ⟨C.nb, 0, none⟩) C.K C.ncap from rfl] at hcl
  obtain ⟨i0, hi0, hz0, hz1, hz2⟩ := info_parts info53
  have HCL := hid hcl
  clear hcl
  go_enter Try.func55, Try.ntmps55
  go_wp2_with fail
  refine HCL.out.mono ?_
  rintro e w1 ⟨cv, rfl, hc1, hb1⟩
  obtain ⟨cb, ccap, rfl⟩ := Joins.ownsRow_form hc1 (by omega)
  rw [len] at hc1 ⊢
  have hcb := (hc1.lt cb rfl)
  have hcc := row_cap2 hc1
  have k1 := hc1.cellAt 1 (by omega)
  obtain ⟨old, hold⟩ : ∃ old, (I64 s.notes)[1]? = some (.int .i64 old) := ⟨s.notes.getD 1 0, by simp [I64, List.getD, List.getElem?_eq_getElem (show 1 < s.notes.length by omega)]⟩
  rw [hold] at k1
  obtain ⟨cur, hcur⟩ := row_cells hc1
  have u1 := Joins.unfrozen_of_block hcur 1
  have i1 : (1 : Int) < (C.K : Int) := by omega
  have HC1 := hid hc1
  have HB1 := hid hb1
  have HCB := hid hcb
  clear hc1 hb1 hold hcur hcb
  go_upto_region 2 with fail
  obtain ⟨X, hX⟩ : ∃ X, X = w1.setCell ⟨cb, 1, none⟩ (.int .i64 (p : Int)) := ⟨_, rfl⟩
  rw [← hX]
  have HX := hid hX
  have bX : ∀ k, k < w.heap.size → X.heap[k]? = w.heap[k]? := fun k hk => by rw [hX]; exact (Below.heap_setCell _ _ _ _ (by have := HCB.out.1; show k ≠ cb; omega)).trans (HB1.out.block k hk)
  have sX : w.heap.size ≤ X.heap.size := by rw [hX]; have := HB1.out.size; simpa [World.setCell] using this
  have hgX := (bX g hgl).trans HG.out
  have x6 : X.cell? ⟨g, 6, none⟩ = some pv := Joins.cell_of_block hgX 6
  have hpX : X.ownsRow N 53 2 pv s.parses.length cs := row_kept HPV.out fun b hb => bX b (HPV.out.lt b hb).2
  have hcX : X.ownsRow w.heap.size 3 1 (.slice (some ⟨cb, 0, none⟩) C.K ccap) C.K (I64 (s.notes.set 1 (p : Int))) := by
    rw [hX, show I64 (s.notes.set 1 (p : Int)) = (I64 s.notes).set 1 (.int .i64 (p : Int)) by simp [I64, List.map_set]]
    exact row_set HC1.out (by omega)
  have gX : g < X.heap.size := by omega
  have HPX := hid hpX
  have HCX := hid hcX
  have HBX := hid bX
  have HGX := hid hgX
  clear hX bX hgX hpX hcX k1 u1
  go_wp2_with (at_builtin; refine wpList_append_moveN rfl (.tmp 17) (.tmp 21) 35 rfl N 53 i0 (.agg #[.int .i64 0, .slice none 0 0]) 2 32 Try.underlying35 hi0 hz0 hz1 hz2 rfl (by decide) pv s.parses.length cs rfl (HPX.out.alloc _) ⟨X.heap.size, 0, none⟩ 1 1 [.int .i64 (p : Int), .slice (some ⟨cb, 0, none⟩) C.K ccap] rfl rfl (by decide) ?_ ?_ (by unfold maxLen; omega) (by omega) (by simp; omega) ?_)
  · intro j u hj
    match j, hj with
    | 0, hj => simp at hj; subst hj; simp [Addr.add]
    | 1, hj => simp at hj; subst hj; simp [Addr.add]
  · intro u hu
    simp at hu
    rcases hu with rfl | rfl <;> rfl
  intro v' w3 ho3 hm3
  have hg3 : w3.heap[g]? = some (.cells #[C.tv, C.hv, C.wh, .int .i64 C.n, .map (some C.mb), C.nv, pv] 86 (0, 0)) := by
    have e : (X.alloc (.cells #[.int .i64 (p : Int), .slice (some ⟨cb, 0, none⟩) C.K ccap] 53)).heap[g]? = X.heap[g]? := heap_alloc_old X _ gX
    rcases hm3.out with ⟨_, h⟩ | ⟨_, h⟩
    · exact (h.block g (by simp; omega) (fun h => own_ne HPV.out HG.out (by decide) h.symm)).trans (e.trans HGX.out)
    · exact (h.block g (by simp; omega) (by simp)).trans (e.trans HGX.out)
  have y6 : w3.cell? ⟨g, 6, none⟩ = some pv := Joins.cell_of_block hg3 6
  have f6 := Joins.unfrozen_of_block hg3 6
  have HG3 := hid hg3
  clear hg3
  obtain ⟨vb, vcap, rfl⟩ := Joins.ownsRow_form ho3.out (by omega)
  go_wp2
  go_end0
  obtain ⟨Y, hY⟩ : ∃ Y, Y = w3.setCell ⟨g, 6, none⟩ (.slice (some ⟨vb, 0, none⟩) (s.parses.length + 1) vcap) := ⟨_, rfl⟩
  rw [← hY]
  have e3 : ∀ k, k < X.heap.size → pv.ownBlock ≠ some k → w3.heap[k]? = X.heap[k]? := fun k hk hne => by
    have e : (X.alloc (.cells #[.int .i64 (p : Int), .slice (some ⟨cb, 0, none⟩) C.K ccap] 53)).heap[k]? = X.heap[k]? := heap_alloc_old X _ hk
    rcases hm3.out with ⟨_, h⟩ | ⟨_, h⟩
    · exact (h.block k (by simp; omega) (fun h => hne h.symm)).trans e
    · exact (h.block k (by simp; omega) (by simp)).trans e
  have eY : ∀ k, k < w.heap.size → k ≠ g → pv.ownBlock ≠ some k → Y.heap[k]? = w.heap[k]? := fun k hk h1 h2 => by
    rw [hY]
    exact (Below.heap_setCell _ _ _ _ h1).trans ((e3 k (by omega) h2).trans (HBX.out k hk))
  have hs3 : X.heap.size ≤ w3.heap.size := by
    rcases hm3.out with ⟨_, h⟩ | ⟨_, h⟩ <;> (have := h.size; simp at this; omega)
  have hcb1 := HCB.out.1
  have hnb : C.nb < w.heap.size := by obtain ⟨cur, h⟩ := hW.out.nblk; exact (Array.getElem?_eq_some_iff.1 h).1
  have hcY : Y.ownsRow N 3 1 (.slice (some ⟨cb, 0, none⟩) C.K ccap) C.K (I64 (s.notes.set 1 (p : Int))) := by
    refine row_kept (Joins.ownsRow_le HCX.out hN) fun b hb => ?_
    simp [Value.ownBlock] at hb
    subst hb
    rw [hY]
    refine (Below.heap_setCell _ _ _ _ (by show cb ≠ g; omega)).trans (e3 cb ((HCX.out.lt cb rfl).2) (fun e => ?_))
    have := (HPV.out.lt cb e).2
    omega
  have hty : ∀ k ∈ F, k ≠ g ∧ pv.ownBlock ≠ some k := fun k hk => by
    obtain ⟨cur, hc⟩ := HPR.out.typ k hk
    refine ⟨fun e => ?_, fun e => own_ne HPV.out hc (by decide) e⟩
    subst e
    have hgg := HG.out
    rw [hc] at hgg
    simp at hgg
  have hgw := HG.out
  obtain ⟨curn, hcn⟩ := hW.out.nblk
  obtain ⟨es, cl, hm0, hmr⟩ := hW.out.map
  refine ⟨rfl, g :: C.mb :: C.nb :: ((Value.slice (some ⟨vb, 0, none⟩) (s.parses.length + 1) vcap).ownBlock.toList ++ (F ++ [cb])), ?_, ?_⟩
  · refine ⟨⟨_, _, _, ?_, ?_, (HPR.out.kept fun k hk => eY k (HPR.out.low k hk).2 (hty k hk).1 (hty k hk).2).snoc (e := (p : Int)) (cp := s.notes.set 1 (p : Int)) (cv := .slice (some ⟨cb, 0, none⟩) C.K ccap) (by rw [List.length_set, len]; exact hcY), ?_, rfl⟩, ?_, ?_, len, two, few, hW.out.low⟩
    · rw [hY]
      exact Joins.block_setCell (i := 6) HG3.out _
    · rw [hY, List.length_append]
      exact own_setCell ho3.out (own_ne ho3.out HG3.out (by decide))
    · simp [Value.ownBlock]
      exact ⟨hnF, by omega⟩
    · refine ⟨es, cl, (eY _ (Array.getElem?_eq_some_iff.1 hm0).1 (fun e => ?_) (fun e => ?_)).trans hm0, hmr⟩
      · rw [e, hgw] at hm0; cases hm0
      · rcases HPV.out.2 with ⟨rfl, _⟩ | ⟨b2, cap, cur, rfl, _, hgg, _⟩
        · simp [Value.ownBlock] at e
        · simp [Value.ownBlock] at e
          rw [e, hm0] at hgg
          cases hgg
    · refine row_kept hW.out.notes fun b hb => ?_
      simp [Cx.nv, Value.ownBlock] at hb
      subst hb
      refine eY _ hnb (fun e => ?_) (fun e => own_ne HPV.out hcn (by decide) e)
      rw [e, hgw] at hcn
      simp at hcn
  · refine ⟨?_, ?_, ?_, ?_, fun k hk hn => ?_, fun k hk => ?_⟩
    · rw [hY]
      rcases hm3.out with ⟨_, h⟩ | ⟨_, h⟩ <;> exact h.os.trans (by rw [HX.out]; exact HB1.out.os)
    · rw [hY]
      rcases hm3.out with ⟨_, h⟩ | ⟨_, h⟩ <;> exact h.tape.trans (by rw [HX.out]; exact HB1.out.tape)
    · rw [hY]
      rcases hm3.out with ⟨_, h⟩ | ⟨_, h⟩ <;> exact h.output.trans (by rw [HX.out]; exact HB1.out.output)
    · rw [hY]; simp [World.setCell]; omega
    · simp only [List.mem_cons, List.mem_append, Option.mem_toList, not_or] at hn
      exact eY k hk hn.1 (fun e => hn.2.2.2.1 e)
    · simp only [List.mem_cons, List.mem_append, Option.mem_toList, List.not_mem_nil, or_false] at hk ⊢
      rcases hk with h | h | h | h | h | h
      · exact .inl (.inl h)
      · exact .inl (.inr (.inl h))
      · exact .inl (.inr (.inr (.inl h)))
      · rcases hm3.out with ⟨h0, _⟩ | ⟨h0, _⟩
        · rw [h0] at h
          exact .inl (.inr (.inr (.inr (.inl h))))
        · rw [h0] at h
          right
          simp at h
          omega
      · exact .inl (.inr (.inr (.inr (.inr h))))
      · right; omega
end Go.Proofs.Ytnpocciioedgpaa
/- HELPERS: to go a way in memory is to go it. -/
namespace Go.Proofs.Ytnpocciioedgpaa
open Go.RowKit
set_option linter.unusedVariables false
set_option linter.unusedSimpArgs false
/-- the loops' boxes: each holds its way -/
def Env (g K : Nat) (L : Nat → Prop) (w : World) (E : Nat → Way) (FE : List Nat) : Prop := ∀ b, L b → b ∈ FE ∧ ∃ v F, Bx w b 84 v ∧ Rep g K L w v (E b) F ∧ ∀ k ∈ F, k ∈ FE
theorem Env.kept {g K : Nat} {L : Nat → Prop} {w w' : World} {E : Nat → Way} {FE : List Nat} (h : Env g K L w E FE) (hk : ∀ k ∈ FE, k < w.heap.size → w'.heap[k]? = w.heap[k]?) : Env g K L w' E FE := by
  intro b hb
  obtain ⟨h1, v, F, h2, h3, h4⟩ := h b hb
  exact ⟨h1, v, F, (hk b h1 (bx_lt h2)).trans h2, h3.kept fun k hkk => hk k (h4 k hkk) (h3.low k hkk), h4⟩
/-- away: blocks that are none of B -/
def Away (F B : List Nat) : Prop := ∀ k ∈ F, k ∉ B
theorem Away.next {w w' : World} {F B B' : List Nat} (h : Away F B) (hc : Chg w w' B B') (hl : ∀ k ∈ F, k < w.heap.size) : Away F B' := hc.away hl h
mutual
/-- small classes; asserts, where h tells that what holds is at hand -/
def Way.few (h : Bool) : Way → Prop
  | .through => True
  | .once _ d => d.few h
  | .noted _ d => d.few h
  | .runeOf L d => L.length ≤ 1000000 ∧ d.few h
  | .ifHolds _ d => h = true ∧ d.few h
  | .inOrder l => Ways.few h l
  | .again _ => True
def Ways.few (h : Bool) : List Way → Prop
  | [] => True
  | d :: l => d.few h ∧ Ways.few h l
end
theorem Ways.few_get {o : Bool} : ∀ {l : List Way}, Ways.few o l → ∀ (i : Nat) (hi : i < l.length), (l[i]'hi).few o := by
  intro l
  induction l with
  | nil => intro _ i hi; simp at hi
  | cons d l ih =>
    intro h i hi
    simp only [Ways.few] at h
    cases i with
    | zero => exact h.1
    | succ i => exact ih h.2 i (by simpa using hi)
theorem enter_of {P : Program} {f : FuncId} {fn : Func} {c : Code} (hf : P.funcs[f]? = some fn) (hname : (fn.name == "runtime.NumGoroutine") = false) (hb : fn.body = some c) : ∀ (args : Array Value) (w : World), (callFunc f args).run P w = .ok (.enter f args) w := by
  intro args w
  have h1 : fn.name ≠ "runtime.NumGoroutine" := by simpa using hname
  simp [callFunc, hf, h1, hb]
theorem en55 : ∀ (args : Array Value) (w : World), (callFunc 55 args).run Try.prog w = .ok (.enter 55 args) w := enter_of Try.func55 (by kernel_rfl) rfl
theorem en70 : ∀ (args : Array Value) (w : World), (callFunc 70 args).run Try.prog w = .ok (.enter 70 args) w := enter_of Try.func70 (by kernel_rfl) rfl
theorem en95 : ∀ (args : Array Value) (w : World), (callFunc 95 args).run Try.prog w = .ok (.enter 95 args) w := enter_of Try.func95 (by kernel_rfl) rfl
theorem en89 : ∀ (args : Array Value) (w : World), (callFunc 89 args).run Try.prog w = .ok (.enter 89 args) w := enter_of Try.func89 (by kernel_rfl) rfl
theorem en91 : ∀ (args : Array Value) (w : World), (callFunc 91 args).run Try.prog w = .ok (.enter 91 args) w := enter_of Try.func91 (by kernel_rfl) rfl
theorem en109 : ∀ (args : Array Value) (w : World), (callFunc 109 args).run Try.prog w = .ok (.enter 109 args) w := enter_of Try.func109 (by kernel_rfl) rfl
theorem en110 : ∀ (args : Array Value) (w : World), (callFunc 110 args).run Try.prog w = .ok (.enter 110 args) w := enter_of Try.func110 (by kernel_rfl) rfl
theorem Ex.more {tx : List Int} {E : Nat → Way} {W : Way} {p : Nat} {s s' : Sg} (h : Ex tx E W p s s') : s.parses.length ≤ s'.parses.length := by
  induction h with
  | through p s => simp
  | skip h => exact Nat.le_refl _
  | once h hd ih => exact ih
  | noted hd ih => exact ih
  | over h => exact Nat.le_refl _
  | other h hr => exact Nat.le_refl _
  | rune h hr hd ih => exact ih
  | fails h => exact Nat.le_refl _
  | holds h hd ih => exact ih
  | @inOrder l p ss h ih =>
    have : ∀ i, i ≤ l.length → (ss 0).parses.length ≤ (ss i).parses.length := by
      intro i
      induction i with
      | zero => intro _; exact Nat.le_refl _
      | succ i ihi => intro hi; exact Nat.le_trans (ihi (by omega)) (ih i (by omega))
    exact this _ (Nat.le_refl _)
  | again h ih => exact ih
theorem Ex.more_at {tx : List Int} {E : Nat → Way} {l : List Way} {p : Nat} {ss : Nat → Sg} (h : ∀ i (hi : i < l.length), Ex tx E (l[i]'hi) p (ss i) (ss (i + 1))) : ∀ d i, i + d = l.length → (ss i).parses.length ≤ (ss l.length).parses.length := by
  intro d
  induction d with
  | zero => intro i hi; rw [show i = l.length by omega]; exact Nat.le_refl _
  | succ d ih => intro i hi; exact Nat.le_trans (h i (by omega)).more (ih (i + 1) (by omega))
theorem WS.below {N : Nat} {w w' : World} {g : Nat} {C : Cx} {s : Sg} {B : List Nat} (h : WS N w g C s B) (hb : Below w.heap.size w w') : WS N w' g C s B := by
  obtain ⟨pv, cs, F, h1, h2, h3, h4, rfl⟩ := h.ex
  obtain ⟨es, cl, hm, hm2⟩ := h.map
  exact ⟨⟨pv, cs, F, (hb.block g (Array.getElem?_eq_some_iff.1 h1).1).trans h1, row_kept h2 fun b hb2 => hb.block b (h2.lt b hb2).2, h3.kept fun k hk => hb.block k (h3.low k hk).2, h4, rfl⟩, ⟨es, cl, (hb.block _ (Array.getElem?_eq_some_iff.1 hm).1).trans hm, hm2⟩,
    row_kept h.notes fun b hb2 => hb.block b (h.notes.lt b hb2).2, h.len, h.two, h.few, h.low⟩
/-- the text, and what holds at its places, in memory -/
def TT (o : Bool) (w : World) (C : Cx) (tx : List Int) (Ft : List Nat) : Prop := TX w C.tv tx Ft ∧ (o = true → TX w C.hv (hols tx) Ft)
theorem TT.kept {o : Bool} {w w' : World} {C : Cx} {tx : List Int} {Ft : List Nat} (h : TT o w C tx Ft) (hk : ∀ k ∈ Ft, k < w.heap.size → w'.heap[k]? = w.heap[k]?) (hs : w.heap.size ≤ w'.heap.size) : TT o w' C tx Ft :=
  ⟨h.1.kept hk hs, fun e => (h.2 e).kept hk hs⟩
theorem exec {N g : Nat} {C : Cx} {L : Nat → Prop} {FE Ft : List Nat} {tx : List Int} {E : Nat → Way} {o : Bool} (hE : ∀ b, (E b).few o) (htx : tx.length ≤ 100000) {W : Way} {p : Nat} {s s' : Sg} (hx : Ex tx E W p s s') :
    ∀ (w : World) (v : Value) (F B : List Nat), W.few o → p ≤ tx.length → s'.parses.length < 1000000 → N ≤ w.heap.size → WS N w g C s B → Rep g C.K L w v W F → Env g C.K L w E FE → TT o w C tx Ft → Away F B → Away FE B → Away Ft B → (∀ k ∈ FE, k < w.heap.size) → (∀ k ∈ Ft, k < w.heap.size) →
      CallsV v p w fun e w2 => e = .returned (.tuple #[]) ∧ ∃ B', WS N w2 g C s' B' ∧ Chg w w2 B B' := by
  induction hx with
  | through p s =>
    intro w v F B hf hp hl hN hW hR hEn hT aF aE aT lE lT
    cases hR with
    | through =>
      refine ⟨55, _, _, rfl, en55, ?_⟩
      exact through55 N g C s B w hW p hN (by simp at hl; omega)
  | @skip n d p s h =>
    intro w v F B hf hp hl hN hW hR hEn hT aF aE aT lE lT
    cases hR with
    | once h5 h2 h3 hn hd =>
      refine ⟨70, _, _, rfl, en70, ?_⟩
      refine Calls.mono (skip70 N g C s B w hW _ _ _ _ n p h5 h2 h3 hn (by omega) h) ?_
      rintro e w2 ⟨rfl, hb⟩
      exact ⟨rfl, B, hW.below hb, Chg.of_below hb⟩
  | @once n d p s s' h hd ih =>
    intro w v F B hf hp hl hN hW hR hEn hT aF aE aT lE lT
    cases hR with
    | @once b5 b2 b3 v1 _ F1 _ h5 h2 h3 hn hd1 =>
      refine ⟨70, _, _, rfl, en70, ?_⟩
      refine go70 N g C s B w hW b5 b2 b3 v1 n p h5 h2 h3 (aF _ (by simp)) (aF _ (by simp)) hn (by omega) h (fun w2 => ∃ B', WS N w2 g C s' B' ∧ Chg w w2 B B') ?_
      intro w' hW' hC'
      have := ih w' v1 F1 B hf hp hl (Nat.le_trans hN hC'.size) hW' (hd1.kept fun k hk => hC'.block k (hd1.low k hk) (aF k (by simp [hk]))) (hEn.kept fun k hk hk2 => hC'.block k hk2 (aE k hk)) (hT.kept (fun k hk hk2 => hC'.block k hk2 (aT k hk)) hC'.size)
        (fun k hk => aF k (by simp [hk])) aE aT (fun k hk => Nat.lt_of_lt_of_le (lE k hk) hC'.size) (fun k hk => Nat.lt_of_lt_of_le (lT k hk) hC'.size)
      obtain ⟨f, fi, ca, e1, e2, e3⟩ := this
      exact ⟨f, fi, ca, e1, e2, e3.mono fun e w2 h => ⟨h.1, by obtain ⟨B', q1, q2⟩ := h.2; exact ⟨B', q1, hC'.trans q2⟩⟩⟩
  | @noted c d p s s' hd ih =>
    intro w v F B hf hp hl hN hW hR hEn hT aF aE aT lE lT
    cases hR with
    | @noted b3 b4 b5 _ v1 _ F1 h3 h4 h5 hc hd1 =>
      refine ⟨95, _, _, rfl, en95, ?_⟩
      refine noted95 N g C s B w hW b3 b4 b5 c v1 p h3 h4 h5 (aF _ (by simp)) (aF _ (by simp)) (aF _ (by simp)) hc s' ?_
      intro w' hW' hC'
      exact ih w' v1 F1 B hf hp hl (Nat.le_trans hN hC'.size) hW' (hd1.kept fun k hk => hC'.block k (hd1.low k hk) (aF k (by simp [hk]))) (hEn.kept fun k hk hk2 => hC'.block k hk2 (aE k hk)) (hT.kept (fun k hk hk2 => hC'.block k hk2 (aT k hk)) hC'.size)
        (fun k hk => aF k (by simp [hk])) aE aT (fun k hk => Nat.lt_of_lt_of_le (lE k hk) hC'.size) (fun k hk => Nat.lt_of_lt_of_le (lT k hk) hC'.size)
  | @over R d p s h =>
    intro w v F B hf hp hl hN hW hR hEn hT aF aE aT lE lT
    cases hR with
    | runeOf h3 h4 h5 hr hd1 =>
      refine ⟨89, _, _, rfl, en89, ?_⟩
      obtain ⟨pv, cs, F0, hg, _⟩ := hW.ex
      refine Calls.mono (over89 g _ _ _ _ _ _ _ w tx Ft hg hT.1 _ _ _ p h3 h) ?_
      rintro e w2 ⟨rfl, hb⟩
      exact ⟨rfl, B, hW.below hb, Chg.of_below hb⟩
  | @other R d p s h hr2 =>
    intro w v F B hf hp hl hN hW hR hEn hT aF aE aT lE lT
    cases hR with
    | runeOf h3 h4 h5 hr hd1 =>
      refine ⟨89, _, _, rfl, en89, ?_⟩
      obtain ⟨pv, cs, F0, hg, _⟩ := hW.ex
      refine Calls.mono (other89 g _ _ _ _ _ _ _ _ _ w tx Ft R hg hT.1 _ _ _ p h3 h4 hr hf.1 h hr2) ?_
      rintro e w2 ⟨rfl, hb⟩
      exact ⟨rfl, B, hW.below hb, Chg.of_below hb⟩
  | @rune R d p s s' h hr2 hd ih =>
    intro w v F B hf hp hl hN hW hR hEn hT aF aE aT lE lT
    cases hR with
    | @runeOf b3 b4 b5 v1 rv _ F1 GR _ h3 h4 h5 hr hd1 =>
      refine ⟨89, _, _, rfl, en89, ?_⟩
      obtain ⟨pv, cs, F0, hg, _⟩ := hW.ex
      refine rune89 g GR _ _ _ _ _ _ _ _ w tx Ft R hg hT.1 b3 b4 b5 p h3 h4 hr hf.1 h hr2 v1 h5 (by omega) (fun w2 => ∃ B', WS N w2 g C s' B' ∧ Chg w w2 B B') ?_
      intro w' hb
      have := ih w' v1 F1 B hf.2 (by omega) hl (Nat.le_trans hN hb.size) (hW.below hb) (hd1.kept fun k hk => hb.block k (hd1.low k hk)) (hEn.kept fun k hk hk2 => hb.block k hk2) (hT.kept (fun k hk hk2 => hb.block k hk2) hb.size)
        (fun k hk => aF k (by simp [hk])) aE aT (fun k hk => Nat.lt_of_lt_of_le (lE k hk) hb.size) (fun k hk => Nat.lt_of_lt_of_le (lT k hk) hb.size)
      obtain ⟨f, fi, ca, e1, e2, e3⟩ := this
      exact ⟨f, fi, ca, e1, e2, e3.mono fun e w2 h => ⟨h.1, by obtain ⟨B', q1, q2⟩ := h.2; exact ⟨B', q1, (Chg.of_below hb).trans q2⟩⟩⟩
  | @fails a d p s h =>
    intro w v F B hf hp hl hN hW hR hEn hT aF aE aT lE lT
    cases hR with
    | ifHolds h4 h3 h5 hd1 =>
      refine ⟨91, _, _, rfl, en91, ?_⟩
      obtain ⟨pv, cs, F0, hg, _⟩ := hW.ex
      refine Calls.mono (fails91 g _ _ _ _ _ _ _ w tx Ft hg (hT.2 hf.1) _ _ _ p a h4 h3 hp h) ?_
      rintro e w2 ⟨rfl, hb⟩
      exact ⟨rfl, B, hW.below hb, Chg.of_below hb⟩
  | @holds a d p s s' h hd ih =>
    intro w v F B hf hp hl hN hW hR hEn hT aF aE aT lE lT
    cases hR with
    | @ifHolds b4 b3 b5 _ v1 _ F1 h4 h3 h5 hd1 =>
      refine ⟨91, _, _, rfl, en91, ?_⟩
      obtain ⟨pv, cs, F0, hg, _⟩ := hW.ex
      refine holds91 g _ _ _ _ _ _ _ w tx Ft hg (hT.2 hf.1) b4 b3 b5 p a h4 h3 hp h v1 h5 (fun w2 => ∃ B', WS N w2 g C s' B' ∧ Chg w w2 B B') ?_
      intro w' hb
      have := ih w' v1 F1 B hf.2 hp hl (Nat.le_trans hN hb.size) (hW.below hb) (hd1.kept fun k hk => hb.block k (hd1.low k hk)) (hEn.kept fun k hk hk2 => hb.block k hk2) (hT.kept (fun k hk hk2 => hb.block k hk2) hb.size)
        (fun k hk => aF k (by simp [hk])) aE aT (fun k hk => Nat.lt_of_lt_of_le (lE k hk) hb.size) (fun k hk => Nat.lt_of_lt_of_le (lT k hk) hb.size)
      obtain ⟨f, fi, ca, e1, e2, e3⟩ := this
      exact ⟨f, fi, ca, e1, e2, e3.mono fun e w2 h => ⟨h.1, by obtain ⟨B', q1, q2⟩ := h.2; exact ⟨B', q1, (Chg.of_below hb).trans q2⟩⟩⟩
  | @inOrder l p ss h ih =>
    intro w v F B hf hp hl hN hW hR hEn hT aF aE aT lE lT
    cases hR with
    | @inOrder b1 N0 sv _ vs F1 h1 hs hl1 =>
      refine ⟨109, _, _, rfl, en109, ?_⟩
      refine inOrder109 N N0 g C ss B w hW b1 l.length sv vs p h1 hs (aF _ (by simp)) (fun k hk => aF k (by simp [hk])) hl1.len ?_
      intro i v1 w' B' hi hv1 hW' hC'
      obtain ⟨u, Fi, q1, q2, q3⟩ := hl1.get i hi
      rw [hv1] at q1
      cases q1
      have hlF : ∀ k ∈ Fi, k < w.heap.size := q2.low
      have aFi : Away Fi B := fun k hk => aF k (by simp [q3 k hk])
      exact ih i hi w' v1 Fi B' (Ways.few_get hf i hi) hp (Nat.lt_of_le_of_lt (Ex.more_at h (l.length - (i + 1)) (i + 1) (by omega)) hl) (Nat.le_trans hN hC'.size) hW'
        (q2.kept fun k hk => hC'.block k (hlF k hk) (aFi k hk)) (hEn.kept fun k hk hk2 => hC'.block k hk2 (aE k hk)) (hT.kept (fun k hk hk2 => hC'.block k hk2 (aT k hk)) hC'.size)
        (aFi.next hC' hlF) (aE.next hC' lE) (aT.next hC' lT) (fun k hk => Nat.lt_of_lt_of_le (lE k hk) hC'.size) (fun k hk => Nat.lt_of_lt_of_le (lT k hk) hC'.size)
  | @again b p s s' h ih =>
    intro w v F B hf hp hl hN hW hR hEn hT aF aE aT lE lT
    cases hR with
    | again hb =>
      refine ⟨110, _, _, rfl, en110, ?_⟩
      obtain ⟨h1, v1, F1, h2, h3, h4⟩ := hEn b hb
      exact again110 b v1 p w h2 _ (ih w v1 F1 B (hE b) hp hl hN hW h3 hEn hT (fun k hk => aE k (h4 k hk)) aE aT lE lT)
end Go.Proofs.Ytnpocciioedgpaa
/- HELPERS: ways are made: once, noted, of a class, in order. -/
namespace Go.Proofs.Ytnpocciioedgpaa
open Go.RowKit
set_option linter.unusedVariables false
set_option linter.unusedSimpArgs false
/-- the cells of a walk's object, but how many things there are -/
structure Six where
  a0 : Value
  a1 : Value
  a2 : Value
  a4 : Value
  a5 : Value
  a6 : Value
abbrev O7 (w : World) (g : Nat) (A : Six) (n : Int) : Prop := w.heap[g]? = some (.cells #[A.a0, A.a1, A.a2, .int .i64 n, A.a4, A.a5, A.a6] 86 (0, 0))
/-- what is made: a way, its blocks, and how many things there are then -/
structure Mk (g K : Nat) (L : Nat → Prop) (w w' : World) (A : Six) (n' : Int) (v : Value) (W : Way) (F0 F : List Nat) : Prop where
  rep : Rep g K L w' v W F
  ob : O7 w' g A n'
  chg : Chg w w' [g] [g]
  new : ∀ k ∈ F, k ∈ F0 ∨ w.heap.size ≤ k
theorem Rep.form {g K : Nat} {L : Nat → Prop} {w : World} {v : Value} {d : Way} {F : List Nat} (h : Rep g K L w v d F) : ∃ f fi ca, v = .func (.func f) fi ca := by
  cases h <;> exact ⟨_, _, _, rfl⟩
theorem hmf : ∀ (fn : Fn) (first cap : Array Value) (w : World), (Instr.makeFunc fn first cap).run Try.prog w = .ok (.func fn first cap) w := fun _ _ _ _ => rfl
theorem Chg.alloc {w w' : World} {F F' : List Nat} (h : Chg w w' F F') (o : Obj) : Chg w (w'.alloc o) F F' :=
  ⟨h.os, h.tape, h.output, by have := h.size; simp; omega, fun k hk hn => (heap_alloc_old w' o (by have := h.size; omega)).trans (h.block k hk hn), h.new⟩
theorem three_new (w : World) (o o' o2 : Obj) : (((w.alloc o).alloc o').alloc o2).heap[w.heap.size]? = some o ∧ (((w.alloc o).alloc o').alloc o2).heap[w.heap.size + 1]? = some o' ∧ (((w.alloc o).alloc o').alloc o2).heap[w.heap.size + 1 + 1]? = some o2 ∧
    ∀ k, k < w.heap.size → (((w.alloc o).alloc o').alloc o2).heap[k]? = w.heap[k]? := by
  have s1 : (w.alloc o).heap.size = w.heap.size + 1 := by simp
  have s2 : ((w.alloc o).alloc o').heap.size = w.heap.size + 1 + 1 := by simp
  refine ⟨?_, ?_, ?_, fun k hk => ?_⟩
  · exact (heap_alloc_old _ _ (by omega)).trans ((heap_alloc_old _ _ (by omega)).trans (heap_alloc_new w o))
  · refine (heap_alloc_old _ _ (by omega)).trans ?_
    rw [← s1]; exact heap_alloc_new _ _
  · rw [← s2]; exact heap_alloc_new _ _
  · exact (heap_alloc_old _ _ (by omega)).trans ((heap_alloc_old _ _ (by omega)).trans (heap_alloc_old _ _ hk))
set_option maxRecDepth 100000 in
set_option maxHeartbeats 2000000 in
theorem once54 (g K : Nat) (L : Nat → Prop) (A : Six) (n : Int) (vb : Value) (B : Way) (F0 : List Nat) (w : World) (hO : O7 w g A n) (hR : Rep g K L w vb B F0) (hgF : g ∉ F0) (hn : 0 ≤ n ∧ n < 1000000000) :
    Calls Try.prog 54 #[pt g, vb] w fun e w' => ∃ v F, e = .returned v ∧ Mk g K L w w' A (n + 1) v (.once (n + 1) B) F0 F := by
  obtain ⟨f, fi, ca, rfl⟩ := hR.form
  have hm := hmf
  have g3 : w.cell? ⟨g, 3, none⟩ = some (.int .i64 n) := Joins.cell_of_block hO 3
  have f3 := Joins.unfrozen_of_block hO 3
  have hgl := (Array.getElem?_eq_some_iff.1 hO).1
  have HO := hid hO
  have HR := hid hR
  clear hO hR
  go_enter Try.func54, Try.ntmps54
  go_wp2
  go_ret
  obtain ⟨h1, h2, h3, h4⟩ := three_new (w.setCell ⟨g, 3, none⟩ (.int .i64 (n + 1))) (.cells #[pt g] 60) (.cells #[.func (.func f) fi ca] 84) (.cells #[.int .i64 (n + 1)] 3)
  have hs : (w.setCell ⟨g, 3, none⟩ (.int .i64 (n + 1))).heap.size = w.heap.size := by simp [World.setCell]
  rw [hs] at h1 h2 h3 h4
  have hc : Chg w ((((w.setCell ⟨g, 3, none⟩ (.int .i64 (n + 1))).alloc (.cells #[pt g] 60)).alloc (.cells #[.func (.func f) fi ca] 84)).alloc (.cells #[.int .i64 (n + 1)] 3)) [g] [g] :=
    ((((Chg.refl w [g]).set (a := ⟨g, 3, none⟩) (.int .i64 (n + 1)) (by simp)).alloc _).alloc _).alloc _
  refine ⟨_, _, rfl, .once h3 h1 h2 ⟨by omega, by omega⟩ (HR.out.kept fun k hk => ?_), ?_, hc, ?_⟩
  · exact hc.block k (HR.out.low k hk) (by simp; intro e; exact hgF (e ▸ hk))
  · exact (h4 g hgl).trans (Joins.block_setCell (i := 3) HO.out _)
  · intro k hk
    simp only [List.mem_cons] at hk
    rcases hk with rfl | rfl | rfl | hk
    · right; omega
    · right; omega
    · right; omega
    · exact .inl hk
set_option maxRecDepth 100000 in
set_option maxHeartbeats 2000000 in
theorem noted68 (g K c : Nat) (L : Nat → Prop) (A : Six) (n : Int) (vb : Value) (B : Way) (F0 : List Nat) (w : World) (hO : O7 w g A n) (hR : Rep g K L w vb B F0) (hgF : g ∉ F0) (hc : c < K) :
    Calls Try.prog 68 #[pt g, .int .i64 (c : Int), vb] w fun e w' => ∃ v F, e = .returned v ∧ Mk g K L w w' A n v (.noted c B) F0 F := by
  obtain ⟨f, fi, ca, rfl⟩ := hR.form
  have hm := hmf
  have hgl := (Array.getElem?_eq_some_iff.1 hO).1
  have HO := hid hO
  have HR := hid hR
  clear hO hR
  go_enter Try.func68, Try.ntmps68
  go_wp2
  go_ret
  obtain ⟨h1, h2, h3, h4⟩ := three_new w (.cells #[pt g] 60) (.cells #[.int .i64 (c : Int)] 3) (.cells #[.func (.func f) fi ca] 84)
  have hch : Chg w (((w.alloc (.cells #[pt g] 60)).alloc (.cells #[.int .i64 (c : Int)] 3)).alloc (.cells #[.func (.func f) fi ca] 84)) [g] [g] := (((Chg.refl w [g]).alloc _).alloc _).alloc _
  refine ⟨_, _, rfl, .noted h1 h2 h3 hc (HR.out.kept fun k hk => ?_), (h4 g hgl).trans HO.out, hch, ?_⟩
  · exact hch.block k (HR.out.low k hk) (by simp; intro e; exact hgF (e ▸ hk))
  · intro k hk
    simp only [List.mem_cons] at hk
    rcases hk with rfl | rfl | rfl | hk
    · right; omega
    · right; omega
    · right; omega
    · exact .inl hk
set_option maxRecDepth 100000 in
set_option maxHeartbeats 2000000 in
theorem runeOf64 (g K : Nat) (L : Nat → Prop) (GR : List Nat) (A : Six) (n : Int) (vb rv : Value) (R : Rng) (B : Way) (F0 : List Nat) (w : World) (hO : O7 w g A n) (hR : Rep g K L w vb B F0) (hgF : g ∉ F0) (hr : RowIn w rv R GR) :
    Calls Try.prog 64 #[pt g, rv, vb] w fun e w' => ∃ v F, e = .returned v ∧ Mk g K L w w' A n v (.runeOf R B) (GR ++ F0) F := by
  obtain ⟨f, fi, ca, rfl⟩ := hR.form
  obtain ⟨s1, s2, s3, rfl⟩ : ∃ s1 s2 s3, rv = .slice s1 s2 s3 := by
    obtain ⟨s1, s3, h⟩ := hr.form
    exact ⟨_, _, _, h⟩
  have hm := hmf
  have hgl := (Array.getElem?_eq_some_iff.1 hO).1
  have HO := hid hO
  have HR := hid hR
  have Hr := hid hr
  clear hO hR hr
  go_enter Try.func64, Try.ntmps64
  go_wp2
  go_ret
  obtain ⟨h1, h2, h3, h4⟩ := three_new w (.cells #[pt g] 60) (.cells #[.slice s1 s2 s3] 25) (.cells #[.func (.func f) fi ca] 84)
  have hch : Chg w (((w.alloc (.cells #[pt g] 60)).alloc (.cells #[.slice s1 s2 s3] 25)).alloc (.cells #[.func (.func f) fi ca] 84)) [g] [g] := (((Chg.refl w [g]).alloc _).alloc _).alloc _
  refine ⟨_, _, rfl, .runeOf h1 h2 h3 (Hr.out.kept fun b hb => h4 b (Hr.out.low b hb)) (HR.out.kept fun k hk => ?_), (h4 g hgl).trans HO.out, hch, ?_⟩
  · exact hch.block k (HR.out.low k hk) (by simp; intro e; exact hgF (e ▸ hk))
  · intro k hk
    simp only [List.mem_cons, List.mem_append] at hk ⊢
    rcases hk with rfl | rfl | rfl | hk | hk
    · right; omega
    · right; omega
    · right; omega
    · exact .inl (.inl hk)
    · exact .inl (.inr hk)
set_option maxRecDepth 100000 in
set_option maxHeartbeats 2000000 in
theorem ifHolds65 (g K : Nat) (L : Nat → Prop) (A : Six) (n a : Int) (vb : Value) (B : Way) (F0 : List Nat) (w : World) (hO : O7 w g A n) (hR : Rep g K L w vb B F0) (hgF : g ∉ F0) :
    Calls Try.prog 65 #[pt g, .int .i64 a, vb] w fun e w' => ∃ v F, e = .returned v ∧ Mk g K L w w' A n v (.ifHolds a B) F0 F := by
  obtain ⟨f, fi, ca, rfl⟩ := hR.form
  have hm := hmf
  have hgl := (Array.getElem?_eq_some_iff.1 hO).1
  have HO := hid hO
  have HR := hid hR
  clear hO hR
  go_enter Try.func65, Try.ntmps65
  go_wp2
  go_ret
  obtain ⟨h1, h2, h3, h4⟩ := three_new w (.cells #[pt g] 60) (.cells #[.int .i64 a] 3) (.cells #[.func (.func f) fi ca] 84)
  have hch : Chg w (((w.alloc (.cells #[pt g] 60)).alloc (.cells #[.int .i64 a] 3)).alloc (.cells #[.func (.func f) fi ca] 84)) [g] [g] := (((Chg.refl w [g]).alloc _).alloc _).alloc _
  refine ⟨_, _, rfl, .ifHolds h2 h1 h3 (HR.out.kept fun k hk => ?_), (h4 g hgl).trans HO.out, hch, ?_⟩
  · exact hch.block k (HR.out.low k hk) (by simp; intro e; exact hgF (e ▸ hk))
  · intro k hk
    simp only [List.mem_cons] at hk
    rcases hk with rfl | rfl | rfl | hk
    · right; omega
    · right; omega
    · right; omega
    · exact .inl hk
set_option maxRecDepth 100000 in
set_option maxHeartbeats 2000000 in
theorem inOrder94 (g K N0 m : Nat) (L : Nat → Prop) (sv : Value) (l : List Way) (vs : List Value) (F1 : List Nat) (w : World) (hs : w.ownsRow N0 84 1 sv l.length vs) (hR : Reps g K L w vs l F1) :
    Calls Try.prog 94 #[sv] w fun e w' => ∃ v F, e = .returned v ∧ Rep g K L w' v (.inOrder l) F ∧ Below w.heap.size w w' ∧ (∀ k ∈ F, k ∈ sv.ownBlock.toList ++ F1 ∨ w.heap.size ≤ k) := by
  obtain ⟨s1, s2, s3, rfl⟩ : ∃ s1 s2 s3, sv = .slice s1 s2 s3 := by
    rcases Joins.ownsRow_forms hs with ⟨rfl, h⟩ | ⟨b, cap, rfl⟩
    · exact ⟨none, 0, 0, rfl⟩
    · exact ⟨_, _, _, rfl⟩
  have hm := hmf
  have HS := hid hs
  have HR := hid hR
  clear hs hR
  go_enter Try.func94, Try.ntmps94
  go_wp2
  go_ret
  have hb : Below w.heap.size w (w.alloc (.cells #[.slice s1 s2 s3] 124)) := Joins.below_alloc1 w _
  refine ⟨_, _, rfl, .inOrder (heap_alloc_new w _) (row_kept HS.out fun b hb2 => hb.block b (HS.out.lt b hb2).2) (HR.out.kept fun k hk => hb.block k (HR.out.low k hk)), hb, ?_⟩
  intro k hk
  simp only [List.mem_cons, List.mem_append] at hk ⊢
  rcases hk with rfl | hk | hk
  · right; omega
  · exact .inl (.inl hk)
  · exact .inl (.inr hk)
end Go.Proofs.Ytnpocciioedgpaa
/- HELPERS: to begin a node: nothing, a class. -/
namespace Go.Proofs.Ytnpocciioedgpaa
open Go.RowKit
set_option linter.unusedVariables false
set_option linter.unusedSimpArgs false
/-- the other fields of a node -/
structure Nd where
  r1 : Option Addr
  r2 : Nat
  r3 : Nat
  a2 : Int
  s1 : Option Addr
  s2 : Nat
  s3 : Nat
  a4 : Int
  a5 : Int
  a6 : Bool
  a7 : Int
  a8 : ByteArray
abbrev Nd.v (N : Nd) (k : Int) : Value := .agg #[.int .i64 k, .slice N.r1 N.r2 N.r3, .int .i64 N.a2, .slice N.s1 N.s2 N.s3, .int .i64 N.a4, .int .i64 N.a5, .bool N.a6, .int .i64 N.a7, .string N.a8]
abbrev Nd.o (N : Nd) (k : Int) : Obj := .cells #[.int .i64 k, .slice N.r1 N.r2 N.r3, .int .i64 N.a2, .slice N.s1 N.s2 N.s3, .int .i64 N.a4, .int .i64 N.a5, .bool N.a6, .int .i64 N.a7, .string N.a8] 28
theorem Mk.from {g K : Nat} {L : Nat → Prop} {w w1 w' : World} {A : Six} {n' : Int} {v : Value} {W : Way} {F0 F : List Nat} (hc : Chg w w1 [g] [g]) (h : Mk g K L w1 w' A n' v W F0 F) : Mk g K L w w' A n' v W F0 F :=
  ⟨h.rep, h.ob, hc.trans h.chg, fun k hk => by rcases h.new k hk with h | h; exact .inl h; right; have := hc.size; omega⟩
theorem Mk.away {g K : Nat} {L : Nat → Prop} {w w' : World} {A : Six} {n' : Int} {v : Value} {W : Way} {F0 F : List Nat} (h : Mk g K L w w' A n' v W F0 F) (hg : g ∉ F0) (hl : g < w.heap.size) : g ∉ F := fun hm => by
  rcases h.new g hm with h | h
  · exact hg h
  · omega
theorem Mk.trans {g K : Nat} {L : Nat → Prop} {w w1 w2 : World} {A : Six} {n1 n2 : Int} {v1 v2 : Value} {W1 W2 : Way} {F0 F1 F2 : List Nat} (h : Mk g K L w w1 A n1 v1 W1 F0 F1) (h2 : Mk g K L w1 w2 A n2 v2 W2 F1 F2) : Mk g K L w w2 A n2 v2 W2 F0 F2 :=
  ⟨h2.rep, h2.ob, h.chg.trans h2.chg, fun k hk => by
    rcases h2.new k hk with h3 | h3
    · exact h.new k h3
    · right; have := h.chg.size; omega⟩
set_option maxRecDepth 100000 in
set_option maxHeartbeats 2000000 in
theorem begin_empty (g K : Nat) (L : Nat → Prop) (A : Six) (n : Int) (N : Nd) (vb : Value) (B : Way) (F0 : List Nat) (w : World) (hO : O7 w g A n) (hR : Rep g K L w vb B F0) (hgF : g ∉ F0) (hn : 0 ≤ n ∧ n < 1000000000) :
    Calls Try.prog 53 #[pt g, N.v 1, vb] w fun e w' => ∃ v F, e = .returned v ∧ Mk g K L w w' A (n + 1) v (.once (n + 1) B) F0 F := by
  obtain ⟨f, fi, ca, rfl⟩ := hR.form
  have hgl := (Array.getElem?_eq_some_iff.1 hO).1
  obtain ⟨h1, h2, h3, h4⟩ := three_new w (.cells #[pt g] 60) (N.o 1) (.cells #[.func (.func f) fi ca] 84)
  have hch : Chg w (((w.alloc (.cells #[pt g] 60)).alloc (N.o 1)).alloc (.cells #[.func (.func f) fi ca] 84)) [g] [g] := (((Chg.refl w [g]).alloc _).alloc _).alloc _
  have HC := once54 g K L A n (.func (.func f) fi ca) B F0 _ ((h4 g hgl).trans hO) (hR.kept fun k hk => hch.block k (hR.low k hk) (by simp; intro e; exact hgF (e ▸ hk))) hgF hn
  have HCH := hid hch
  clear hO hR hch h1 h2 h3 h4
  go_enter Try.func53, Try.ntmps53
  go_wp2_with (go_at_call 54; (with_reducible refine HC.mono ?_); rintro e w' ⟨v, F, rfl, M⟩; obtain ⟨f2, fi2, ca2, rfl⟩ := M.rep.form; have HM := hid M; clear M)
  go_ret
  exact ⟨_, F, rfl, HM.out.from HCH.out⟩
set_option maxRecDepth 100000 in
set_option maxHeartbeats 2000000 in
theorem begin_class (g K : Nat) (L : Nat → Prop) (GR : List Nat) (A : Six) (n : Int) (N : Nd) (R : Rng) (vb : Value) (B : Way) (F0 : List Nat) (w : World) (hO : O7 w g A n) (hR : Rep g K L w vb B F0) (hgF : g ∉ F0) (hn : 0 ≤ n ∧ n < 1000000000)
    (hr : RowIn w (.slice N.r1 N.r2 N.r3) R GR) (hgr : g ∉ GR) :
    Calls Try.prog 53 #[pt g, N.v 2, vb] w fun e w' => ∃ v F, e = .returned v ∧ Mk g K L w w' A (n + 1) v (.once (n + 1) (.runeOf R B)) (GR ++ F0) F := by
  obtain ⟨f, fi, ca, rfl⟩ := hR.form
  have hgl := (Array.getElem?_eq_some_iff.1 hO).1
  obtain ⟨h1, h2, h3, h4⟩ := three_new w (.cells #[pt g] 60) (N.o 2) (.cells #[.func (.func f) fi ca] 84)
  have hch : Chg w (((w.alloc (.cells #[pt g] 60)).alloc (N.o 2)).alloc (.cells #[.func (.func f) fi ca] 84)) [g] [g] := (((Chg.refl w [g]).alloc _).alloc _).alloc _
  obtain ⟨W, hW⟩ : ∃ W, W = (((w.alloc (.cells #[pt g] 60)).alloc (N.o 2)).alloc (.cells #[.func (.func f) fi ca] 84)) := ⟨_, rfl⟩
  rw [← hW] at h1 h2 h3 h4 hch
  have HC := runeOf64 g K L GR A n (.func (.func f) fi ca) (.slice N.r1 N.r2 N.r3) R B F0 W.drew ((h4 g hgl).trans hO) ((hR.kept fun k hk => hch.block k (hR.low k hk) (by simp; intro e; exact hgF (e ▸ hk))).kept fun k hk => rfl) hgF ((hr.kept fun b hb => h4 b (hr.low b hb)).kept (w' := W.drew) fun _ _ => rfl)
  have x3 : W.cell? ⟨w.heap.size, 0, none⟩ = some (pt g) := bx0 h1
  have x5 : W.cell? ⟨w.heap.size + 1 + 1, 0, none⟩ = some (.func (.func f) fi ca) := bx0 h3
  have x41 : W.cell? ⟨w.heap.size + 1, 1, none⟩ = some (.slice N.r1 N.r2 N.r3) := Joins.cell_of_block h2 1
  have hsW : W.heap.size = w.heap.size + 1 + 1 + 1 := by rw [hW]; simp
  obtain ⟨z, hz⟩ : ∃ z, z = w.heap.size := ⟨_, rfl⟩
  have HCH := hid hch
  have HW := hid hW
  have H1 := hid h1
  have HS := hid hsW
  have HG := hid hgr
  have HHG := hid hgF
  have HZ := hid hz
  clear hO hR hch h1 h2 h3 h4 hr hgF hgr hsW
  go_enter Try.func53, Try.ntmps53
  go_wp2_with fail
  rw [← hW, ← hz]
  rw [← hz] at x3 x5 x41
  clear hW hz
  have hb1 : ∀ w1, Chg W.drew w1 [g] [g] → w1.cell? ⟨z, 0, none⟩ = some (pt g) ∧ w1.cell? ⟨z + 1, 1, none⟩ = some (.slice N.r1 N.r2 N.r3) ∧ w1.cell? ⟨z + 1 + 1, 0, none⟩ = some (.func (.func f) fi ca) := fun w1 hc1 => by
    have hz := HZ.out
    have hs := HS.out
    have e : ∀ k o, z ≤ k → k < z + 3 → w1.cell? ⟨k, o, none⟩ = W.cell? ⟨k, o, none⟩ := fun k o h1 h2 => cell_heap (hc1.block k (by show k < W.heap.size; omega) (by simp; omega)) o
    exact ⟨(e _ _ (by omega) (by omega)).trans x3, (e _ _ (by omega) (by omega)).trans x41, (e _ _ (by omega) (by omega)).trans x5⟩
  have HB1 := hid hb1
  clear hb1
  go_region_held2 (fun w' => w'.cell? ⟨z, 0, none⟩ = some (pt g) ∧ w'.cell? ⟨z + 1, 1, none⟩ = some (.slice N.r1 N.r2 N.r3) ∧ w'.cell? ⟨z + 1 + 1, 0, none⟩ = some (.func (.func f) fi ca))
    (first | exact ⟨x3, x41, x5⟩ | exact HB1.out _ HM1.out.chg | exact HB1.out _ (HM1.out.chg.trans HM2.out.chg))
    (first | (go_at_call 64; (with_reducible refine HC.mono ?_); rintro e w1 ⟨v1, F1, rfl, M1⟩; obtain ⟨f1, fi1, ca1, rfl⟩ := M1.rep.form; have HC2 := once54 g K L A n _ _ F1 w1 M1.ob M1.rep (M1.away (by simp; exact ⟨HG.out, HHG.out⟩) (by show g < W.heap.size; have := HS.out; omega)) hn; have HM1 := hid M1; clear M1 HC) | (go_at_call 54; (with_reducible refine HC2.mono ?_); rintro e w2 ⟨v2, F2, rfl, M2⟩; obtain ⟨f2, fi2, ca2, rfl⟩ := M2.rep.form; have HM2 := hid M2; clear M2 HC2))
  all_goals
    go_wp2
    go_ret
    refine ⟨_, F2, rfl, Mk.from (HCH.out.trans ?_) (HM1.out.trans HM2.out)⟩
    exact (Chg.refl W [g]).drew
set_option maxRecDepth 100000 in
set_option maxHeartbeats 2000000 in
theorem begin_assert (g K : Nat) (L : Nat → Prop) (A : Six) (n : Int) (N : Nd) (vb : Value) (B : Way) (F0 : List Nat) (w : World) (hO : O7 w g A n) (hR : Rep g K L w vb B F0) (hgF : g ∉ F0) (hn : 0 ≤ n ∧ n < 1000000000) :
    Calls Try.prog 53 #[pt g, N.v 3, vb] w fun e w' => ∃ v F, e = .returned v ∧ Mk g K L w w' A (n + 1) v (.once (n + 1) (.ifHolds N.a2 B)) F0 F := by
  obtain ⟨f, fi, ca, rfl⟩ := hR.form
  have hgl := (Array.getElem?_eq_some_iff.1 hO).1
  obtain ⟨h1, h2, h3, h4⟩ := three_new w (.cells #[pt g] 60) (N.o 3) (.cells #[.func (.func f) fi ca] 84)
  have hch : Chg w (((w.alloc (.cells #[pt g] 60)).alloc (N.o 3)).alloc (.cells #[.func (.func f) fi ca] 84)) [g] [g] := (((Chg.refl w [g]).alloc _).alloc _).alloc _
  obtain ⟨W, hW⟩ : ∃ W, W = (((w.alloc (.cells #[pt g] 60)).alloc (N.o 3)).alloc (.cells #[.func (.func f) fi ca] 84)) := ⟨_, rfl⟩
  rw [← hW] at h1 h2 h3 h4 hch
  have HC := ifHolds65 g K L A n N.a2 (.func (.func f) fi ca) B F0 W.drew ((h4 g hgl).trans hO) ((hR.kept fun k hk => hch.block k (hR.low k hk) (by simp; intro e; exact hgF (e ▸ hk))).kept fun k hk => rfl) hgF
  have x3 : W.cell? ⟨w.heap.size, 0, none⟩ = some (pt g) := bx0 h1
  have x5 : W.cell? ⟨w.heap.size + 1 + 1, 0, none⟩ = some (.func (.func f) fi ca) := bx0 h3
  have x41 : W.cell? ⟨w.heap.size + 1, 2, none⟩ = some (.int .i64 N.a2) := Joins.cell_of_block h2 2
  have hsW : W.heap.size = w.heap.size + 1 + 1 + 1 := by rw [hW]; simp
  obtain ⟨z, hz⟩ : ∃ z, z = w.heap.size := ⟨_, rfl⟩
  have HCH := hid hch
  have HW := hid hW
  have H1 := hid h1
  have HS := hid hsW
  have HHG := hid hgF
  have HZ := hid hz
  clear hO hR hch h1 h2 h3 h4 hgF hsW
  go_enter Try.func53, Try.ntmps53
  go_wp2_with fail
  rw [← hW, ← hz]
  rw [← hz] at x3 x5 x41
  clear hW hz
  have hb1 : ∀ w1, Chg W.drew w1 [g] [g] → w1.cell? ⟨z, 0, none⟩ = some (pt g) ∧ w1.cell? ⟨z + 1, 2, none⟩ = some (.int .i64 N.a2) ∧ w1.cell? ⟨z + 1 + 1, 0, none⟩ = some (.func (.func f) fi ca) := fun w1 hc1 => by
    have hz := HZ.out
    have hs := HS.out
    have e : ∀ k o, z ≤ k → k < z + 3 → w1.cell? ⟨k, o, none⟩ = W.cell? ⟨k, o, none⟩ := fun k o h1 h2 => cell_heap (hc1.block k (by show k < W.heap.size; omega) (by simp; omega)) o
    exact ⟨(e _ _ (by omega) (by omega)).trans x3, (e _ _ (by omega) (by omega)).trans x41, (e _ _ (by omega) (by omega)).trans x5⟩
  have HB1 := hid hb1
  clear hb1
  go_region_held2 (fun w' => w'.cell? ⟨z, 0, none⟩ = some (pt g) ∧ w'.cell? ⟨z + 1, 2, none⟩ = some (.int .i64 N.a2) ∧ w'.cell? ⟨z + 1 + 1, 0, none⟩ = some (.func (.func f) fi ca))
    (first | exact ⟨x3, x41, x5⟩ | exact HB1.out _ HM1.out.chg | exact HB1.out _ (HM1.out.chg.trans HM2.out.chg))
    (first | (go_at_call 65; (with_reducible refine HC.mono ?_); rintro e w1 ⟨v1, F1, rfl, M1⟩; obtain ⟨f1, fi1, ca1, rfl⟩ := M1.rep.form; have HC2 := once54 g K L A n _ _ F1 w1 M1.ob M1.rep (M1.away HHG.out (by show g < W.heap.size; have := HS.out; omega)) hn; have HM1 := hid M1; clear M1 HC) | (go_at_call 54; (with_reducible refine HC2.mono ?_); rintro e w2 ⟨v2, F2, rfl, M2⟩; obtain ⟨f2, fi2, ca2, rfl⟩ := M2.rep.form; have HM2 := hid M2; clear M2 HC2))
  all_goals
    go_wp2
    go_ret
    refine ⟨_, F2, rfl, Mk.from (HCH.out.trans ?_) (HM1.out.trans HM2.out)⟩
    exact (Chg.refl W [g]).drew
end Go.Proofs.Ytnpocciioedgpaa
/- HELPERS: a choice; the first of several. -/
namespace Go.Proofs.Ytnpocciioedgpaa
open Go.RowKit
set_option linter.unusedVariables false
set_option linter.unusedSimpArgs false
theorem info84 : (Try.prog.info? 84).map (fun i => (i.zero, i.size, i.bytes)) = some (some .nilFunc, 1, 8) := by kernel_rfl
set_option maxRecDepth 100000 in
set_option maxHeartbeats 2000000 in
theorem choice97 (g K : Nat) (L : Nat → Prop) (v1 v2 : Value) (W1 W2 : Way) (F1 F2 : List Nat) (w : World) (h1 : Rep g K L w v1 W1 F1) (h2 : Rep g K L w v2 W2 F2) :
    Calls Try.prog 97 #[.bool false, v1, v2] w fun e w' => ∃ v F, e = .returned v ∧ Rep g K L w' v (.inOrder [W1, W2]) F ∧ Below w.heap.size w w' ∧ ∀ k ∈ F, k ∈ F1 ++ F2 ∨ w.heap.size ≤ k := by
  obtain ⟨f1, fi1, ca1, rfl⟩ := h1.form
  obtain ⟨f2, fi2, ca2, rfl⟩ := h2.form
  have hb : Below w.heap.size w (w.alloc (.cells #[.func (.func f1) fi1 ca1, .func (.func f2) fi2 ca2] 84)) := Joins.below_alloc1 w _
  have hrow : (w.alloc (.cells #[.func (.func f1) fi1 ca1, .func (.func f2) fi2 ca2] 84)).ownsRow w.heap.size 84 1 (.slice (some ⟨w.heap.size, 0, none⟩) 2 2) 2 [.func (.func f1) fi1 ca1, .func (.func f2) fi2 ca2] := by
    have := World.ownsRow_lit (base := w.heap.size) (e := 84) (size := 1) w #[.func (.func f1) fi1 ca1, .func (.func f2) fi2 ca2] 2 (Nat.le_refl _) (by unfold maxLen; omega) rfl
    exact this
  have HC := inOrder94 g K w.heap.size 0 L _ [W1, W2] _ (F1 ++ (F2 ++ [])) _ hrow (.cons (h1.kept fun k hk => hb.block k (h1.low k hk)) (.cons (h2.kept fun k hk => hb.block k (h2.low k hk)) .nil))
  have HB := hid hb
  clear h1 h2 hb hrow
  go_enter Try.func97, Try.ntmps97
  go_wp2_with (go_at_call 94; (with_reducible refine HC.mono ?_); rintro e w1 ⟨v, F, rfl, hr, hb1, hn⟩; obtain ⟨f, fi, ca, rfl⟩ := hr.form; have HR := hid hr; have HB1 := hid hb1; have HN := hid hn; clear hr hb1 hn)
  go_ret
  refine ⟨_, F, rfl, HR.out, HB.out.trans (Joins.below_le HB1.out (by simp)), fun k hk => ?_⟩
  rcases HN.out k hk with h | h
  · simp [Value.ownBlock] at h
    rcases h with rfl | h | h
    · right; omega
    · left; simp [h]
    · left; simp [h]
  · right; simp at h; omega
/-- the nine cells of the i-th node of a row -/
def C9 (w : World) (sb o i : Nat) (N : Nd) (k : Int) : Prop := w.cell? ⟨sb, o + i * 9, none⟩ = some (.int .i64 k) ∧ w.cell? ⟨sb, o + i * 9 + 1, none⟩ = some (.slice N.r1 N.r2 N.r3) ∧ w.cell? ⟨sb, o + i * 9 + 2, none⟩ = some (.int .i64 N.a2) ∧ w.cell? ⟨sb, o + i * 9 + 3, none⟩ = some (.slice N.s1 N.s2 N.s3) ∧
  w.cell? ⟨sb, o + i * 9 + 4, none⟩ = some (.int .i64 N.a4) ∧ w.cell? ⟨sb, o + i * 9 + 5, none⟩ = some (.int .i64 N.a5) ∧ w.cell? ⟨sb, o + i * 9 + 6, none⟩ = some (.bool N.a6) ∧ w.cell? ⟨sb, o + i * 9 + 7, none⟩ = some (.int .i64 N.a7) ∧ w.cell? ⟨sb, o + i * 9 + 8, none⟩ = some (.string N.a8)
theorem C9.kept {w w' : World} {sb o i : Nat} {N : Nd} {k : Int} (h : C9 w sb o i N k) (hk : w'.heap[sb]? = w.heap[sb]?) : C9 w' sb o i N k := by
  obtain ⟨h0, h1, h2, h3, h4, h5, h6, h7, h8⟩ := h
  exact ⟨(cell_heap hk _).trans h0, (cell_heap hk _).trans h1, (cell_heap hk _).trans h2, (cell_heap hk _).trans h3, (cell_heap hk _).trans h4, (cell_heap hk _).trans h5, (cell_heap hk _).trans h6, (cell_heap hk _).trans h7, (cell_heap hk _).trans h8⟩
theorem Reps.snoc {g K : Nat} {L : Nat → Prop} {w : World} {vs : List Value} {l : List Way} {F : List Nat} (h : Reps g K L w vs l F) {v : Value} {d : Way} {G : List Nat} (hv : Rep g K L w v d G) : Reps g K L w (vs ++ [v]) (l ++ [d]) (F ++ G) := by
  induction l generalizing vs F with
  | nil => cases h; simpa using Reps.cons hv .nil
  | cons e l ih => cases h with | cons h hs => rw [List.append_assoc]; exact .cons h (ih hs)
theorem one_new (w2 : World) (u : Value) (t : TypeId) : ∀ j y, [u][j]? = some y → (w2.alloc (.cells #[u] t)).cell? ((⟨w2.heap.size, 0, none⟩ : Addr).add j) = some y := by
  intro j y hj
  match j, hj with
  | 0, hj => simp at hj; subst hj; simp [Addr.add]
/-- the row of ways as it grows -/
structure Gr (g K : Nat) (L : Nat → Prop) (w wq : World) (A : Six) (n : Int) (uv : Value) (i : Nat) (l : List Way) (FS : List Nat) (vs : List Value) (FR : List Nat) : Prop where
  row : wq.ownsRow w.heap.size 84 1 uv i vs
  reps : Reps g K L wq vs l FR
  ob : O7 wq g A n
  chg : Chg w wq [g] [g]
  new : ∀ k ∈ FR, k ∈ FS ∨ w.heap.size ≤ k
  out : ∀ k, uv.ownBlock = some k → k ∉ FR
theorem Gr.next {g K : Nat} {L : Nat → Prop} {w wq w2 w3 : World} {A : Six} {n n2 : Int} {uv v v' : Value} {i : Nat} {l : List Way} {d : Way} {FS FR F : List Nat} {vs : List Value} (G : Gr g K L w wq A n uv i l FS vs FR) (o o2 : Obj) (M : Mk g K L (wq.alloc o) w2 A n2 v d FS F)
    (hgl : g < w.heap.size) (hgF : g ∉ FS) (hFl : ∀ k ∈ FS, k < w.heap.size) (ho : w3.ownsRow w.heap.size 84 1 v' (i + 1) (vs ++ [v])) (hm : Moved (w2.alloc o2) w3 uv v') : Gr g K L w w3 A n2 v' (i + 1) (l ++ [d]) FS (vs ++ [v]) (FR ++ F) := by
  have hub : ∀ k, uv.ownBlock = some k → w.heap.size ≤ k ∧ k < wq.heap.size := fun k hk => G.row.lt k hk
  have s1 := G.chg.size
  have s2 := M.chg.size
  simp at s2
  have hgR : g ∉ FR := fun hg => by rcases G.new g hg with h | h; exact hgF h; omega
  have hFR : ∀ k ∈ FR, k < wq.heap.size := G.reps.low
  have hF2 : ∀ k ∈ F, k < w2.heap.size := M.rep.low
  have e12 : ∀ k, k < wq.heap.size → k ≠ g → w2.heap[k]? = wq.heap[k]? := fun k hk hn => (M.chg.block k (by simp; omega) (by simpa using hn)).trans (heap_alloc_old wq o hk)
  have e3 : ∀ k, k < w2.heap.size → uv.ownBlock ≠ some k → w3.heap[k]? = w2.heap[k]? := fun k hk hn => by
    have e : (w2.alloc o2).heap[k]? = w2.heap[k]? := heap_alloc_old w2 o2 hk
    rcases hm with ⟨_, h⟩ | ⟨_, h⟩
    · exact (h.block k (by simp; omega) (fun h => hn h.symm)).trans e
    · exact (h.block k (by simp; omega) (by simp)).trans e
  have hs3 : w2.heap.size ≤ w3.heap.size := by rcases hm with ⟨_, h⟩ | ⟨_, h⟩ <;> (have := h.size; simp at this; omega)
  have hFu : ∀ k ∈ F, uv.ownBlock ≠ some k := fun k hk e => by
    have := hub k e
    rcases M.new k hk with h | h
    · have := hFl k h; omega
    · simp at h; omega
  refine ⟨ho, (G.reps.kept fun k hk => (e3 k (by have := hFR k hk; omega) (fun e => G.out k e hk)).trans (e12 k (hFR k hk) (fun e => hgR (e ▸ hk)))).snoc (M.rep.kept fun k hk => e3 k (hF2 k hk) (hFu k hk)), ?_, ?_, ?_, ?_⟩
  · exact (e3 g (by omega) (fun e => by have := hub g e; omega)).trans M.ob
  · refine ⟨?_, ?_, ?_, by omega, fun k hk hn => ?_, fun k hk => .inl hk⟩
    · rcases hm with ⟨_, h⟩ | ⟨_, h⟩ <;> exact h.os.trans (M.chg.os.trans G.chg.os)
    · rcases hm with ⟨_, h⟩ | ⟨_, h⟩ <;> exact h.tape.trans (M.chg.tape.trans G.chg.tape)
    · rcases hm with ⟨_, h⟩ | ⟨_, h⟩ <;> exact h.output.trans (M.chg.output.trans G.chg.output)
    · exact (e3 k (by omega) (fun e => by have := hub k e; omega)).trans ((e12 k (by omega) (by simpa using hn)).trans (G.chg.block k hk hn))
  · intro k hk
    rcases List.mem_append.1 hk with hk | hk
    · exact G.new k hk
    · rcases M.new k hk with h | h
      · exact .inl h
      · right; simp at h; omega
  · intro k hk hm2
    rcases hm with ⟨h0, _⟩ | ⟨h0, _⟩
    · rw [h0] at hk
      rcases List.mem_append.1 hm2 with h | h
      · exact G.out k hk h
      · exact hFu k h hk
    · rw [h0] at hk
      simp at hk
      rcases List.mem_append.1 hm2 with h | h
      · have := hFR k h; omega
      · have := hF2 k h; omega
set_option maxRecDepth 100000 in
set_option maxHeartbeats 4000000 in
theorem firstOf67 (g K m sb o s3 : Nat) (L : Nat → Prop) (A : Six) (ns : Nat → Int) (Ws : Nat → Way) (FS : List Nat) (ND : Nat → Nd) (KD : Nat → Int) (f : FuncId) (fi ca : Array Value) (w : World) (hO : O7 w g A (ns 0)) (hgF : g ∉ FS)
    (hFl : ∀ k ∈ FS, k < w.heap.size) (hsb : sb < w.heap.size) (hsg : sb ≠ g) (hm : m ≤ 1000000) (hcap : m ≤ s3) (hcells : Hid (∀ i, i < m → C9 w sb o i (ND i) (KD i)))
    (HB : Hid (∀ i, i < m → ∀ w', Chg w w' [g] [g] → O7 w' g A (ns i) → Calls Try.prog 53 #[pt g, (ND i).v (KD i), .func (.func f) fi ca] w' fun e w'' => ∃ v F, e = .returned v ∧ Mk g K L w' w'' A (ns (i + 1)) v (Ws i) FS F)) :
    Calls Try.prog 67 #[pt g, .slice (some ⟨sb, o, none⟩) m s3, .func (.func f) fi ca] w fun e w' => ∃ v F, e = .returned v ∧ Mk g K L w w' A (ns m) v (.inOrder ((List.range m).map Ws)) FS F := by
  have HO := hid hO
  have HGF := hid hgF
  have HFL := hid hFl
  have hgl := (Array.getElem?_eq_some_iff.1 hO).1
  obtain ⟨i0, hi0, hz0, hz1, hz2⟩ := info_parts info84
  clear hO hgF hFl
  go_enter Try.func67, Try.ntmps67
  go_wp2_with fail
  go_loopw [7, 12] (fun u x wq => ∃ (i : Nat) (u1 : Option Addr) (u3 : Nat), u = .slice u1 i u3 ∧ x = .int .i64 (i : Int) ∧ i ≤ m ∧ Hid (∃ vs FR, Gr g K L w wq A (ns i) (.slice u1 i u3) i ((List.range i).map Ws) FS vs FR)) (fun _ x _ => m - (intOf x).toNat)
  case atStart => exact ⟨0, none, 0, rfl, rfl, by omega, by exact ⟨[], [], World.ownsRow_nil _ _ _ _, .nil, HO.out, Chg.refl w [g], (fun k hk => by cases hk), (fun k hk hm => by cases hm)⟩⟩
  case round =>
    obtain ⟨i, u1, u3, rfl, rfl, hi, HI⟩ := hrel
    by_cases hil : i < m
    · have b1 : decide ((i : Int) < (m : Int)) = true := by simp; omega
      have b2 : (i : Int) < (m : Int) := by omega
      obtain ⟨vs, FR, G⟩ := HI.out
      obtain ⟨n0, n1, n2, n3, n4, n5, n6, n7, n8⟩ := (hcells.out i hil).kept (G.chg.block sb hsb (by simpa using hsg))
      have HC := HB.out i hil (wr.alloc ((ND i).o (KD i))) (G.chg.alloc _) ((heap_alloc_old wr _ (by have := G.chg.size; omega)).trans G.ob)
      obtain ⟨N, hN⟩ : ∃ N, N = ND i := ⟨_, rfl⟩
      obtain ⟨k, hk⟩ : ∃ k, k = KD i := ⟨_, rfl⟩
      rw [← hN] at HC n1 n2 n3 n4 n5 n6 n7 n8
      rw [← hk] at HC n0
      have HG := hid G
      have ad1 : IntKind.i64.wrap ((i : Int) + 1) = (i : Int) + 1 := by simp [IntKind.wrap, IntKind.bits, IntKind.signed]; omega
      clear G hN hk HI
      go_wp2_with (first | (go_at_call 53; (with_reducible refine HC.mono ?_); rintro e w2 ⟨v, F, rfl, M⟩; obtain ⟨f2, fi2, ca2, rfl⟩ := M.rep.form; have hrow2 : w2.ownsRow w.heap.size 84 1 (.slice u1 i u3) i vs := row_kept HG.out.row (fun b hb => (M.chg.block b (by have := (HG.out.row.lt b hb).2; simp; omega) (by have := (HG.out.row.lt b hb).1; simp; omega)).trans (heap_alloc_old wr _ (HG.out.row.lt b hb).2)); have HR2 := hid hrow2; have hs2 : w.heap.size ≤ w2.heap.size := (by have := M.chg.size; have := HG.out.chg.size; simp at *; omega); have HM := hid M; clear M hrow2 HC) | (at_builtin; refine wpList_append_move rfl (.tmp 16) (.tmp 21) 124 rfl w.heap.size 84 i0 .nilFunc 8 Try.underlying124 hi0 hz0 hz1 hz2 rfl (.slice u1 i u3) i vs rfl (HR2.out.alloc _) ⟨w2.heap.size, 0, none⟩ 1 1 [.func (.func f2) fi2 ca2] rfl rfl (by decide) (one_new w2 _ 84) (by intro u hu; simp at hu; subst hu; rfl) (by unfold maxLen; omega) (by omega) (by simp; omega) ?_; intro v' w3 ho3 hm3; obtain ⟨vb, vc, rfl⟩ := Joins.ownsRow_form ho3.out (by omega)))
      refine ⟨⟨i + 1, _, _, rfl, by push_cast; rfl, by omega, ?_⟩, ?_⟩
      · have h9 := HG.out.next _ _ HM.out hgl HGF.out HFL.out ho3.out hm3.out
        have e9 : (List.range (i + 1)).map Ws = (List.range i).map Ws ++ [Ws i] := by rw [List.range_succ, List.map_append]; rfl
        rw [← e9] at h9
        exact ⟨_, _, h9⟩
      · simp [intOf]
        omega
    · have b1 : decide ((i : Int) < (m : Int)) = false := by simp; omega
      obtain rfl : i = m := by omega
      obtain ⟨vs, FR, G⟩ := HI.out
      have HC := inOrder94 g K w.heap.size 0 L _ _ _ _ wr (by have := G.row; simpa using this) G.reps
      have HG := hid G
      clear G HI
      go_wp2_with (go_at_call 94; (with_reducible refine HC.mono ?_); rintro e w1 ⟨v, F, rfl, hr, hb1, hn⟩; obtain ⟨f1, fi1, ca1, rfl⟩ := hr.form; have HR := hid hr; have HB1 := hid hb1; have HN := hid hn; clear hr hb1 hn)
      go_ret
      refine ⟨_, F, rfl, HR.out, (HB1.out.block g (by have := HG.out.chg.size; omega)).trans HG.out.ob, HG.out.chg.trans (Chg.of_below HB1.out), fun k hk => ?_⟩
      rcases HN.out k hk with h | h
      · rcases List.mem_append.1 h with h | h
        · right
          exact (HG.out.row.lt k (by simpa using h)).1
        · exact HG.out.new k h
      · right; have := HG.out.chg.size; omega
end Go.Proofs.Ytnpocciioedgpaa
/- HELPERS: to begin a node: alternatives, a group. -/
namespace Go.Proofs.Ytnpocciioedgpaa
open Go.RowKit
set_option linter.unusedVariables false
set_option linter.unusedSimpArgs false
set_option maxRecDepth 100000 in
set_option maxHeartbeats 2000000 in
theorem begin_alt (g K m sb o s3 : Nat) (L : Nat → Prop) (A : Six) (ns : Nat → Int) (Ws : Nat → Way) (FS : List Nat) (ND : Nat → Nd) (KD : Nat → Int) (N : Nd) (f : FuncId) (fi ca : Array Value) (w : World) (hO : O7 w g A (ns 0)) (hgF : g ∉ FS)
    (hFl : ∀ k ∈ FS, k < w.heap.size) (hsb : sb < w.heap.size) (hsg : sb ≠ g) (hm : m ≤ 1000000) (hcap : m ≤ s3) (hcells : ∀ i, i < m → C9 w sb o i (ND i) (KD i)) (hN : N.s1 = some ⟨sb, o, none⟩ ∧ N.s2 = m ∧ N.s3 = s3) (hn : 0 ≤ ns m ∧ ns m < 1000000000)
    (HB : ∀ i, i < m → ∀ w', Chg w w' [g] [g] → O7 w' g A (ns i) → Calls Try.prog 53 #[pt g, (ND i).v (KD i), .func (.func f) fi ca] w' fun e w'' => ∃ v F, e = .returned v ∧ Mk g K L w' w'' A (ns (i + 1)) v (Ws i) FS F) :
    Calls Try.prog 53 #[pt g, N.v 5, .func (.func f) fi ca] w fun e w' => ∃ v F, e = .returned v ∧ Mk g K L w w' A (ns m + 1) v (.once (ns m + 1) (.inOrder ((List.range m).map Ws))) FS F := by
  have hgl := (Array.getElem?_eq_some_iff.1 hO).1
  obtain ⟨h1, h2, h3, h4⟩ := three_new w (.cells #[pt g] 60) (N.o 5) (.cells #[.func (.func f) fi ca] 84)
  have hch : Chg w (((w.alloc (.cells #[pt g] 60)).alloc (N.o 5)).alloc (.cells #[.func (.func f) fi ca] 84)) [g] [g] := (((Chg.refl w [g]).alloc _).alloc _).alloc _
  obtain ⟨W, hW⟩ : ∃ W, W = (((w.alloc (.cells #[pt g] 60)).alloc (N.o 5)).alloc (.cells #[.func (.func f) fi ca] 84)) := ⟨_, rfl⟩
  rw [← hW] at h1 h2 h3 h4 hch
  have hsW : W.heap.size = w.heap.size + 1 + 1 + 1 := by rw [hW]; simp
  have HC := firstOf67 g K m sb o s3 L A ns Ws FS ND KD f fi ca W.drew ((h4 g hgl).trans hO) hgF (fun k hk => by have := hFl k hk; show k < W.heap.size; omega) (by show sb < W.heap.size; omega) hsg hm hcap (fun i hi => (hcells i hi).kept (h4 sb hsb)) (fun i hi w' hc ho => HB i hi w' (hch.trans ((show Chg W W.drew [g] [g] from (Chg.refl W [g]).drew).trans hc)) ho)
  have x3 : W.cell? ⟨w.heap.size, 0, none⟩ = some (pt g) := bx0 h1
  have x5 : W.cell? ⟨w.heap.size + 1 + 1, 0, none⟩ = some (.func (.func f) fi ca) := bx0 h3
  have x43 : W.cell? ⟨w.heap.size + 1, 3, none⟩ = some (.slice (some ⟨sb, o, none⟩) m s3) := by rw [← hN.1, ← hN.2.1, ← hN.2.2]; exact Joins.cell_of_block h2 3
  obtain ⟨z, hz⟩ : ∃ z, z = w.heap.size := ⟨_, rfl⟩
  have HCH := hid hch
  have HW := hid hW
  have HS := hid hsW
  have HHG := hid hgF
  have HZ := hid hz
  have HNN := hid hN
  clear hO hch h1 h2 h3 h4 hgF hsW HB hcells hFl hN
  go_enter Try.func53, Try.ntmps53
  go_wp2_with fail
  rw [← hW, ← hz]
  rw [← hz] at x3 x5 x43
  clear hW hz
  have hb1 : ∀ w1, Chg W.drew w1 [g] [g] → w1.cell? ⟨z, 0, none⟩ = some (pt g) ∧ w1.cell? ⟨z + 1, 3, none⟩ = some (.slice (some ⟨sb, o, none⟩) m s3) ∧ w1.cell? ⟨z + 1 + 1, 0, none⟩ = some (.func (.func f) fi ca) := fun w1 hc1 => by
    have hz := HZ.out
    have hs := HS.out
    have e : ∀ k o, z ≤ k → k < z + 3 → w1.cell? ⟨k, o, none⟩ = W.cell? ⟨k, o, none⟩ := fun k o h1 h2 => cell_heap (hc1.block k (by show k < W.heap.size; omega) (by simp; omega)) o
    exact ⟨(e _ _ (by omega) (by omega)).trans x3, (e _ _ (by omega) (by omega)).trans x43, (e _ _ (by omega) (by omega)).trans x5⟩
  have HB1 := hid hb1
  clear hb1
  go_region_held2 (fun w' => w'.cell? ⟨z, 0, none⟩ = some (pt g) ∧ w'.cell? ⟨z + 1, 3, none⟩ = some (.slice (some ⟨sb, o, none⟩) m s3) ∧ w'.cell? ⟨z + 1 + 1, 0, none⟩ = some (.func (.func f) fi ca))
    (first | exact ⟨x3, x43, x5⟩ | exact HB1.out _ HM1.out.chg | exact HB1.out _ (HM1.out.chg.trans HM2.out.chg))
    (first | (go_at_call 67; (with_reducible refine HC.mono ?_); rintro e w1 ⟨v1, F1, rfl, M1⟩; obtain ⟨f1, fi1, ca1, rfl⟩ := M1.rep.form; have HC2 := once54 g K L A (ns m) _ _ F1 w1 M1.ob M1.rep (M1.away HHG.out (by show g < W.heap.size; have := HS.out; omega)) hn; have HM1 := hid M1; clear M1 HC) | (go_at_call 54; (with_reducible refine HC2.mono ?_); rintro e w2 ⟨v2, F2, rfl, M2⟩; obtain ⟨f2, fi2, ca2, rfl⟩ := M2.rep.form; have HM2 := hid M2; clear M2 HC2))
  all_goals
    go_wp2
    go_ret
    refine ⟨_, F2, rfl, Mk.from (HCH.out.trans ?_) (HM1.out.trans HM2.out)⟩
    exact (Chg.refl W [g]).drew
/-- a node of whose two lists the one is below it: what is asked of it to begin -/
def Sub (g K : Nat) (L : Nat → Prop) (A : Six) (n n1 : Int) (N : Nd) (k : Int) (B W : Way) (FX F0 : List Nat) (w : World) : Prop :=
  ∀ (w' : World) (v : Value) (F1 : List Nat), Chg w w' [g] [g] → O7 w' g A n → Rep g K L w' v B F1 → g ∉ F1 → (∀ k ∈ F1, k ∈ F0 ∨ w.heap.size ≤ k) →
    Calls Try.prog 53 #[pt g, N.v k, v] w' fun e w'' => ∃ u F, e = .returned u ∧ Mk g K L w' w'' A n1 u W (FX ++ F1) F
set_option maxRecDepth 100000 in
set_option maxHeartbeats 4000000 in
theorem begin_group (g K i sb o s3 : Nat) (L : Nat → Prop) (A : Six) (n n1 : Int) (N M : Nd) (km : Int) (B W1 : Way) (FX F0 : List Nat) (vb : Value) (w : World) (hO : O7 w g A n) (hR : Rep g K L w vb B F0) (hgF : g ∉ F0) (hgX : g ∉ FX) (hi : 2 * i + 1 < K) (hi2 : i ≤ 1000)
    (hN : N.s1 = some ⟨sb, o, none⟩ ∧ N.s2 = 1 ∧ N.s3 = s3 ∧ N.a7 = (i : Int)) (hs3 : 1 ≤ s3) (hsb : sb < w.heap.size) (hsg : sb ≠ g) (hc : C9 w sb o 0 M km) (hn1 : 0 ≤ n1 ∧ n1 < 1000000000) (HB : Sub g K L A n n1 M km (.noted (2 * i + 1) B) W1 FX F0 w) :
    Calls Try.prog 53 #[pt g, N.v 7, vb] w fun e w' => ∃ v F, e = .returned v ∧ Mk g K L w w' A (n1 + 1) v (.once (n1 + 1) (.noted (2 * i) W1)) (FX ++ F0) F := by
  obtain ⟨f, fi, ca, rfl⟩ := hR.form
  have hgl := (Array.getElem?_eq_some_iff.1 hO).1
  obtain ⟨h1, h2, h3, h4⟩ := three_new w (.cells #[pt g] 60) (N.o 7) (.cells #[.func (.func f) fi ca] 84)
  have hch : Chg w (((w.alloc (.cells #[pt g] 60)).alloc (N.o 7)).alloc (.cells #[.func (.func f) fi ca] 84)) [g] [g] := (((Chg.refl w [g]).alloc _).alloc _).alloc _
  obtain ⟨W, hW⟩ : ∃ W, W = (((w.alloc (.cells #[pt g] 60)).alloc (N.o 7)).alloc (.cells #[.func (.func f) fi ca] 84)) := ⟨_, rfl⟩
  rw [← hW] at h1 h2 h3 h4 hch
  have hsW : W.heap.size = w.heap.size + 1 + 1 + 1 := by rw [hW]; simp
  have hRW : Rep g K L W.drew (.func (.func f) fi ca) B F0 := (hR.kept fun k hk => hch.block k (hR.low k hk) (by simp; intro e; exact hgF (e ▸ hk))).kept fun k hk => rfl
  have HC := noted68 g K (2 * i + 1) L A n (.func (.func f) fi ca) B F0 W.drew ((h4 g hgl).trans hO) hRW hgF hi
  obtain ⟨q0, q1, q2, q3, q4, q5, q6, q7, q8⟩ := hc.kept (h4 sb hsb)
  simp only [Nat.zero_mul, Nat.add_zero] at q0 q1 q2 q3 q4 q5 q6 q7 q8
  have x3 : W.cell? ⟨w.heap.size, 0, none⟩ = some (pt g) := bx0 h1
  have x5 : W.cell? ⟨w.heap.size + 1 + 1, 0, none⟩ = some (.func (.func f) fi ca) := bx0 h3
  have x43 : W.cell? ⟨w.heap.size + 1, 3, none⟩ = some (.slice (some ⟨sb, o, none⟩) 1 s3) := by have h := Joins.cell_of_block h2 3; simpa [hN.1, hN.2.1, hN.2.2.1] using h
  have x47 : W.cell? ⟨w.heap.size + 1, 7, none⟩ = some (.int .i64 (i : Int)) := by have h := Joins.cell_of_block h2 7; simpa [hN.2.2.2] using h
  have m1 : IntKind.i64.wrap (2 * (i : Int)) = 2 * (i : Int) := by simp [IntKind.wrap, IntKind.bits, IntKind.signed]; omega
  have m2 : IntKind.i64.wrap (2 * (i : Int) + 1) = 2 * (i : Int) + 1 := by simp [IntKind.wrap, IntKind.bits, IntKind.signed]; omega
  rw [show ((2 * i + 1 : Nat) : Int) = 2 * (i : Int) + 1 by omega] at HC
  obtain ⟨z, hz⟩ : ∃ z, z = w.heap.size := ⟨_, rfl⟩
  have hS : ∀ w1, Chg W w1 [g] [g] → w1.cell? ⟨w.heap.size, 0, none⟩ = some (pt g) ∧ w1.cell? ⟨w.heap.size + 1, 3, none⟩ = some (.slice (some ⟨sb, o, none⟩) 1 s3) ∧ w1.cell? ⟨w.heap.size + 1, 7, none⟩ = some (.int .i64 (i : Int)) ∧ w1.cell? ⟨w.heap.size + 1 + 1, 0, none⟩ = some (.func (.func f) fi ca) ∧
      w1.cell? ⟨sb, o, none⟩ = some (.int .i64 km) ∧ w1.cell? ⟨sb, o + 1, none⟩ = some (.slice M.r1 M.r2 M.r3) ∧ w1.cell? ⟨sb, o + 2, none⟩ = some (.int .i64 M.a2) ∧ w1.cell? ⟨sb, o + 3, none⟩ = some (.slice M.s1 M.s2 M.s3) ∧ w1.cell? ⟨sb, o + 4, none⟩ = some (.int .i64 M.a4) ∧ w1.cell? ⟨sb, o + 5, none⟩ = some (.int .i64 M.a5) ∧ w1.cell? ⟨sb, o + 6, none⟩ = some (.bool M.a6) ∧ w1.cell? ⟨sb, o + 7, none⟩ = some (.int .i64 M.a7) ∧ w1.cell? ⟨sb, o + 8, none⟩ = some (.string M.a8) := fun w1 hc1 => by
    have e : ∀ k o, k < W.heap.size → k ≠ g → w1.cell? ⟨k, o, none⟩ = W.cell? ⟨k, o, none⟩ := fun k o h1 h2 => cell_heap (hc1.block k h1 (by simpa using h2)) o
    exact ⟨(e _ _ (by omega) (by omega)).trans x3, (e _ _ (by omega) (by omega)).trans x43, (e _ _ (by omega) (by omega)).trans x47, (e _ _ (by omega) (by omega)).trans x5, (e _ _ (by omega) hsg).trans q0, (e _ _ (by omega) hsg).trans q1, (e _ _ (by omega) hsg).trans q2, (e _ _ (by omega) hsg).trans q3, (e _ _ (by omega) hsg).trans q4, (e _ _ (by omega) hsg).trans q5, (e _ _ (by omega) hsg).trans q6, (e _ _ (by omega) hsg).trans q7, (e _ _ (by omega) hsg).trans q8⟩
  have hd : Chg W W.drew [g] [g] := (Chg.refl W [g]).drew
  have HD := hid hd
  have HSS := hid hS
  have HCH := hid hch
  have HS := hid hsW
  have HHG := hid hgF
  have HHX := hid hgX
  have HBB := hid HB
  have hgW : g < W.heap.size := by omega
  clear hO hch h1 h2 h3 h4 hgF hsW HB hN hc hR hRW hS hd q0 q1 q2 q3 q4 q5 q6 q7 q8 x3 x5 x43 x47 hgX
  go_enter Try.func53, Try.ntmps53
  go_wp2_with fail
  rw [← hW, ← hz]
  rw [← hz] at HSS HS
  have HW := hid hW
  have HZ := hid hz
  clear hW hz
  go_region_held2 (fun w1 => w1.cell? ⟨z, 0, none⟩ = some (pt g) ∧ w1.cell? ⟨z + 1, 3, none⟩ = some (.slice (some ⟨sb, o, none⟩) 1 s3) ∧ w1.cell? ⟨z + 1, 7, none⟩ = some (.int .i64 (i : Int)) ∧ w1.cell? ⟨z + 1 + 1, 0, none⟩ = some (.func (.func f) fi ca) ∧
      w1.cell? ⟨sb, o, none⟩ = some (.int .i64 km) ∧ w1.cell? ⟨sb, o + 1, none⟩ = some (.slice M.r1 M.r2 M.r3) ∧ w1.cell? ⟨sb, o + 2, none⟩ = some (.int .i64 M.a2) ∧ w1.cell? ⟨sb, o + 3, none⟩ = some (.slice M.s1 M.s2 M.s3) ∧ w1.cell? ⟨sb, o + 4, none⟩ = some (.int .i64 M.a4) ∧ w1.cell? ⟨sb, o + 5, none⟩ = some (.int .i64 M.a5) ∧ w1.cell? ⟨sb, o + 6, none⟩ = some (.bool M.a6) ∧ w1.cell? ⟨sb, o + 7, none⟩ = some (.int .i64 M.a7) ∧ w1.cell? ⟨sb, o + 8, none⟩ = some (.string M.a8))
    (first | exact HSS.out _ HD.out | exact HSS.out _ (HD.out.trans HM1.out.chg) | exact HSS.out _ (HD.out.trans (HM1.out.chg.trans HM2.out.chg)))
    (first | (go_at_call 68; (with_reducible refine HC.mono ?_); rintro e w1 ⟨v1, F1, rfl, M1⟩; obtain ⟨f1, fi1, ca1, rfl⟩ := M1.rep.form; have HC2 := HBB.out w1 _ F1 (HCH.out.trans (HD.out.trans M1.chg)) M1.ob M1.rep (M1.away HHG.out hgW) (fun k hk => (M1.new k hk).imp_right (fun h => by have h : W.heap.size ≤ k := h; have := HS.out; have := HZ.out; omega)); have HM1 := hid M1; clear M1 HC) | (go_at_call 53; (with_reducible refine HC2.mono ?_); rintro e w2 ⟨v2, F2, rfl, M2⟩; obtain ⟨f2, fi2, ca2, rfl⟩ := M2.rep.form; have HM2 := hid M2; clear M2 HC2))
  all_goals
    have hg2 : g ∉ F2 := HM2.out.away (by simp; exact ⟨HHX.out, HM1.out.away HHG.out hgW⟩) (by have := HM1.out.chg.size; have h : W.heap.size ≤ w1.heap.size := this; omega)
    have HC3 := noted68 g K (2 * i) L A n1 _ _ F2 w2.drew HM2.out.ob (HM2.out.rep.kept fun k hk => rfl) hg2 (by omega)
    rw [show ((2 * i : Nat) : Int) = 2 * (i : Int) by omega] at HC3
    have hd2 : Chg w2 w2.drew [g] [g] := (Chg.refl w2 [g]).drew
    have HD2 := hid hd2
    have HG2 := hid hg2
    clear hd2 hg2
    go_wp2_with fail
    go_region_held2 (fun w1 => w1.cell? ⟨z, 0, none⟩ = some (pt g) ∧ w1.cell? ⟨z + 1, 7, none⟩ = some (.int .i64 (i : Int)))
      (first | exact ⟨(HSS.out _ (HD.out.trans (HM1.out.chg.trans (HM2.out.chg.trans HD2.out)))).1, (HSS.out _ (HD.out.trans (HM1.out.chg.trans (HM2.out.chg.trans HD2.out)))).2.2.1⟩ | exact ⟨(HSS.out _ (HD.out.trans (HM1.out.chg.trans (HM2.out.chg.trans (HD2.out.trans HM3.out.chg))))).1, (HSS.out _ (HD.out.trans (HM1.out.chg.trans (HM2.out.chg.trans (HD2.out.trans HM3.out.chg))))).2.2.1⟩ | exact ⟨(HSS.out _ (HD.out.trans (HM1.out.chg.trans (HM2.out.chg.trans (HD2.out.trans (HM3.out.chg.trans HM4.out.chg)))))).1, (HSS.out _ (HD.out.trans (HM1.out.chg.trans (HM2.out.chg.trans (HD2.out.trans (HM3.out.chg.trans HM4.out.chg)))))).2.2.1⟩)
      (first | (go_at_call 68; (with_reducible refine HC3.mono ?_); rintro e w3 ⟨v3, F3, rfl, M3⟩; obtain ⟨f3, fi3, ca3, rfl⟩ := M3.rep.form; have HC4 := once54 g K L A n1 _ _ F3 w3 M3.ob M3.rep (M3.away HG2.out (by have h : W.heap.size ≤ w1.heap.size := HM1.out.chg.size; have := HM2.out.chg.size; show g < w2.heap.size; omega)) hn1; have HM3 := hid M3; clear M3 HC3) | (go_at_call 54; (with_reducible refine HC4.mono ?_); rintro e w4 ⟨v4, F4, rfl, M4⟩; obtain ⟨f4, fi4, ca4, rfl⟩ := M4.rep.form; have HM4 := hid M4; clear M4 HC4))
    all_goals
      go_wp2
      go_ret
      refine ⟨_, F4, rfl, ⟨HM4.out.rep, HM4.out.ob, HCH.out.trans (HD.out.trans (HM1.out.chg.trans (HM2.out.chg.trans (HD2.out.trans (HM3.out.chg.trans HM4.out.chg))))), fun k hk => ?_⟩⟩
      have hz := HZ.out
      have hs := HS.out
      have sz1 : W.heap.size ≤ w1.heap.size := HM1.out.chg.size
      have sz2 := HM2.out.chg.size
      rcases (HM3.out.trans HM4.out).new k hk with h | h
      · rcases HM2.out.new k h with h | h
        · rcases List.mem_append.1 h with h | h
          · left; simp [h]
          · rcases HM1.out.new k h with h | h
            · left; simp [h]
            · right; have h : W.heap.size ≤ k := h; omega
        · right; omega
      · right; have h : w2.heap.size ≤ k := h; omega
end Go.Proofs.Ytnpocciioedgpaa
/- HELPERS: trees that are handed in: what is read of one, as data; where it lies. -/
namespace Go.Proofs.Ytnpocciioedgpaa
open Go.RowKit Go.Deep Go.ChangeShapes Go.WideShapes
set_option linter.unusedVariables false
set_option linter.unusedSimpArgs false
/-- a node's nine cells -/
structure Nv where
  k : Int
  r1 : Option Addr
  r2 : Nat
  r3 : Nat
  a2 : Int
  s1 : Option Addr
  s2 : Nat
  s3 : Nat
  a4 : Int
  a5 : Int
  a6 : Bool
  a7 : Int
  a8 : ByteArray
instance : Inhabited Nv := ⟨⟨0, none, 0, 0, 0, none, 0, 0, 0, 0, false, 0, ⟨#[]⟩⟩⟩
abbrev Nv.cs (N : Nv) : List Value := [.int .i64 N.k, .slice N.r1 N.r2 N.r3, .int .i64 N.a2, .slice N.s1 N.s2 N.s3, .int .i64 N.a4, .int .i64 N.a5, .bool N.a6, .int .i64 N.a7, .string N.a8]
abbrev Nv.v (N : Nv) : Value := .agg #[.int .i64 N.k, .slice N.r1 N.r2 N.r3, .int .i64 N.a2, .slice N.s1 N.s2 N.s3, .int .i64 N.a4, .int .i64 N.a5, .bool N.a6, .int .i64 N.a7, .string N.a8]
/-- a tree -/
inductive Tn where
  | mk (k : Int) (R : List (Int × Int)) (a : Int) (s : List Tn) (mn mx : Int) (lz : Bool) (ix : Int) (nm : ByteArray)
instance : Inhabited Tn := ⟨.mk 0 [] 0 [] 0 0 false 0 ⟨#[]⟩⟩
def Tn.kind : Tn → Int | .mk k .. => k
def Tn.subs : Tn → List Tn | .mk _ _ _ s .. => s
/-- the nine cells of the i-th node of a row -/
def N9 (w : World) (b o i : Nat) (N : Nv) : Prop := w.cell? ⟨b, o + i * 9, none⟩ = some (.int .i64 N.k) ∧ w.cell? ⟨b, o + i * 9 + 1, none⟩ = some (.slice N.r1 N.r2 N.r3) ∧ w.cell? ⟨b, o + i * 9 + 2, none⟩ = some (.int .i64 N.a2) ∧ w.cell? ⟨b, o + i * 9 + 3, none⟩ = some (.slice N.s1 N.s2 N.s3) ∧
  w.cell? ⟨b, o + i * 9 + 4, none⟩ = some (.int .i64 N.a4) ∧ w.cell? ⟨b, o + i * 9 + 5, none⟩ = some (.int .i64 N.a5) ∧ w.cell? ⟨b, o + i * 9 + 6, none⟩ = some (.bool N.a6) ∧ w.cell? ⟨b, o + i * 9 + 7, none⟩ = some (.int .i64 N.a7) ∧ w.cell? ⟨b, o + i * 9 + 8, none⟩ = some (.string N.a8)
/-- a row of ranges at an address -/
def R2 (w : World) (B : Nat) (ad : Option Addr) (R : List (Int × Int)) : Prop :=
  R ≠ [] → ∃ b o, ad = some ⟨b, o, none⟩ ∧ b < B ∧ ∀ i (hi : i < R.length), w.cell? ⟨b, o + i * 2, none⟩ = some (.int .i64 R[i].1) ∧ w.cell? ⟨b, o + i * 2 + 1, none⟩ = some (.int .i64 R[i].2)
/-- a number that may be one -/
abbrev I64ok (x : Int) : Prop := -9223372036854775808 ≤ x ∧ x ≤ 9223372036854775807
structure Nv.ok (N : Nv) : Prop where
  k : I64ok N.k
  a2 : I64ok N.a2
  a4 : I64ok N.a4
  a5 : I64ok N.a5
  a7 : I64ok N.a7
  a8 : N.a8.size ≤ maxLen
  r : N.r2 ≤ N.r3 ∧ N.r3 ≤ maxLen
  s : N.s2 ≤ N.s3 ∧ N.s3 ≤ maxLen
/-- a tree lies in memory, below a block -/
inductive TI (w : World) (B : Nat) : Nv → Tn → Prop
  | mk {N : Nv} {R : List (Int × Int)} {ts : List Tn} {ND : Nat → Nv} (ok : N.ok) (hr : N.r2 = R.length) (hR : R2 w B N.r1 R) (hRk : ∀ x ∈ R, I64ok x.1 ∧ I64ok x.2) (hs : N.s2 = ts.length)
      (hS : 0 < ts.length → ∃ b o, N.s1 = some ⟨b, o, none⟩ ∧ b < B ∧ ∀ i, i < ts.length → N9 w b o i (ND i)) (hk : ∀ i (hi : i < ts.length), TI w B (ND i) ts[i]) :
      TI w B N (.mk N.k R N.a2 ts N.a4 N.a5 N.a6 N.a7 N.a8)
theorem cell_eq {w w' : World} {b : Nat} (h : w'.heap[b]? = w.heap[b]?) (o : Nat) : w'.cell? ⟨b, o, none⟩ = w.cell? ⟨b, o, none⟩ := by simp only [World.cell?, h]
theorem N9.kept {w w' : World} {b o i : Nat} {N : Nv} (h : N9 w b o i N) (hk : w'.heap[b]? = w.heap[b]?) : N9 w' b o i N := by
  obtain ⟨h0, h1, h2, h3, h4, h5, h6, h7, h8⟩ := h
  exact ⟨(cell_eq hk _).trans h0, (cell_eq hk _).trans h1, (cell_eq hk _).trans h2, (cell_eq hk _).trans h3, (cell_eq hk _).trans h4, (cell_eq hk _).trans h5, (cell_eq hk _).trans h6, (cell_eq hk _).trans h7, (cell_eq hk _).trans h8⟩
theorem R2.kept {w w' : World} {B : Nat} {ad : Option Addr} {R : List (Int × Int)} (h : R2 w B ad R) (hk : ∀ b, b < B → w'.heap[b]? = w.heap[b]?) : R2 w' B ad R := fun hn => by
  obtain ⟨b, o, h1, h2, h3⟩ := h hn
  exact ⟨b, o, h1, h2, fun i hi => ⟨(cell_eq (hk b h2) _).trans (h3 i hi).1, (cell_eq (hk b h2) _).trans (h3 i hi).2⟩⟩
theorem R2.le {w : World} {B B' : Nat} {ad : Option Addr} {R : List (Int × Int)} (h : R2 w B ad R) (hB : B ≤ B') : R2 w B' ad R := fun hn => by
  obtain ⟨b, o, h1, h2, h3⟩ := h hn
  exact ⟨b, o, h1, by omega, h3⟩
theorem TI.kept {w w' : World} {B : Nat} {N : Nv} {t : Tn} (h : TI w B N t) (hk : ∀ b, b < B → w'.heap[b]? = w.heap[b]?) : TI w' B N t := by
  induction h with
  | mk ok hr hR hRk hs hS hkk ih =>
    refine .mk ok hr (hR.kept hk) hRk hs (fun hp => ?_) ih
    obtain ⟨b, o, h1, h2, h3⟩ := hS hp
    exact ⟨b, o, h1, h2, fun i hi => (h3 i hi).kept (hk b h2)⟩
theorem TI.le {w : World} {B B' : Nat} {N : Nv} {t : Tn} (h : TI w B N t) (hB : B ≤ B') : TI w B' N t := by
  induction h with
  | mk ok hr hR hRk hs hS hkk ih =>
    refine .mk ok hr (hR.le hB) hRk hs (fun hp => ?_) ih
    obtain ⟨b, o, h1, h2, h3⟩ := hS hp
    exact ⟨b, o, h1, by omega, h3⟩
/-- how a node's type is made -/
structure NodeTy (P : Program) (tn ts tr te ti tb tg : TypeId) (f : Nat → Field) (g0 g1 : Field) : Prop where
  hn : P.underlying tn = some (.struct #[f 0, f 1, f 2, f 3, f 4, f 5, f 6, f 7, f 8])
  cn : P.cellsOf tn = 9
  ty : (f 0).type = ti ∧ (f 1).type = tr ∧ (f 2).type = ti ∧ (f 3).type = ts ∧ (f 4).type = ti ∧ (f 5).type = ti ∧ (f 6).type = tb ∧ (f 7).type = ti ∧ (f 8).type = tg
  of : ∀ i, i < 9 → (f i).offset = i
  ci : P.cellsOf ti = 1
  cr : P.cellsOf tr = 1
  cs : P.cellsOf ts = 1
  cb : P.cellsOf tb = 1
  cg : P.cellsOf tg = 1
  hi : P.underlying ti = some (.int .i64)
  hb : P.underlying tb = some .bool
  hg : P.underlying tg = some .string
  hs : P.underlying ts = some (.slice tn)
  hr : P.underlying tr = some (.slice te)
  he : P.underlying te = some (.struct #[g0, g1])
  ce : P.cellsOf te = 2
  og : g0.offset = 0 ∧ g1.offset = 1 ∧ g0.type = ti ∧ g1.type = ti
theorem i64ok {n : Int} (h : (Lit.int .i64 n).wf = true) : I64ok n := by
  simp [Lit.wf, IntKind.min, IntKind.signed, IntKind.bits] at h
  exact h
section
variable {H : Type} {enc : TypeId × Value → H} {P : Program} {w : World} {base : Nat} {spare : Nat → Bool} {held : Bool} {tn ts tr te ti tb tg : TypeId} {f : Nat → Field} {g0 g1 : Field}
theorem open_ranges (S : NodeTy P tn ts tr te ti tb tg f g0 g1) {fuel : Nat} {cs : List Value} {x : DataW H × List MemPlace} (h : DataW.trod enc P w base spare held fuel tr cs = some x) :
    ∃ (ad : Option Addr) (n c : Nat) (R : List (Int × Int)), cs = [.slice ad n c] ∧ n = R.length ∧ n ≤ c ∧ c ≤ maxLen ∧ R2 w w.heap.size ad R ∧ ∀ x ∈ R, I64ok x.1 ∧ I64ok x.2 := by
  obtain ⟨o0, o1, t0, t1⟩ := S.og
  rcases open_slice_pairs S.hr S.he S.ce o0 o1 (by rw [t0]; exact S.ci) (by rw [t1]; exact S.ci) h with ⟨rfl, rfl⟩ | ⟨a, len, cap, m, n, V0, V1, D0, D1, P0, P1, rfl, hb, hl, hm, hmm, rfl, hx⟩
  · exact ⟨none, 0, 0, [], rfl, rfl, Nat.le_refl _, by simp [maxLen], fun hn => absurd rfl hn, fun x hx => by cases hx⟩
  have hlm : len ≤ m := by rw [hmm]; split <;> omega
  rw [t0, t1] at hx
  have each : ∀ i, i < len → ∃ q : Int × Int, w.cell? (a.add (i * 2)) = some (.int .i64 q.1) ∧ w.cell? (a.add (i * 2 + 1)) = some (.int .i64 q.2) ∧ I64ok q.1 ∧ I64ok q.2 := fun i hi => by
    obtain ⟨h1, h2, h3, h4⟩ := hx i (by omega)
    obtain ⟨n0, e0, _, w0⟩ := DataW.trod_int S.hi h3
    obtain ⟨n1, e1, _, w1⟩ := DataW.trod_int S.hi h4
    simp at e0 e1
    rw [e0] at h1
    rw [e1] at h2
    exact ⟨(n0, n1), h1, h2, i64ok w0, i64ok w1⟩
  obtain ⟨q, hq⟩ := choose_lt each
  refine ⟨some a, len, cap, (List.range len).map q, rfl, by simp, hl, hm, fun hn => ?_, fun x hx => ?_⟩
  · have hpos : 0 < len := by
      rcases Nat.eq_zero_or_pos len with h0 | h0
      · subst h0; simp at hn
      · exact h0
    have hc0 := (hq 0 hpos).1
    have hsp : a.spot = none := by simpa [Addr.add] using World.cell?_spot hc0
    obtain ⟨b, o, sp⟩ := a
    simp only at hsp
    subst hsp
    refine ⟨b, o, rfl, World.block_lt_of_cell? _ _ hc0, fun i hi => ?_⟩
    simp only [List.length_map, List.length_range] at hi
    have h1 := hq i hi
    rw [add_plain, add_plain] at h1
    simp only [List.getElem_map, List.getElem_range]
    exact ⟨h1.1, by rw [Nat.add_assoc]; exact h1.2.1⟩
  · simp only [List.mem_map, List.mem_range] at hx
    obtain ⟨i, hi, rfl⟩ := hx
    exact (hq i hi).2.2
theorem open_node (S : NodeTy P tn ts tr te ti tb tg f g0 g1) : ∀ (fuel : Nat) (cs : List Value) (x : DataW H × List MemPlace), DataW.trod enc P w base spare held fuel tn cs = some x → ∃ N t, cs = Nv.cs N ∧ TI w w.heap.size N t := by
  intro fuel
  induction fuel using Nat.strongRecOn with
  | _ fuel ih =>
  intro cs x h
  obtain ⟨xs, n, hf, rfl, hl, hxl, hfs⟩ := DataW.trod_struct S.hn h
  rw [S.cn] at hl
  simp only [List.size_toArray, List.length_cons, List.length_nil] at hxl
  obtain ⟨t0, t1, t2, t3, t4, t5, t6, t7, t8⟩ := S.ty
  match xs, hxl, cs, hl with
  | [y0, y1, y2, y3, y4, y5, y6, y7, y8], _, [v0, v1, v2, v3, v4, v5, v6, v7, v8], _ =>
  have g0 := hfs 0 (f 0) rfl
  have g1 := hfs 1 (f 1) rfl
  have g2 := hfs 2 (f 2) rfl
  have g3 := hfs 3 (f 3) rfl
  have g4 := hfs 4 (f 4) rfl
  have g5 := hfs 5 (f 5) rfl
  have g6 := hfs 6 (f 6) rfl
  have g7 := hfs 7 (f 7) rfl
  have g8 := hfs 8 (f 8) rfl
  simp [t0, S.of, S.ci] at g0
  simp [t1, S.of, S.cr] at g1
  simp [t2, S.of, S.ci] at g2
  simp [t3, S.of, S.cs] at g3
  simp [t4, S.of, S.ci] at g4
  simp [t5, S.of, S.ci] at g5
  simp [t6, S.of, S.cb] at g6
  simp [t7, S.of, S.ci] at g7
  simp [t8, S.of, S.cg] at g8
  obtain ⟨k, e0, _, w0⟩ := DataW.trod_int S.hi g0
  obtain ⟨a2, e2, _, w2⟩ := DataW.trod_int S.hi g2
  obtain ⟨a4, e4, _, w4⟩ := DataW.trod_int S.hi g4
  obtain ⟨a5, e5, _, w5⟩ := DataW.trod_int S.hi g5
  obtain ⟨a7, e7, _, w7⟩ := DataW.trod_int S.hi g7
  obtain ⟨a6, e6, _⟩ := DataW.trod_bool S.hb g6
  obtain ⟨a8, e8, _, w8⟩ := DataW.trod_string S.hg g8
  obtain ⟨r1, r2, r3, R, e1, hr, hrc, hrm, hR, hRk⟩ := open_ranges S g1
  simp only [List.cons.injEq, and_true] at e0 e1 e2 e4 e5 e6 e7 e8
  subst e0 e1 e2 e4 e5 e6 e7 e8
  rcases DataW.trod_slice S.hs g3 with ⟨e3, _⟩ | ⟨a, len, cap, elems, rest, n', hn', e3, _, hb, hlc, hcm, hel, hx, _, _⟩
  · simp only [List.cons.injEq, and_true] at e3
    subst e3
    exact ⟨⟨k, r1, r2, r3, a2, none, 0, 0, a4, a5, a6, a7, a8⟩, _, rfl, .mk (ts := []) (ND := fun _ => default) ⟨i64ok w0, i64ok w2, i64ok w4, i64ok w5, i64ok w7, w8, ⟨hrc, hrm⟩, ⟨Nat.le_refl _, by simp [maxLen]⟩⟩ hr hR hRk rfl (fun hp => absurd hp (by simp)) (fun i hi => absurd hi (by simp))⟩
  · simp only [List.cons.injEq, and_true] at e3
    subst e3
    rw [S.cn] at hx
    have each : ∀ i, i < len → ∃ q : Nv × Tn, (∀ j, j < 9 → w.cell? (a.add (i * 9 + j)) = (Nv.cs q.1)[j]?) ∧ TI w w.heap.size q.1 q.2 := fun i hi => by
      have h1 := hx i hi
      rw [List.getElem?_eq_getElem (by omega)] at h1
      obtain ⟨cs', h2, h3⟩ := Option.bind_eq_some_iff.1 h1
      obtain ⟨N, t, rfl, ht⟩ := ih n' (by omega) cs' _ h3
      obtain ⟨_, _, hc⟩ := World.cells?_some h2
      exact ⟨(N, t), fun j hj => by have := hc j hj; rwa [add_add] at this, ht⟩
    obtain ⟨q, hq⟩ := choose_lt each
    refine ⟨⟨k, r1, r2, r3, a2, some a, len, cap, a4, a5, a6, a7, a8⟩, _, rfl, .mk (ts := (List.range len).map fun i => (q i).2) (ND := fun i => (q i).1) ⟨i64ok w0, i64ok w2, i64ok w4, i64ok w5, i64ok w7, w8, ⟨hrc, hrm⟩, ⟨hlc, hcm⟩⟩ hr hR hRk (by simp) (fun hp => ?_) (fun i hi => ?_)⟩
    · simp only [List.length_map, List.length_range] at hp ⊢
      have hc0 := (hq 0 hp).1 0 (by omega)
      simp only [Nv.cs, List.getElem?_cons_zero] at hc0
      have hsp : a.spot = none := by simpa [Addr.add] using World.cell?_spot hc0
      obtain ⟨b, o, sp⟩ := a
      simp only at hsp
      subst hsp
      refine ⟨b, o, rfl, World.block_lt_of_cell? _ _ hc0, fun i hi => ?_⟩
      have h1 := (hq i hi).1
      simp only [add_plain, ← Nat.add_assoc] at h1
      exact ⟨by simpa using h1 0 (by omega), by simpa using h1 1 (by omega), by simpa using h1 2 (by omega), by simpa using h1 3 (by omega), by simpa using h1 4 (by omega), by simpa using h1 5 (by omega), by simpa using h1 6 (by omega), by simpa using h1 7 (by omega), by simpa using h1 8 (by omega)⟩
    · simp only [List.length_map, List.length_range] at hi
      simpa using (hq i hi).2
end
end Go.Proofs.Ytnpocciioedgpaa
/- HELPERS: how many nodes a tree has; what a count down of them leaves. -/
namespace Go.Proofs.Ytnpocciioedgpaa
open Go.RowKit
set_option linter.unusedVariables false
set_option linter.unusedSimpArgs false
mutual
/-- how many nodes -/
def Tn.nodes : Tn → Nat
  | .mk _ _ _ s _ _ _ _ _ => 1 + nodesL s
def nodesL : List Tn → Nat
  | [] => 0
  | t :: ts => t.nodes + nodesL ts
end
mutual
/-- how many one below another -/
def Tn.depth : Tn → Nat
  | .mk _ _ _ s _ _ _ _ _ => 1 + depthL s
def depthL : List Tn → Nat
  | [] => 0
  | t :: ts => max t.depth (depthL ts)
end
mutual
/-- what a count down leaves: it ends below nought -/
def Tn.gr : Tn → Int → Int
  | .mk _ _ _ s _ _ _ _ _, l => grL s (l - 1)
def grL : List Tn → Int → Int
  | [], l => l
  | t :: ts, l => if l < 0 then l else grL ts (t.gr l)
end
theorem grL_neg (ts : List Tn) (l : Int) (h : l < 0) : grL ts l = l := by cases ts <;> simp [grL, h]
mutual
theorem Tn.gr_spec : ∀ (t : Tn) (l : Int), 0 ≤ l → (t.gr l ≤ l - 1) ∧ (-1 ≤ t.gr l) ∧ (0 ≤ t.gr l ↔ (t.nodes : Int) ≤ l) ∧ (0 ≤ t.gr l → t.gr l = l - t.nodes)
  | .mk _ _ _ s _ _ _ _ _, l, h => by
    have := grL_spec s (l - 1) (by omega)
    simp only [Tn.gr, Tn.nodes]
    omega
theorem grL_spec : ∀ (ts : List Tn) (l : Int), -1 ≤ l → (grL ts l ≤ l) ∧ (-1 ≤ grL ts l) ∧ (0 ≤ grL ts l ↔ (nodesL ts : Int) ≤ l) ∧ (0 ≤ grL ts l → grL ts l = l - nodesL ts)
  | [], l, h => by simp [grL, nodesL]; omega
  | t :: ts, l, h => by
    simp only [grL, nodesL]
    by_cases hl : l < 0
    · simp only [hl, if_true]
      omega
    · have h1 := Tn.gr_spec t l (by omega)
      have h2 := grL_spec ts (t.gr l) (by omega)
      simp only [hl, if_false]
      omega
end
theorem grL_drop (ts : List Tn) (i : Nat) (hi : i < ts.length) (l : Int) (h : 0 ≤ l) : grL (ts.drop i) l = grL (ts.drop (i + 1)) (ts[i].gr l) := by
  rw [List.drop_eq_getElem_cons hi]
  simp only [grL]
  rw [if_neg (by omega)]
theorem Tn.pos (t : Tn) : 1 ≤ t.nodes := by cases t; simp only [Tn.nodes]; omega
end Go.Proofs.Ytnpocciioedgpaa
/- HELPERS: is a tree too great, too deep? -/
namespace Go.Proofs.Ytnpocciioedgpaa
open Go.RowKit
set_option linter.unusedVariables false
set_option linter.unusedSimpArgs false
theorem hid' {p : Prop} (h : p) : Hid p := h
theorem nine' {w : World} {b : Nat} {t : TypeId} {a0 a1 a2 a3 a4 a5 a6 a7 a8 : Value} (h : w.heap[b]? = some (.cells #[a0, a1, a2, a3, a4, a5, a6, a7, a8] t (0, 0))) :
    w.cell? ⟨b, 0, none⟩ = some a0 ∧ w.cell? ⟨b, 1, none⟩ = some a1 ∧ w.cell? ⟨b, 2, none⟩ = some a2 ∧ w.cell? ⟨b, 3, none⟩ = some a3 ∧ w.cell? ⟨b, 4, none⟩ = some a4 ∧ w.cell? ⟨b, 5, none⟩ = some a5 ∧ w.cell? ⟨b, 6, none⟩ = some a6 ∧ w.cell? ⟨b, 7, none⟩ = some a7 ∧ w.cell? ⟨b, 8, none⟩ = some a8 :=
  ⟨Joins.cell_of_block h 0, Joins.cell_of_block h 1, Joins.cell_of_block h 2, Joins.cell_of_block h 3, Joins.cell_of_block h 4, Joins.cell_of_block h 5, Joins.cell_of_block h 6, Joins.cell_of_block h 7, Joins.cell_of_block h 8⟩
set_option maxRecDepth 100000 in
set_option maxHeartbeats 4000000 in
theorem great27 {w0 : World} {B : Nat} {N : Nv} {t : Tn} (h : TI w0 B N t) : ∀ (l : Int) (w : World), 0 ≤ l ∧ l ≤ 4194304 → B ≤ w.heap.size → (∀ b, b < B → w.heap[b]? = w0.heap[b]?) →
    Calls Try.prog 27 #[N.v, .int .i64 l] w fun e w' => e = .returned (.int .i64 (t.gr l)) ∧ Below w.heap.size w w' := by
  induction h with
  | @mk N R ts ND ok hr hR hRk hs hS hk ih =>
  intro l w hl hB hw
  have hmax := ok.s
  obtain ⟨k, r1, r2, r3, a2, s1, s2, s3, a4, a5, a6, a7, a8⟩ := N
  simp only at hs hS hmax
  simp only [Tn.gr]
  have HG := grL_spec ts (l - 1) (by omega)
  have ad0 : IntKind.i64.wrap (l - 1) = l - 1 := by simp [IntKind.wrap, IntKind.bits, IntKind.signed]; omega
  obtain ⟨r, hrr⟩ : ∃ r, r = grL ts (l - 1) := ⟨_, rfl⟩
  rw [← hrr]
  have HR := hid' hrr
  have HW := hid' hw
  have HS := hid' hS
  have IH := hid' ih
  have hm2 : s2 ≤ 9223372036854775807 := by have : maxLen = 9223372036854775807 := rfl; omega
  have HL := hid' hs
  have HHL := hid' hl
  clear ok hr hR hRk hk hS hw hrr ih hmax HG hs
  go_enter Try.func27, Try.ntmps27
  go_wp2_with fail
  go_loopw [1, 5] (fun u y wq => ∃ i : Nat, y = .int .i64 (i : Int) ∧ i ≤ s2 ∧ (∃ q, u = .int .i64 q ∧ (-1 ≤ q ∧ q ≤ 4194304) ∧ Hid (grL (ts.drop i) q = r)) ∧ Hid (Below w.heap.size w wq) ∧ Hid (wq.heap[w.heap.size]? = some (.cells #[.int .i64 k, .slice r1 r2 r3, .int .i64 a2, .slice s1 s2 s3, .int .i64 a4, .int .i64 a5, .bool a6, .int .i64 a7, .string a8] 28 (0, 0)))) (fun _ y _ => s2 - (intOf y).toNat)
  case atStart => exact ⟨0, rfl, by omega, ⟨l - 1, rfl, by omega, HR.out.symm⟩, Joins.below_alloc1 w _, heap_alloc_new w _⟩
  case round =>
    obtain ⟨i, rfl, hi, ⟨q, rfl, hq, HQ⟩, BK, BX⟩ := hrel
    obtain ⟨o0, o1, o2, o3, o4, o5, o6, o7, o8⟩ := nine' BX.out
    by_cases hil : i < s2
    · have b1 : decide ((i : Int) < (s2 : Int)) = true := by simp; omega
      have b2 : (i : Int) < (s2 : Int) := by omega
      by_cases hq0 : 0 ≤ q
      · have b3 : decide (q ≥ 0) = true := by simp; omega
        have b3' : decide (0 ≤ q) = true := by simp; omega
        have hlt : i < ts.length := by rw [← HL.out]; exact hil
        obtain ⟨b, o, hs1, hb, hc⟩ := HS.out (by omega)
        subst hs1
        have hwk : ∀ b, b < B → wr.heap[b]? = w0.heap[b]? := fun b hb => (BK.out.block b (by omega)).trans (HW.out b hb)
        obtain ⟨n0, n1, n2, n3, n4, n5, n6, n7, n8⟩ := (hc i hlt).kept (hwk b hb)
        have HC := IH.out i hlt q wr ⟨hq0, hq.2⟩ (by have := BK.out.size; omega) hwk
        have hsp := Tn.gr_spec ts[i] q hq0
        rw [grL_drop ts i hlt q hq0] at HQ
        obtain ⟨g, hg⟩ : ∃ g, g = ts[i].gr q := ⟨_, rfl⟩
        rw [← hg] at HC HQ hsp
        have hg2 : -1 ≤ g ∧ g ≤ 4194304 := by omega
        obtain ⟨M, hM⟩ : ∃ M, M = ND i := ⟨_, rfl⟩
        rw [← hM] at HC n0 n1 n2 n3 n4 n5 n6 n7 n8
        have ad1 : IntKind.i64.wrap ((i : Int) + 1) = (i : Int) + 1 := by simp [IntKind.wrap, IntKind.bits, IntKind.signed]; omega
        clear hM hg hwk hc hsp hlt
        go_wp2_with (first | (go_at_call 27; (with_reducible refine HC.mono ?_); rintro e w2 ⟨rfl, hb2⟩; have HB2 := hid' hb2; clear hb2 HC))
        refine ⟨⟨i + 1, by push_cast; rfl, by omega, ⟨_, rfl, hg2, HQ.out⟩, ?_, ?_⟩, ?_⟩
        · exact BK.out.trans (Joins.below_le HB2.out BK.out.size)
        · exact (HB2.out.block _ (Array.getElem?_eq_some_iff.1 BX.out).1).trans BX.out
        · simp [intOf]
          omega
      · have b3 : decide (q ≥ 0) = false := by simp; omega
        have b3' : decide (0 ≤ q) = false := by simp; omega
        have e := HQ.out
        rw [grL_neg _ _ (by omega)] at e
        go_wp2
        go_ret
        exact ⟨by first | rfl | exact ret_int e, BK.out⟩
    · have b1 : decide ((i : Int) < (s2 : Int)) = false := by simp; omega
      obtain rfl : i = s2 := by omega
      have e := HQ.out
      rw [HL.out, List.drop_length] at e
      simp only [grL] at e
      go_wp2
      go_ret
      exact ⟨by first | rfl | exact ret_int e, BK.out⟩
theorem deep10 {w : World} {N : Nv} {t : Tn} (h : TI w w.heap.size N t) : Calls Try.prog 10 #[N.v] w fun e w' => e = .returned (.bool (decide (4194304 < t.nodes))) ∧ Below w.heap.size w w' := by
  have HC := great27 h 4194304 (w.alloc (.cells (Array.mk N.cs) 28)) (by omega) (by simp) (fun b hb => heap_alloc_old w _ hb)
  have HS := Tn.gr_spec t 4194304 (by omega)
  obtain ⟨k, r1, r2, r3, a2, s1, s2, s3, a4, a5, a6, a7, a8⟩ := N
  obtain ⟨g, hg⟩ : ∃ g, g = t.gr 4194304 := ⟨_, rfl⟩
  rw [← hg] at HC HS
  have e1 : decide (g < 0) = decide (4194304 < t.nodes) := by rw [Bool.eq_iff_iff]; simp; omega
  clear hg HS
  go_enter Try.func10, Try.ntmps10
  go_wp2_with (first | (go_at_call 27; (with_reducible refine HC.mono ?_); rintro e w2 ⟨rfl, hb2⟩; have HB2 := hid' hb2; clear hb2 HC))
  go_ret
  exact ⟨by first | rfl | exact ret_bool e1, (Joins.below_alloc1 w _).trans (Joins.below_le HB2.out (by simp))⟩
theorem great14 {w : World} {N : Nv} {t : Tn} (h : TI w w.heap.size N t) : Calls Try.prog 14 #[N.v] w fun e w' => e = .returned (.bool (decide (200000 < t.nodes))) ∧ Below w.heap.size w w' := by
  have HC := great27 h 200000 (w.alloc (.cells (Array.mk N.cs) 28)) (by omega) (by simp) (fun b hb => heap_alloc_old w _ hb)
  have HS := Tn.gr_spec t 200000 (by omega)
  obtain ⟨k, r1, r2, r3, a2, s1, s2, s3, a4, a5, a6, a7, a8⟩ := N
  obtain ⟨g, hg⟩ : ∃ g, g = t.gr 200000 := ⟨_, rfl⟩
  rw [← hg] at HC HS
  have e1 : decide (g < 0) = decide (200000 < t.nodes) := by rw [Bool.eq_iff_iff]; simp; omega
  clear hg HS
  go_enter Try.func14, Try.ntmps14
  go_wp2_with (first | (go_at_call 27; (with_reducible refine HC.mono ?_); rintro e w2 ⟨rfl, hb2⟩; have HB2 := hid' hb2; clear hb2 HC))
  go_ret
  exact ⟨by first | rfl | exact ret_bool e1, (Joins.below_alloc1 w _).trans (Joins.below_le HB2.out (by simp))⟩
end Go.Proofs.Ytnpocciioedgpaa
/- HELPERS: ways are made: what is claimed of them on the way; so many copies. -/
namespace Go.Proofs.Ytnpocciioedgpaa
open Go.RowKit
set_option linter.unusedVariables false
set_option linter.unusedSimpArgs false
set_option maxRecDepth 100000 in
set_option maxHeartbeats 2000000 in
theorem choice97l (g K : Nat) (L : Nat → Prop) (v1 v2 : Value) (W1 W2 : Way) (F1 F2 : List Nat) (w : World) (h1 : Rep g K L w v1 W1 F1) (h2 : Rep g K L w v2 W2 F2) :
    Calls Try.prog 97 #[.bool true, v1, v2] w fun e w' => ∃ v F, e = .returned v ∧ Rep g K L w' v (.inOrder [W2, W1]) F ∧ Below w.heap.size w w' ∧ ∀ k ∈ F, k ∈ F1 ++ F2 ∨ w.heap.size ≤ k := by
  obtain ⟨f1, fi1, ca1, rfl⟩ := h1.form
  obtain ⟨f2, fi2, ca2, rfl⟩ := h2.form
  have hb : Below w.heap.size w (w.alloc (.cells #[.func (.func f2) fi2 ca2, .func (.func f1) fi1 ca1] 84)) := Joins.below_alloc1 w _
  have hrow : (w.alloc (.cells #[.func (.func f2) fi2 ca2, .func (.func f1) fi1 ca1] 84)).ownsRow w.heap.size 84 1 (.slice (some ⟨w.heap.size, 0, none⟩) 2 2) 2 [.func (.func f2) fi2 ca2, .func (.func f1) fi1 ca1] := by
    have := World.ownsRow_lit (base := w.heap.size) (e := 84) (size := 1) w #[.func (.func f2) fi2 ca2, .func (.func f1) fi1 ca1] 2 (Nat.le_refl _) (by unfold maxLen; omega) rfl
    exact this
  have HC := inOrder94 g K w.heap.size 0 L _ [W2, W1] _ (F2 ++ (F1 ++ [])) _ hrow (.cons (h2.kept fun k hk => hb.block k (h2.low k hk)) (.cons (h1.kept fun k hk => hb.block k (h1.low k hk)) .nil))
  have HB := hid hb
  clear h1 h2 hb hrow
  go_enter Try.func97, Try.ntmps97
  go_wp2_with (go_at_call 94; (with_reducible refine HC.mono ?_); rintro e w1 ⟨v, F, rfl, hr, hb1, hn⟩; obtain ⟨f, fi, ca, rfl⟩ := hr.form; have HR := hid hr; have HB1 := hid hb1; have HN := hid hn; clear hr hb1 hn)
  go_ret
  refine ⟨_, F, rfl, HR.out, HB.out.trans (Joins.below_le HB1.out (by simp)), fun k hk => ?_⟩
  rcases HN.out k hk with h | h
  · simp [Value.ownBlock] at h
    rcases h with rfl | h | h
    · right; omega
    · left; simp [h]
    · left; simp [h]
  · right; simp at h; omega
/-- a choice, lazy or not -/
theorem choice_any (g K : Nat) (L : Nat → Prop) (lz : Bool) (v1 v2 : Value) (W1 W2 : Way) (F1 F2 : List Nat) (w : World) (h1 : Rep g K L w v1 W1 F1) (h2 : Rep g K L w v2 W2 F2) :
    Calls Try.prog 97 #[.bool lz, v1, v2] w fun e w' => ∃ v F, e = .returned v ∧ Rep g K L w' v (.inOrder (if lz = true then [W2, W1] else [W1, W2])) F ∧ Below w.heap.size w w' ∧ ∀ k ∈ F, k ∈ F1 ++ F2 ∨ w.heap.size ≤ k := by
  cases lz with
  | false => exact choice97 g K L v1 v2 W1 W2 F1 F2 w h1 h2
  | true => exact choice97l g K L v1 v2 W1 W2 F1 F2 w h1 h2
/-- whatever loop -/
abbrev AL : Nat → Prop := fun _ => True
/-- a claim on how many things there are and a way; the blocks that it reads -/
structure Jd where
  p : Int → Way → List Nat → World → Prop
  stab : ∀ {n W FE w w'}, p n W FE w → w.heap.size ≤ w'.heap.size → (∀ k ∈ FE, w'.heap[k]? = w.heap[k]?) → p n W FE w'
  low : ∀ {n W FE w}, p n W FE w → ∀ k ∈ FE, k < w.heap.size
/-- to begin a node leads from a claim on what is behind it to one on what is made -/
def StepJ (g K : Nat) (A : Six) (N : Nd) (k : Int) (FX F0 : List Nat) (w : World) (J0 J1 : Jd) : Prop :=
  ∀ (w' : World) (v : Value) (n : Int) (B : Way) (F1 FE : List Nat), Chg w w' [g] [g] → O7 w' g A n → Rep g K AL w' v B F1 → g ∉ F1 → g ∉ FE → (∀ k ∈ F1, k ∈ F0 ∨ w.heap.size ≤ k) → (∀ k ∈ FE, k ∈ F0 ∨ w.heap.size ≤ k) → J0.p n B FE w' →
    Calls Try.prog 53 #[pt g, N.v k, v] w' fun e w'' => ∃ u F FE' n1 W, e = .returned u ∧ Mk g K AL w' w'' A n1 u W (FX ++ F1) F ∧ J1.p n1 W FE' w'' ∧ ∀ k ∈ FE', k ∈ FE ∨ k ∈ FX ++ F1 ∨ w'.heap.size ≤ k
theorem StepJ.widen {g K : Nat} {A : Six} {N : Nd} {k : Int} {FX F0 F0' : List Nat} {w w1 : World} {J0 J1 : Jd} (h : StepJ g K A N k FX F0 w J0 J1) (hc : Chg w w1 [g] [g]) (hF : ∀ k ∈ F0', k ∈ F0 ∨ w.heap.size ≤ k) : StepJ g K A N k FX F0' w1 J0 J1 :=
  fun w' v n B F1 FE h1 h2 h3 h4 h5 h6 h7 h8 => h w' v n B F1 FE (hc.trans h1) h2 h3 h4 h5
    (fun k hk => by
      rcases h6 k hk with h | h
      · exact hF k h
      · right; exact Nat.le_trans hc.size h)
    (fun k hk => by
      rcases h7 k hk with h | h
      · exact hF k h
      · right; exact Nat.le_trans hc.size h) h8
theorem StepJ.next {g K : Nat} {A : Six} {N : Nd} {k : Int} {FX F0 : List Nat} {w w1 : World} {J0 J1 : Jd} (h : StepJ g K A N k FX F0 w J0 J1) (hc : Chg w w1 [g] [g]) : StepJ g K A N k FX F0 w1 J0 J1 := h.widen hc fun k hk => .inl hk
/-- what is made, with what is claimed of it -/
structure Mj (g K : Nat) (J : Jd) (w w' : World) (A : Six) (n : Int) (v : Value) (W : Way) (F0 F FE : List Nat) : Prop where
  m : Mk g K AL w w' A n v W F0 F
  j : J.p n W FE w'
  newE : ∀ k ∈ FE, k ∈ F0 ∨ w.heap.size ≤ k
theorem Mj.awayE {g K : Nat} {J : Jd} {w w' : World} {A : Six} {n : Int} {v : Value} {W : Way} {F0 F FE : List Nat} (h : Mj g K J w w' A n v W F0 F FE) (hg : g ∉ F0) (hl : g < w.heap.size) : g ∉ FE := fun hm => by
  rcases h.newE g hm with h | h
  · exact hg h
  · omega
theorem Jd.alloc (J : Jd) {n : Int} {W : Way} {FE : List Nat} {w : World} (h : J.p n W FE w) (o : Obj) : J.p n W FE (w.alloc o) := J.stab h (by simp) fun k hk => heap_alloc_old w o (J.low h k hk)
theorem Jd.drew (J : Jd) {n : Int} {W : Way} {FE : List Nat} {w : World} (h : J.p n W FE w) : J.p n W FE w.drew := J.stab h (Nat.le_refl _) fun k hk => rfl
theorem Jd.chg (J : Jd) {n : Int} {W : Way} {FE : List Nat} {w w' : World} {g : Nat} (h : J.p n W FE w) (hc : Chg w w' [g] [g]) (hg : g ∉ FE) : J.p n W FE w' := J.stab h hc.size fun k hk => hc.block k (J.low h k hk) (by simp; intro e; exact hg (e ▸ hk))
theorem Jd.below (J : Jd) {n : Int} {W : Way} {FE : List Nat} {w w' : World} (h : J.p n W FE w) (hc : Below w.heap.size w w') : J.p n W FE w' := J.stab h hc.size fun k hk => hc.block k (J.low h k hk)
set_option maxRecDepth 100000 in
set_option maxHeartbeats 4000000 in
theorem timesJ98 (g K c : Nat) (A : Six) (N : Nd) (k n : Int) (B : Way) (J : Nat → Jd) (FX F0 FE : List Nat) (vb : Value) (w : World) (hO : O7 w g A n) (hR : Rep g K AL w vb B F0) (hJ0 : (J 0).p n B FE w) (hgF : g ∉ F0) (hgX : g ∉ FX) (hgE : g ∉ FE) (hc : c ≤ 1000000)
    (HB : Hid (∀ i, i < c → StepJ g K A N k FX (FX ++ (F0 ++ FE)) w (J i) (J (i + 1)))) :
    Calls Try.prog 98 #[pt g, .int .i64 (c : Int), N.v k, vb] w fun e w' => ∃ v F FE' n' W, e = .returned v ∧ Mj g K (J c) w w' A n' v W (FX ++ (F0 ++ FE)) F FE' := by
  obtain ⟨f, fi, ca, rfl⟩ := hR.form
  have hgl := (Array.getElem?_eq_some_iff.1 hO).1
  have hch : Chg w (w.alloc (N.o k)) [g] [g] := (Chg.refl w [g]).alloc _
  have hM0 : Mj g K (J 0) w (w.alloc (N.o k)) A n (.func (.func f) fi ca) B (FX ++ (F0 ++ FE)) F0 FE := ⟨⟨hR.kept fun j hj => heap_alloc_old w _ (hR.low j hj), (heap_alloc_old w _ hgl).trans hO, hch, fun j hj => .inl (by simp [hj])⟩, (J 0).alloc hJ0 _, fun j hj => .inl (by simp [hj])⟩
  have hz : (w.alloc (N.o k)).heap[w.heap.size]? = some (.cells #[.int .i64 k, .slice N.r1 N.r2 N.r3, .int .i64 N.a2, .slice N.s1 N.s2 N.s3, .int .i64 N.a4, .int .i64 N.a5, .bool N.a6, .int .i64 N.a7, .string N.a8] 28 (0, 0)) := heap_alloc_new w _
  have hgA : g ∉ FX ++ (F0 ++ FE) := by simp; exact ⟨hgX, hgF, hgE⟩
  have HM0 := hid hM0
  have HZ := hid hz
  have HGA := hid hgA
  clear hO hR hch hM0 hz hgX hgF hgE hgA hJ0
  go_enter Try.func98, Try.ntmps98
  go_wp2_with fail
  go_loopw [3, 10] (fun u x wq => ∃ (i : Nat) (f' : FuncId) (fi' ca' : Array Value), u = .func (.func f') fi' ca' ∧ x = .int .i64 (i : Int) ∧ i ≤ c ∧ Hid (∃ F FE' n' W, Mj g K (J i) w wq A n' (.func (.func f') fi' ca') W (FX ++ (F0 ++ FE)) F FE') ∧ Hid (wq.heap[w.heap.size]? = some (.cells #[.int .i64 k, .slice N.r1 N.r2 N.r3, .int .i64 N.a2, .slice N.s1 N.s2 N.s3, .int .i64 N.a4, .int .i64 N.a5, .bool N.a6, .int .i64 N.a7, .string N.a8] 28 (0, 0)))) (fun _ x _ => c - (intOf x).toNat)
  case atStart => exact ⟨0, f, fi, ca, rfl, rfl, by omega, by exact ⟨F0, FE, n, B, HM0.out⟩, HZ.out⟩
  case round =>
    obtain ⟨i, f', fi', ca', rfl, rfl, hi, HI, HN⟩ := hrel
    by_cases hil : i < c
    · have b1 : decide ((i : Int) < (c : Int)) = true := by simp; omega
      have b2 : (i : Int) < (c : Int) := by omega
      obtain ⟨F, FE1, n1, W1, M⟩ := HI.out
      obtain ⟨o0, o1, o2, o3, o4, o5, o6, o7, o8⟩ := nine' HN.out
      have HC := HB.out i hil wr _ n1 W1 F FE1 M.m.chg M.m.ob M.m.rep (M.m.away HGA.out hgl) (M.awayE HGA.out hgl) M.m.new M.newE M.j
      have ad1 : IntKind.i64.wrap ((i : Int) + 1) = (i : Int) + 1 := by simp [IntKind.wrap, IntKind.bits, IntKind.signed]; omega
      have HM := hid M
      clear M HI
      go_wp2_with (first | (go_at_call 53; (with_reducible refine HC.mono ?_); rintro e w2 ⟨u, F2, FE2, n2, W2, rfl, M2, j2, hE2⟩; obtain ⟨f2, fi2, ca2, rfl⟩ := M2.rep.form; have HM2 := hid M2; have HJ2 := hid j2; have HE2 := hid hE2; clear M2 HC j2 hE2))
      refine ⟨⟨i + 1, f2, fi2, ca2, rfl, by push_cast; rfl, by omega, ?_, ?_⟩, by simp [intOf]; omega⟩
      · have sz := HM.out.m.chg.size
        refine ⟨F2, FE2, n2, W2, ⟨HM2.out.rep, HM2.out.ob, HM.out.m.chg.trans HM2.out.chg, fun j hj => ?_⟩, HJ2.out, fun j hj => ?_⟩
        · rcases HM2.out.new j hj with h | h
          · rcases List.mem_append.1 h with h | h
            · left; simp [h]
            · exact HM.out.m.new j h
          · right; omega
        · rcases HE2.out j hj with h | h | h
          · exact HM.out.newE j h
          · rcases List.mem_append.1 h with h | h
            · left; simp [h]
            · exact HM.out.m.new j h
          · right; omega
      · exact (HM2.out.chg.block w.heap.size (Array.getElem?_eq_some_iff.1 HN.out).1 (by simp; omega)).trans HN.out
    · have b1 : decide ((i : Int) < (c : Int)) = false := by simp; omega
      obtain rfl : i = c := by omega
      go_wp2
      go_ret
      obtain ⟨F, FE1, n1, W1, M⟩ := HI.out
      exact ⟨_, F, FE1, n1, W1, rfl, M⟩
end Go.Proofs.Ytnpocciioedgpaa
