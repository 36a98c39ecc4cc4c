/- HELPERS: trees, and texts with a place, that come in as arguments. -/
import Derived.Test.YtodpmmlfdkdemaaRows
import Derived.Test.YtodpmmlfdkdemaaTa
import Derived.JoinedCond
import Derived.OpenShut
import Derived.SizedLaws
import Derived.Lib.SmallJoins
namespace Go.Proofs.Ytodpmmlfdkdemaa
open Go.ChangeShapes Go.WideShapes Go.ChangeAt Go.RowKit Go.Deep
set_option linter.unusedVariables false
set_option linter.unusedSimpArgs false
theorem ownB : ownKnob Try.prog.godebug = none := by kernel_rfl
theorem laidOut : laidOutB Try.prog = true := by kernel_rfl
theorem bytesOf3 : Try.prog.bytesOf 3 = 8 := by kernel_rfl
theorem cells3a : Try.prog.cellsOf 3 = 1 := by kernel_rfl
theorem lt_of_cell {w : World} {b o : Nat} {v : Value} (h : w.cell? ⟨b, o, none⟩ = some v) : b < w.heap.size := by
  rcases Nat.lt_or_ge b w.heap.size with h1 | h1
  · exact h1
  · have : w.heap[b]? = none := Array.getElem?_eq_none h1
    simp [World.cell?, this] at h
/-- how a range's type is made -/
structure RgTy (P : Program) (tr te ti : TypeId) (g0 g1 : Field) : Prop where
  ci : P.cellsOf ti = 1
  hi : P.underlying ti = some (.int .i64)
  hr : P.underlying tr = some (.slice te)
  he : P.underlying te = some (.struct #[g0, g1])
  ce : P.cellsOf te = 2
  og : g0.offset = 0 ∧ g1.offset = 1 ∧ g0.type = ti ∧ g1.type = ti
section
variable {H : Type} {enc : TypeId × Value → H} {P : Program} {w : World} {base : Nat} {spare : Nat → Bool} {held : Bool} {tr te ti : TypeId} {g0 g1 : Field}
theorem open_rng (S : RgTy P tr te ti g0 g1) {fuel : Nat} {cs : List Value} {x : DataW H × List MemPlace} (h : DataW.trod enc P w base spare held fuel tr cs = some x) :
    ∃ (ad : Option Addr) (n c : Nat) (R : List (Int × Int)), cs = [.slice ad n c] ∧ n = R.length ∧ n ≤ c ∧ c ≤ maxLen ∧ R2 w w.heap.size ad R ∧ ∀ x ∈ R, I64ok x.1 ∧ I64ok x.2 := by
  obtain ⟨o0, o1, t0, t1⟩ := S.og
  rcases open_slice_pairs S.hr S.he S.ce o0 o1 (by rw [t0]; exact S.ci) (by rw [t1]; exact S.ci) h with ⟨rfl, rfl⟩ | ⟨a, len, cap, m, n, V0, V1, D0, D1, P0, P1, rfl, hb, hl, hm, hmm, rfl, hx⟩
  · exact ⟨none, 0, 0, [], rfl, rfl, Nat.le_refl _, by simp [maxLen], fun hn => absurd rfl hn, fun x hx => by cases hx⟩
  have hlm : len ≤ m := by rw [hmm]; split <;> omega
  rw [t0, t1] at hx
  have each : ∀ i, i < len → ∃ q : Int × Int, w.cell? (a.add (i * 2)) = some (.int .i64 q.1) ∧ w.cell? (a.add (i * 2 + 1)) = some (.int .i64 q.2) ∧ I64ok q.1 ∧ I64ok q.2 := fun i hi => by
    obtain ⟨h1, h2, h3, h4⟩ := hx i (by omega)
    obtain ⟨n0, e0, _, w0⟩ := DataW.trod_int S.hi h3
    obtain ⟨n1, e1, _, w1⟩ := DataW.trod_int S.hi h4
    simp at e0 e1
    rw [e0] at h1
    rw [e1] at h2
    exact ⟨(n0, n1), h1, h2, i64ok w0, i64ok w1⟩
  obtain ⟨q, hq⟩ := choose_lt each
  refine ⟨some a, len, cap, (List.range len).map q, rfl, by simp, hl, hm, fun hn => ?_, fun x hx => ?_⟩
  · have hpos : 0 < len := by
      rcases Nat.eq_zero_or_pos len with h0 | h0
      · subst h0; simp at hn
      · exact h0
    have hc0 := (hq 0 hpos).1
    have hsp : a.spot = none := by simpa [Addr.add] using World.cell?_spot hc0
    obtain ⟨b, o, sp⟩ := a
    simp only at hsp
    subst hsp
    refine ⟨b, o, rfl, World.block_lt_of_cell? _ _ hc0, fun i hi => ?_⟩
    simp only [List.length_map, List.length_range] at hi
    have h1 := hq i hi
    rw [add_plain, add_plain] at h1
    simp only [List.getElem_map, List.getElem_range]
    exact ⟨h1.1, by rw [Nat.add_assoc]; exact h1.2.1⟩
  · simp only [List.mem_map, List.mem_range] at hx
    obtain ⟨i, hi, rfl⟩ := hx
    exact (hq i hi).2.2
end
theorem rgTy : RgTy Try.prog 51 55 3 { name := "Lo", type := 3, offset := 0, embedded := false, tag := "", pkgPath := "", byteOffset := 0 } { name := "Hi", type := 3, offset := 1, embedded := false, tag := "", pkgPath := "", byteOffset := 8 } where
  ci := by kernel_rfl
  hi := Try.underlying3
  hr := Try.underlying51
  he := Try.underlying55
  ce := by kernel_rfl
  og := ⟨rfl, rfl, rfl, rfl⟩
end Go.Proofs.Ytodpmmlfdkdemaa
