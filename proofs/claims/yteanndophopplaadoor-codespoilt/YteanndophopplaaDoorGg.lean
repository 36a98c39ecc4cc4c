/- HELPERS: what lies between the head and the sum; programs that are their owner's. -/
import Derived.Test.YteanndophopplaaDoorGf
namespace Go.Proofs.YteanndophopplaaDoor
open Go.RowKit
set_option linter.unusedVariables false
set_option linter.unusedSimpArgs false
theorem below_drewN (w : World) (q : Nat) : Below w.heap.size w (w.drewN q) := ⟨rfl, rfl, rfl, Nat.le_refl _, fun _ _ => rfl⟩
theorem inner55 {w : World} {ad : Option Addr} {n c : Nat} {l : List Nat} (h : BA w w.heap.size ad l) (hn : n = l.length) (hs : n ≤ 8388608) (hcp : n ≤ c) (hcm : c ≤ 9223372036854775807) (hlt : ∀ x ∈ l, x < 256) :
    Calls Tryd.prog 55 #[.slice ad n c] w fun e w' => Below w.heap.size w w' ∧ ((innerP l = none ∧ e = Broke) ∨ ∃ m a c', innerP l = some m ∧ e = .returned (.slice a m.length c') ∧ m.length ≤ c' ∧ BA w w.heap.size a m) := by
  by_cases h8 : n < 8
  · refine (inner_short (ad := ad) (c := c) h8).mono ?_
    rintro e w' ⟨rfl, q, rfl⟩
    exact ⟨below_drewN _ _, .inl ⟨by unfold innerP; rw [if_neg (by omega)], rfl⟩⟩
  · obtain ⟨b, o, rfl, hb, hc⟩ : ∃ b o, ad = some ⟨b, o, none⟩ ∧ b < w.heap.size ∧ ∀ k (h : k < l.length), w.cell? ⟨b, o + k, none⟩ = some (.int .u8 (l[k] : Int)) := by
      rcases h with e | e
      · rw [e] at hn; simp at hn; omega
      · exact e
    by_cases he : l.take 4 = headB
    · obtain ⟨m, hm⟩ : ∃ m, n = m + 4 := ⟨n - 4, by omega⟩
      subst hm
      refine (inner_sum hn (by omega) (by omega) hcm hb hc (by omega) hlt he).mono ?_
      have hl4 : l.length - 4 = m := by omega
      rintro e w' ⟨hB, ⟨hne, rfl⟩ | ⟨heq, c', hc', rfl⟩⟩
      · exact ⟨hB, .inl ⟨by unfold innerP; rw [hl4, if_neg (fun hx => hne hx.2.2)], rfl⟩⟩
      · have hml : ((l.take m).drop 4).length = m - 4 := by simp; omega
        refine ⟨hB, .inr ⟨(l.take m).drop 4, some ⟨b, o + 4, none⟩, c', ?_, by rw [hml], by omega, ?_⟩⟩
        · unfold innerP; rw [hl4, if_pos ⟨by omega, he, heq⟩]
        · refine .inr ⟨b, o + 4, rfl, hb, fun k hk => ?_⟩
          rw [hml] at hk
          have := hc (4 + k) (by omega)
          rw [Nat.add_assoc, this]
          simp
    · refine (inner_head hn hs hcp hc (by omega) hlt he).mono ?_
      rintro e w' ⟨rfl, q, rfl⟩
      exact ⟨below_drewN _ _, .inl ⟨by unfold innerP; rw [if_neg (fun hx => he hx.2.1)], rfl⟩⟩
/-- a program's instructions that are their owner's: the row, and each list of ranges, in a block by itself -/
structure PO (w : World) (base : Nat) (z : Value) (J : List In) (MS : List Iv) : Prop where
  len : MS.length = J.length
  row : w.ownsRow base 49 5 z J.length (MS.flatMap Iv.cs)
  io : ∀ j (h : j < MS.length) (h' : j < J.length), IOw w base z MS[j] J[j]
  apart : ∀ i j (h : i < MS.length) (h' : j < MS.length), i ≠ j → ∀ b, MS[i].rv.ownBlock = some b → MS[j].rv.ownBlock ≠ some b
theorem flat_at {MS : List Iv} {j : Nat} (h : j < MS.length) {w : World} {base n : Nat} {z : Value} {g c : Nat} (hz : z = .slice (some ⟨g, 0, none⟩) n c) (hr : w.ownsRow base 49 5 z n (MS.flatMap Iv.cs)) (hn : MS.length = n) : I5 w g 0 j MS[j] := by
  subst hz
  have e := fun k hk => flat5 MS j k h hk
  have c0 := fun k (hk : k < 5) => hr.cellAt (j * 5 + k) (by omega)
  refine ⟨?_, ?_, ?_, ?_, ?_⟩
  · have := c0 0 (by omega); rw [e 0 (by omega)] at this; simpa [Iv.cs] using this
  · have := c0 1 (by omega); rw [e 1 (by omega)] at this; simpa [Iv.cs] using this
  · have := c0 2 (by omega); rw [e 2 (by omega)] at this; simpa [Iv.cs] using this
  · have := c0 3 (by omega); rw [e 3 (by omega)] at this; simpa [Iv.cs] using this
  · have := c0 4 (by omega); rw [e 4 (by omega)] at this; simpa [Iv.cs] using this
theorem PO.pi {w : World} {base g n c : Nat} {J : List In} {MS : List Iv} (h : PO w base (.slice (some ⟨g, 0, none⟩) n c) J MS) (hn : n = J.length) : PI w w.heap.size (some ⟨g, 0, none⟩) n J := by
  subst hn
  refine ⟨rfl, fun hp => ⟨g, 0, fun j => MS.getD j default, rfl, (h.row.lt g rfl).2, fun i hi => ?_⟩⟩
  have hi' : i < MS.length := by rw [h.len]; exact hi
  have e : MS.getD i default = MS[i] := by simp [List.getD_eq_getElem?_getD, List.getElem?_eq_getElem hi']
  show I5 w g 0 i (MS.getD i default) ∧ IM w w.heap.size (MS.getD i default) J[i]
  rw [e]
  exact ⟨flat_at hi' rfl h.row h.len, (h.io i hi' hi).im⟩
/-- a reader of bytes is a reader -/
abbrev RDb (B rb : Nat) (w : World) (l : List Nat) : Prop := ∃ a c, RB B rb w l a c
theorem rdr_b {B rb : Nat} (h : B ≤ rb) : Rdr B rb (RDb B rb) where
  kept := fun w w' l ⟨a, c, hR⟩ h1 h2 => ⟨a, c, h1.trans hR.box, hR.ba.kept h2 (Nat.le_refl _), hR.low, hR.cap, hR.lt, hR.sm⟩
  lt := fun w l ⟨a, c, hR⟩ => (Array.getElem?_eq_some_iff.1 hR.box).1
  low := h
theorem numR_b (B rb : Nat) : NumR 56 rb (RDb B rb) (byteC 3 (by omega)) := fun w l ⟨a, c, hR⟩ => number56 hR
theorem en56 : Enters 56 := enter_of Tryd.func56 (by kernel_rfl) rfl
theorem en51 : Enters 51 := enter_of Tryd.func51 (by kernel_rfl) rfl
theorem en57 : Enters 57 := enter_of Tryd.func57 (by kernel_rfl) rfl
/-- an instruction is put into its place in a row that is filled -/
theorem flat_set (A : List Iv) (M N : Iv) (B : List Iv) : ∀ k, k < 5 → ((A ++ M :: B).flatMap Iv.cs).set (A.length * 5 + k) ((Iv.cs N).getD k undef) = (A.flatMap Iv.cs) ++ ((Iv.cs M).set k ((Iv.cs N).getD k undef) ++ B.flatMap Iv.cs) := by
  intro k hk
  rw [List.flatMap_append, List.flatMap_cons, List.set_append_right _ _ (by rw [flat5_len]; omega), flat5_len, show A.length * 5 + k - A.length * 5 = k by omega, List.set_append_left _ _ (by simp; omega)]
end Go.Proofs.YteanndophopplaaDoor
