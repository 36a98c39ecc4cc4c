/- HELPERS: a program is copied. -/
import Derived.Test.YteanndophopplaaDoorLb
import Derived.Deep.Onto
namespace Go.Proofs.YteanndophopplaaDoor
open Go.RowKit
set_option linter.unusedVariables false
set_option linter.unusedSimpArgs false
abbrev Iv.rv (N : Iv) : Value := .slice N.r1 N.r2 N.r3
/-- an instruction whose ranges lie in a block by themselves, apart from a row -/
structure IOw (w : World) (base : Nat) (z : Value) (N : Iv) (I : In) : Prop where
  op : N.op = I.op
  x : N.x = I.x
  y : N.y = I.y
  a : N.a = I.a
  len : N.r2 = I.R.length
  sm : N.r2 * 16 ≤ 140737488351232
  rr : w.ownsRow base 51 2 N.rv I.R.length (O2 I.R)
  ne : ∀ b, N.rv.ownBlock = some b → z.ownBlock ≠ some b
theorem rowAt_own {w : World} {base n : Nat} {ad : Option Addr} {c : Nat} {R : List (Int × Int)} (h : w.ownsRow base 51 2 (.slice ad n c) R.length (O2 R)) (hn : n = R.length) : RowAt w.heap.size w (.slice ad n c) R := by
  subst hn
  refine ⟨ad, c, rfl, ?_⟩
  rcases h.2 with ⟨_, h0⟩ | ⟨b, cap, cur, e, _⟩
  · exact .inl h0
  · right
    simp only [Value.slice.injEq] at e
    have hb := (h.lt b (by rw [e.1]; rfl)).2
    rw [e.1] at h
    refine ⟨b, 0, e.1, hb, fun k hk => ?_, fun k hk => ?_⟩
    · rw [Nat.zero_add, h.cellAt (k * 2) (by omega), (O2_at R k hk).1]
      simp [List.getD_eq_getElem?_getD, List.getElem?_eq_getElem hk]
    · rw [Nat.zero_add, h.cellAt (k * 2 + 1) (by omega), (O2_at R k hk).2]
      simp [List.getD_eq_getElem?_getD, List.getElem?_eq_getElem hk]
theorem IOw.im {w : World} {base : Nat} {z : Value} {N : Iv} {I : In} (h : IOw w base z N I) : IM w w.heap.size N I := ⟨h.op, h.x, h.y, h.a, h.len, h.sm, rowAt_own h.rr h.len⟩
theorem RowAt.src {w : World} {B : Nat} {ad : Option Addr} {n c : Nat} {R : List (Int × Int)} (h : RowAt B w (.slice ad n c) R) (hp : 0 < n) (hn : n = R.length) : ∃ b f, ad = some ⟨b, f, none⟩ ∧ ∀ j u, (O2 R)[j]? = some u → w.cell? ⟨b, f + j, none⟩ = some u := by
  obtain ⟨ad', cap, e, h1⟩ := h
  simp only [Value.slice.injEq] at e
  obtain ⟨rfl, _, rfl⟩ := e
  rcases h1 with h0 | ⟨b, off, rfl, _, h2, h3⟩
  · omega
  · refine ⟨b, off, rfl, fun j u hj => ?_⟩
    have hjl : j < (O2 R).length := (List.getElem?_eq_some_iff.1 hj).1
    rw [O2_len] at hjl
    have hk : j / 2 < R.length := by omega
    obtain ⟨o1, o2⟩ := O2_at R (j / 2) hk
    have g : R.getD (j / 2) (0, 0) = R[j / 2] := by simp [List.getD_eq_getElem?_getD, List.getElem?_eq_getElem hk]
    rcases Nat.mod_two_eq_zero_or_one j with h0 | h0
    · have e : j = j / 2 * 2 := by omega
      rw [e] at hj ⊢
      rw [o1] at hj
      rw [h2 (j / 2) hk, g]
      exact hj
    · have e : j = j / 2 * 2 + 1 := by omega
      rw [e] at hj ⊢
      rw [o2] at hj
      rw [← Nat.add_assoc, h3 (j / 2) hk, g]
      exact hj
theorem snoc_getD (MS : List Iv) (M : Iv) (j i : Nat) (hl : MS.length = i) (hj : j < i + 1) : (MS ++ [M]).getD j default = if j = i then M else MS.getD j default := by
  by_cases e : j = i
  · subst e; subst hl; simp [List.getD_eq_getElem?_getD]
  · rw [if_neg e, List.getD_eq_getElem?_getD, List.getElem?_append_left (by omega), List.getD_eq_getElem?_getD]
abbrev Z5 : Value := .agg #[.int .i64 0, .int .i64 0, .int .i64 0, .int .i64 0, .slice none 0 0]
end Go.Proofs.YteanndophopplaaDoor
