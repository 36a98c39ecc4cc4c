/- HELPERS: a program in memory; Check. -/
import Derived.Test.YtpckbpimgoljoaaGreatCb
namespace Go.Proofs.YtpckbpimgoljoaaGreat
open Go.RowKit
set_option linter.unusedVariables false
set_option linter.unusedSimpArgs false
/-- the five cells of the i-th instruction of a row -/
def I5 (w : World) (b o i : Nat) (N : Iv) : Prop := w.cell? ⟨b, o + i * 5, none⟩ = some (.int .i64 N.op) ∧ w.cell? ⟨b, o + i * 5 + 1, none⟩ = some (.int .i64 N.x) ∧ w.cell? ⟨b, o + i * 5 + 2, none⟩ = some (.int .i64 N.y) ∧ w.cell? ⟨b, o + i * 5 + 3, none⟩ = some (.int .i64 N.a) ∧ w.cell? ⟨b, o + i * 5 + 4, none⟩ = some (.slice N.r1 N.r2 N.r3)
theorem I5.kept {w w' : World} {b o i : Nat} {N : Iv} (h : I5 w b o i N) (hk : w'.heap[b]? = w.heap[b]?) : I5 w' b o i N := by
  obtain ⟨h0, h1, h2, h3, h4⟩ := h
  exact ⟨(cell_eq hk _).trans h0, (cell_eq hk _).trans h1, (cell_eq hk _).trans h2, (cell_eq hk _).trans h3, (cell_eq hk _).trans h4⟩
/-- an instruction whose ranges lie in memory -/
structure IM (w : World) (B : Nat) (N : Iv) (I : In) : Prop where
  op : N.op = I.op
  x : N.x = I.x
  y : N.y = I.y
  a : N.a = I.a
  len : N.r2 = I.R.length
  sm : N.r2 * 16 ≤ 140737488351232
  row : RowAt B w (.slice N.r1 N.r2 N.r3) I.R
theorem IM.kept {w w' : World} {B B' : Nat} {N : Iv} {I : In} (h : IM w B N I) (hb : Below B w w') (hB : B ≤ B') : IM w' B' N I := ⟨h.op, h.x, h.y, h.a, h.len, h.sm, h.row.below hb (Nat.le_refl _) hB⟩
/-- a row of instructions in memory, below a block -/
structure PI (w : World) (B : Nat) (ad : Option Addr) (n : Nat) (l : List In) : Prop where
  len : n = l.length
  mem : 0 < n → ∃ (b o : Nat) (ND : Nat → Iv), ad = some ⟨b, o, none⟩ ∧ b < B ∧ ∀ i (hi : i < l.length), I5 w b o i (ND i) ∧ IM w B (ND i) l[i]
theorem PI.kept {w w' : World} {B B' : Nat} {ad : Option Addr} {n : Nat} {l : List In} (h : PI w B ad n l) (hb : Below B w w') (hB : B ≤ B') : PI w' B' ad n l := by
  refine ⟨h.len, fun hp => ?_⟩
  obtain ⟨b, o, ND, e, h1, h2⟩ := h.mem hp
  exact ⟨b, o, ND, e, by omega, fun i hi => ⟨(h2 i hi).1.kept (hb.block b h1), (h2 i hi).2.kept hb hB⟩⟩
def mayB (l : List In) (s k : Int) : Bool := decide (l.length ≤ 20000) && belowB s l.length && capsB k && l.all fun I => I.okB l.length k
abbrev pv (ad : Option Addr) (n c : Nat) (s k : Int) : Value := .agg #[.slice ad n c, .int .i64 s, .int .i64 k]
end Go.Proofs.YtpckbpimgoljoaaGreat

