/- HELPERS: an instruction in memory; may it be. -/
import Derived.Test.YtpckbpimgoljoaaGreatCa
import Derived.Test.YtpckbpimgoljoaaGreatK3
import Derived.Deep.RegionHeld3
import Derived.Deep.Cut
import Derived.Deep.CutRange
import Derived.Deep.QuietTactic
import Derived.BigQuiet
namespace Go.Proofs.YtpckbpimgoljoaaGreat
open Go.RowKit
set_option linter.unusedVariables false
set_option linter.unusedSimpArgs false
/-- an instruction's five cells -/
structure Iv where
  op : Int
  x : Int
  y : Int
  a : Int
  r1 : Option Addr
  r2 : Nat
  r3 : Nat
instance : Inhabited Iv := ⟨⟨0, 0, 0, 0, none, 0, 0⟩⟩
abbrev Iv.cs (N : Iv) : List Value := [.int .i64 N.op, .int .i64 N.x, .int .i64 N.y, .int .i64 N.a, .slice N.r1 N.r2 N.r3]
abbrev Iv.v (N : Iv) : Value := .agg #[.int .i64 N.op, .int .i64 N.x, .int .i64 N.y, .int .i64 N.a, .slice N.r1 N.r2 N.r3]
/-- an instruction -/
structure In where
  op : Int
  x : Int
  y : Int
  a : Int
  R : List (Int × Int)
instance : Inhabited In := ⟨⟨0, 0, 0, 0, []⟩⟩
def In.okB (I : In) (n caps : Int) : Bool := isTargetB I.x (hasXB I.op) n && isTargetB I.y (hasYB I.op) n && isArgB I.op I.a caps && isRangesB I.op I.R
theorem five {w : World} {b : Nat} {v0 v1 v2 v3 v4 : Value} {t : TypeId} {fr : Nat × Nat} (h : w.heap[b]? = some (.cells #[v0, v1, v2, v3, v4] t fr)) : w.cell? ⟨b, 0, none⟩ = some v0 ∧ w.cell? ⟨b, 1, none⟩ = some v1 ∧ w.cell? ⟨b, 2, none⟩ = some v2 ∧ w.cell? ⟨b, 3, none⟩ = some v3 ∧ w.cell? ⟨b, 4, none⟩ = some v4 :=
  ⟨Joins.cell_of_block h 0, Joins.cell_of_block h 1, Joins.cell_of_block h 2, Joins.cell_of_block h 3, Joins.cell_of_block h 4⟩
end Go.Proofs.YtpckbpimgoljoaaGreat

