/- HELPERS for the statements of layer 1: how many blocks a world with the tables has; the world of the witness. -/
import Derived.Test.YtjglehklfdhgaaaDoorLaid
import Derived.WalkKit
import Derived.ProofKit
import Derived.OpenShut
import Derived.Deep.DeepHandedRow
import Derived.Lib.LaidTab
namespace Go.Proofs.YtjglehklfdhgaaaDoor
open Go.ChangeShapes Go.WideShapes Go.ChangeAt Go.RowKit Go.Mx
set_option linter.unusedVariables false
set_option linter.unusedSimpArgs false
theorem own : ownKnob Tryd.prog.godebug = none := by kernel_rfl
theorem size_of_tabs {w : World} (h : Tabs w) : 2 ≤ w.heap.size := by
  have h1 := h.2 0 (by decide)
  have : w.heap[1]? ≠ none := by
    intro hn
    simp [World.cell?, hn] at h1
  have h2 : 1 < w.heap.size := by
    rcases Nat.lt_or_ge 1 w.heap.size with h | h
    · exact h
    · exact absurd (Array.getElem?_eq_none h) this
  omega
/-- a world for the witness: the tables hold what their initialisers lay -/
def fixWorld (w : World) : World :=
  { w with heap := (w.heap.modify 0 fun
      | .cells _ t frozen => .cells (I64 TabS).toArray t frozen
      | o => o).modify 1 fun
      | .cells _ t frozen => .cells (I64 TabF).toArray t frozen
      | o => o }
end Go.Proofs.YtjglehklfdhgaaaDoor
