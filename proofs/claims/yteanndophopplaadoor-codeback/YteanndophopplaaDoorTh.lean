/- HELPERS: which nodes may be: the program's answer. -/
import Derived.Test.YteanndophopplaaDoorTe
namespace Go.Proofs.YteanndophopplaaDoor
open Go.RowKit
set_option linter.unusedVariables false
set_option linter.unusedSimpArgs false
theorem empty_list : (⟨#[]⟩ : ByteArray).toList = [] := by rw [ByteArray.toList_eq]
theorem two_new (w : World) (o : Obj) (c : Array Value) (t : TypeId) : ((w.alloc o).alloc (.cells c t)).heap[w.heap.size + 1]? = some (.cells c t (0, 0)) := by
  have e : (w.alloc o).heap.size = w.heap.size + 1 := by simp
  rw [← e]
  exact heap_alloc_new _ _
theorem below_two' (w : World) (o o' : Obj) : Below w.heap.size w ((w.alloc o).alloc o') := (Joins.below_alloc1 w o).trans (Joins.below_le (Joins.below_alloc1 _ o') (by simp))
end Go.Proofs.YteanndophopplaaDoor
