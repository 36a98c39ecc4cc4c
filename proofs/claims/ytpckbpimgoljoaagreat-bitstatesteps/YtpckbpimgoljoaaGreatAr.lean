/- HELPERS: trees, and texts with a place, that come in as arguments. -/
import Derived.Test.YtpckbpimgoljoaaGreatRows
import Derived.Test.YtpckbpimgoljoaaGreatK1
import Derived.JoinedCond
import Derived.OpenShut
import Derived.SizedLaws
import Derived.Lib.SmallJoins
namespace Go.Proofs.YtpckbpimgoljoaaGreat
open Go.ChangeShapes Go.WideShapes Go.ChangeAt Go.RowKit
set_option linter.unusedVariables false
set_option linter.unusedSimpArgs false
theorem ownB : ownKnob Tryz.prog.godebug = none := by kernel_rfl
theorem laidOut : laidOutB Tryz.prog = true := by kernel_rfl
theorem bytesOf3 : Tryz.prog.bytesOf 3 = 8 := by kernel_rfl
theorem cells3a : Tryz.prog.cellsOf 3 = 1 := by kernel_rfl
theorem lt_of_cell {w : World} {b o : Nat} {v : Value} (h : w.cell? ⟨b, o, none⟩ = some v) : b < w.heap.size := by
  rcases Nat.lt_or_ge b w.heap.size with h1 | h1
  · exact h1
  · have : w.heap[b]? = none := Array.getElem?_eq_none h1
    simp [World.cell?, this] at h
/-- the fields of a node -/
def nf : Nat → Field
  | 0 => { name := "Kind", type := 3, offset := 0, embedded := false, tag := "", pkgPath := "", byteOffset := 0 }
  | 1 => { name := "Ranges", type := 22, offset := 1, embedded := false, tag := "", pkgPath := "", byteOffset := 8 }
  | 2 => { name := "Assert", type := 3, offset := 2, embedded := false, tag := "", pkgPath := "", byteOffset := 32 }
  | 3 => { name := "Subs", type := 23, offset := 3, embedded := false, tag := "", pkgPath := "", byteOffset := 40 }
  | 4 => { name := "Min", type := 3, offset := 4, embedded := false, tag := "", pkgPath := "", byteOffset := 64 }
  | 5 => { name := "Max", type := 3, offset := 5, embedded := false, tag := "", pkgPath := "", byteOffset := 72 }
  | 6 => { name := "Lazy", type := 4, offset := 6, embedded := false, tag := "", pkgPath := "", byteOffset := 80 }
  | 7 => { name := "Index", type := 3, offset := 7, embedded := false, tag := "", pkgPath := "", byteOffset := 88 }
  | _ => { name := "Name", type := 9, offset := 8, embedded := false, tag := "", pkgPath := "", byteOffset := 96 }
theorem nodeTy : NodeTy Tryz.prog 25 23 22 71 3 4 9 nf { name := "Lo", type := 3, offset := 0, embedded := false, tag := "", pkgPath := "", byteOffset := 0 } { name := "Hi", type := 3, offset := 1, embedded := false, tag := "", pkgPath := "", byteOffset := 8 } where
  hn := Tryz.underlying25
  cn := by kernel_rfl
  ty := ⟨rfl, rfl, rfl, rfl, rfl, rfl, rfl, rfl, rfl⟩
  of := fun i hi => by
    match i, hi with
    | 0, _ => rfl
    | 1, _ => rfl
    | 2, _ => rfl
    | 3, _ => rfl
    | 4, _ => rfl
    | 5, _ => rfl
    | 6, _ => rfl
    | 7, _ => rfl
    | 8, _ => rfl
  ci := by kernel_rfl
  cr := by kernel_rfl
  cs := by kernel_rfl
  cb := by kernel_rfl
  cg := by kernel_rfl
  hi := Tryz.underlying3
  hb := Tryz.underlying4
  hg := Tryz.underlying9
  hs := Tryz.underlying23
  hr := Tryz.underlying22
  he := Tryz.underlying71
  ce := by kernel_rfl
  og := ⟨rfl, rfl, rfl, rfl⟩
set_option maxRecDepth 100000
section
variable {H : Type} {enc : TypeId × Value → H} {W : World} {base : Nat} {v : Value} {d : DataW H} {p : List MemPlace}
/-- a tree that came in -/
theorem node_arg (hok : Value.okWide Tryz.prog W .any base 25 v) (h0 : DataW.Trod enc Tryz.prog W 0 (fun _ => true) true 25 v d p) : ∃ N t, v = Nv.v N ∧ TI W W.heap.size N t := by
  obtain ⟨cs, rfl, hsz⟩ := okWide_struct Tryz.underlying25 hok
  obtain ⟨fuel, hf⟩ := h0
  obtain ⟨N, t, h1, h2⟩ := open_node nodeTy fuel _ _ hf
  have h1' : cs.toList = Nv.cs N := h1
  refine ⟨N, t, ?_, h2⟩
  have : cs = (Nv.cs N).toArray := by rw [← h1']
  rw [this]
end
end Go.Proofs.YtpckbpimgoljoaaGreat

