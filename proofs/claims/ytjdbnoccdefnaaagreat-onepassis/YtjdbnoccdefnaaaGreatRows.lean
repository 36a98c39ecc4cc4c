/-
  No cell of these rows narrows 'for every input' (looked for: loops, veiled, ifaces, maps, wideKeys, modest, calm, conditions, laid).
  DERIVED. THE GIVEN ROWS OF THIS SEAT. 3 by the template 'for every input the law returns true; each argument reads behind the call as it read before'; 0 by the template 'total and deterministic' (their statements: YtjdbnoccdefnaaaGreatTotals.lean).
  GIVEN WITH THE SEED: the statements are not yours to turn. If you find one false, say at which input.
  Laid BY PROGRAM, IN A SANDBOX (cutbox-rows.mjs): the forced cells as the released guide's own fill.sh prints them over the translation f2ef52e269487bf9… (all of the seat's roots in one cut). By AI agents, Wed Nov 11 2026. No macro, syntax, notation, axiom, sorry.
-/
import Derived.Test.YtjdbnoccdefnaaaGreatChecked
import GoSem.Claim
import GoSem.ClaimJoined
import GoSem.ClaimMapViews
import Derived.JoinedTies
import Derived.KernelRfl
namespace Go.Proofs.YtjdbnoccdefnaaaGreat
/- THE CELL 'sum', in the pinned program and in every row, IS THE sha256 OF THE DUMP (.gsa) THAT YtjdbnoccdefnaaaGreatProg.lean LOADS. Nothing in Lean hashes anything: it is a label: what it is worth is what the hold of that sum in a sandbox is worth. -/
noncomputable def Tryz.pinned : Pinned := { name := "ytjdbnoccdefnaaagreat", sum := "f2ef52e269487bf948efcdddeb9f2565506f701722dc4624afc4ab975dd1f1f8", checked := Tryz.checked }
namespace Rows
def none {H : Type} : Left H := { results := [], args := [] }

/-- 'heronlaw13.OnepassIs': WHATEVER THE INPUT: true; the input reads as it did. -/
def onepassIsSpec : ChangeSpec := { name := "onepassIs", fn := fun _ => fun
  | [d1, d2] => { results := [.lit (.bool true)], args := [d1, d2] }
  | _ => none }
def onepassIsRow : OpenClaim := { program := "ytjdbnoccdefnaaagreat", sum := "f2ef52e269487bf948efcdddeb9f2565506f701722dc4624afc4ab975dd1f1f8", func := "heron/heronlaw13.OnepassIs", spec := "onepassIs", unfollowed := true, recurses := true, apart := false }
def OnepassIsSaid : Prop := onepassIsRow.holds Tryz.pinned (OpenSpec.ofChange onepassIsSpec)

/-- ITS FALSE NEIGHBOUR: 'it returns false'. Refute it at one input. -/
def onepassIsWrong : ChangeSpec := { name := "onepassIs", fn := fun _ => fun
  | [d1, d2] => { results := [.lit (.bool false)], args := [d1, d2] }
  | _ => none }
def OnepassIsWrongFalsely : Prop := onepassIsRow.holds Tryz.pinned (OpenSpec.ofChange onepassIsWrong)

/-- 'heronlaw13.OnepassRuns': WHATEVER THE INPUT: true; the input reads as it did. -/
def onepassRunsSpec : ChangeSpec := { name := "onepassRuns", fn := fun _ => fun
  | [d1, d2, d3, d4] => { results := [.lit (.bool true)], args := [d1, d2, d3, d4] }
  | _ => none }
def onepassRunsRow : OpenClaim := { program := "ytjdbnoccdefnaaagreat", sum := "f2ef52e269487bf948efcdddeb9f2565506f701722dc4624afc4ab975dd1f1f8", func := "heron/heronlaw13.OnepassRuns", spec := "onepassRuns", unfollowed := true, recurses := true, apart := false }
def OnepassRunsSaid : Prop := onepassRunsRow.holds Tryz.pinned (OpenSpec.ofChange onepassRunsSpec)

/-- ITS FALSE NEIGHBOUR: 'it returns false'. Refute it at one input. -/
def onepassRunsWrong : ChangeSpec := { name := "onepassRuns", fn := fun _ => fun
  | [d1, d2, d3, d4] => { results := [.lit (.bool false)], args := [d1, d2, d3, d4] }
  | _ => none }
def OnepassRunsWrongFalsely : Prop := onepassRunsRow.holds Tryz.pinned (OpenSpec.ofChange onepassRunsWrong)

/-- 'heronlaw13.OnepassOne': WHATEVER THE INPUT: true; the input reads as it did. -/
def onepassOneSpec : ChangeSpec := { name := "onepassOne", fn := fun _ => fun
  | [d1, d2, d3] => { results := [.lit (.bool true)], args := [d1, d2, d3] }
  | _ => none }
def onepassOneRow : OpenClaim := { program := "ytjdbnoccdefnaaagreat", sum := "f2ef52e269487bf948efcdddeb9f2565506f701722dc4624afc4ab975dd1f1f8", func := "heron/heronlaw13.OnepassOne", spec := "onepassOne", unfollowed := true, recurses := true, apart := false }
def OnepassOneSaid : Prop := onepassOneRow.holds Tryz.pinned (OpenSpec.ofChange onepassOneSpec)

/-- ITS FALSE NEIGHBOUR: 'it returns false'. Refute it at one input. -/
def onepassOneWrong : ChangeSpec := { name := "onepassOne", fn := fun _ => fun
  | [d1, d2, d3] => { results := [.lit (.bool false)], args := [d1, d2, d3] }
  | _ => none }
def OnepassOneWrongFalsely : Prop := onepassOneRow.holds Tryz.pinned (OpenSpec.ofChange onepassOneWrong)

/- THE SECOND FORM. 'bulk': how many values and letters a reading holds, each counted each time it is reached (what is shared counts as often as it is met; a slice's spare places count too). A statement '..UptoSaid' is the law's where the arguments, and the package variables that the reading takes, are together of bulk at most 1048576: NARROWER than '..Said'. Prove '..Said' where nothing that the law and all that it calls make is longer than what came in: it says more and counts as full. Else prove '..UptoSaid'. A law counts once. -/
mutual
def uptoBulk {H : Type} : DataW H → Nat
  | .lit (.string bytes) => bytes.length + 1
  | .lit _ => 1
  | .nil => 1
  | .ptr d => uptoBulk d + 1
  | .slice elems spare => uptoBulkAll elems + uptoBulkAll spare + 1
  | .agg parts => uptoBulkAll parts + 1
  | .iface _ d => uptoBulk d + 1
  | .map entries => uptoBulkEntries entries + 1
  | .held _ => 1
def uptoBulkAll {H : Type} : List (DataW H) → Nat
  | [] => 0
  | d :: r => uptoBulk d + uptoBulkAll r
def uptoBulkEntries {H : Type} : List (Lit × DataW H) → Nat
  | [] => 0
  | x :: r => uptoBulkEntry x + uptoBulkEntries r
def uptoBulkEntry {H : Type} : Lit × DataW H → Nat
  | (.string bytes, d) => bytes.length + uptoBulk d + 1
  | (_, d) => uptoBulk d + 1
 end
def uptoSmall : (H : Type) → List (DataW H) → Bool := fun _ ds => decide (uptoBulkAll ds ≤ 1048576)
def OpenSpec.upto (s : _root_.Go.ChangeSpec) : _root_.Go.OpenSpec := { _root_.Go.OpenSpec.ofChange s with cond := some uptoSmall }

/-- 'heronlaw13.OnepassIs', WHERE WHAT IT READS IS OF BULK AT MOST 1048576: true; the input reads as it did. -/
def onepassIsUptoRow : OpenClaim := { program := "ytjdbnoccdefnaaagreat", sum := "f2ef52e269487bf948efcdddeb9f2565506f701722dc4624afc4ab975dd1f1f8", func := "heron/heronlaw13.OnepassIs", spec := "onepassIs", unfollowed := true, recurses := true, apart := false, narrowed := true }
def OnepassIsUptoSaid : Prop := onepassIsUptoRow.holds Tryz.pinned (OpenSpec.upto onepassIsSpec)

/-- 'heronlaw13.OnepassRuns', WHERE WHAT IT READS IS OF BULK AT MOST 1048576: true; the input reads as it did. -/
def onepassRunsUptoRow : OpenClaim := { program := "ytjdbnoccdefnaaagreat", sum := "f2ef52e269487bf948efcdddeb9f2565506f701722dc4624afc4ab975dd1f1f8", func := "heron/heronlaw13.OnepassRuns", spec := "onepassRuns", unfollowed := true, recurses := true, apart := false, narrowed := true }
def OnepassRunsUptoSaid : Prop := onepassRunsUptoRow.holds Tryz.pinned (OpenSpec.upto onepassRunsSpec)

/-- 'heronlaw13.OnepassOne', WHERE WHAT IT READS IS OF BULK AT MOST 1048576: true; the input reads as it did. -/
def onepassOneUptoRow : OpenClaim := { program := "ytjdbnoccdefnaaagreat", sum := "f2ef52e269487bf948efcdddeb9f2565506f701722dc4624afc4ab975dd1f1f8", func := "heron/heronlaw13.OnepassOne", spec := "onepassOne", unfollowed := true, recurses := true, apart := false, narrowed := true }
def OnepassOneUptoSaid : Prop := onepassOneUptoRow.holds Tryz.pinned (OpenSpec.upto onepassOneSpec)

end Rows
end Go.Proofs.YtjdbnoccdefnaaaGreat
