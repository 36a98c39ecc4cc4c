/-
  NARROWER THAN 'FOR EVERY INPUT', by the rows' own cells (each row's printed sentence says how): RunesSets: laid · RunesOne: laid.
  DERIVED. THE GIVEN ROWS OF THIS SEAT. 2 by the template 'for every input the law returns true; each argument reads behind the call as it read before'; 0 by the template 'total and deterministic' (their statements: YtjglehklfdhgaabDoorTotals.lean).
  GIVEN WITH THE SEED: the statements are not yours to turn. If you find one false, say at which input.
  Laid BY PROGRAM, IN A SANDBOX (cutbox-rows.mjs): the forced cells as the released guide's own fill.sh prints them over the translation 55a56f4a0d7c4df0… (all of the seat's roots in one cut). By AI agents, Wed Nov 11 2026. No macro, syntax, notation, axiom, sorry.
-/
import Derived.Test.YtjglehklfdhgaabDoorChecked
import GoSem.Claim
import GoSem.ClaimJoined
import GoSem.ClaimMapViews
import Derived.JoinedTies
import Derived.KernelRfl
namespace Go.Proofs.YtjglehklfdhgaabDoor
/- THE CELL 'sum', in the pinned program and in every row, IS THE sha256 OF THE DUMP (.gsa) THAT YtjglehklfdhgaabDoorProg.lean LOADS. Nothing in Lean hashes anything: it is a label: what it is worth is what the hold of that sum in a sandbox is worth. -/
noncomputable def Tryd.pinned : Pinned := { name := "ytjglehklfdhgaabdoor", sum := "55a56f4a0d7c4df0935aca28fef8b68649e9c175518fb349412ca927142a9acd", checked := Tryd.checked }
namespace Rows
def none {H : Type} : Left H := { results := [], args := [] }

/- WHAT THE LISTED PACKAGE-LEVEL VARIABLES READ AS WHEN THE CALL BEGINS. Each datum BY PROGRAM (the guide's laid-datum.mjs) off the statement by which the dump's own 'gosem.cut.vars' lays the variable. In a bare row this is a premise. The card (YtjglehklfdhgaabDoorCards.lean) ties it to the program's text. -/
def laid_heron_runes_forms {H : Type} : DataW H := .agg [.agg [.lit (.int .i64 0), .lit (.int .i64 0), .lit (.int .i64 0)], .agg [.lit (.int .i64 0), .lit (.int .i64 127), .lit (.int .i64 0)], .agg [.lit (.int .i64 192), .lit (.int .i64 31), .lit (.int .i64 128)], .agg [.lit (.int .i64 224), .lit (.int .i64 15), .lit (.int .i64 2048)], .agg [.lit (.int .i64 240), .lit (.int .i64 7), .lit (.int .i64 65536)]]
def laid_heron_runes_sizes {H : Type} : DataW H := .agg [.lit (.int .i64 1), .lit (.int .i64 1), .lit (.int .i64 1), .lit (.int .i64 1), .lit (.int .i64 1), .lit (.int .i64 1), .lit (.int .i64 1), .lit (.int .i64 1), .lit (.int .i64 1), .lit (.int .i64 1), .lit (.int .i64 1), .lit (.int .i64 1), .lit (.int .i64 1), .lit (.int .i64 1), .lit (.int .i64 1), .lit (.int .i64 1), .lit (.int .i64 0), .lit (.int .i64 0), .lit (.int .i64 0), .lit (.int .i64 0), .lit (.int .i64 0), .lit (.int .i64 0), .lit (.int .i64 0), .lit (.int .i64 0), .lit (.int .i64 2), .lit (.int .i64 2), .lit (.int .i64 2), .lit (.int .i64 2), .lit (.int .i64 3), .lit (.int .i64 3), .lit (.int .i64 4), .lit (.int .i64 0)]

/-- 'heronlaw01.RunesSets': WHATEVER THE INPUT: true; the input reads as it did. -/
def runesSetsSpec : ChangeSpec := { name := "runesSets", fn := fun _ => fun
  | [d] => { results := [.lit (.bool true)], args := [d] }
  | _ => none }
def runesSetsRow : OpenClaim := { program := "ytjglehklfdhgaabdoor", sum := "55a56f4a0d7c4df0935aca28fef8b68649e9c175518fb349412ca927142a9acd", func := "heron/heronlaw01.RunesSets", spec := "runesSets", unfollowed := true, recurses := true, named := ["heron/runes.sizes", "heron/runes.forms"], apart := false, laid := [("heron/runes.forms", laid_heron_runes_forms), ("heron/runes.sizes", laid_heron_runes_sizes)] }
def RunesSetsSaid : Prop := runesSetsRow.holds Tryd.pinned (OpenSpec.ofChange runesSetsSpec)

/-- ITS FALSE NEIGHBOUR: 'it returns false'. Refute it at one input. -/
def runesSetsWrong : ChangeSpec := { name := "runesSets", fn := fun _ => fun
  | [d] => { results := [.lit (.bool false)], args := [d] }
  | _ => none }
def RunesSetsWrongFalsely : Prop := runesSetsRow.holds Tryd.pinned (OpenSpec.ofChange runesSetsWrong)

/-- 'heronlaw01.RunesOne': WHATEVER THE INPUT: true; the input reads as it did. -/
def runesOneSpec : ChangeSpec := { name := "runesOne", fn := fun _ => fun
  | [d] => { results := [.lit (.bool true)], args := [d] }
  | _ => none }
def runesOneRow : OpenClaim := { program := "ytjglehklfdhgaabdoor", sum := "55a56f4a0d7c4df0935aca28fef8b68649e9c175518fb349412ca927142a9acd", func := "heron/heronlaw01.RunesOne", spec := "runesOne", unfollowed := true, recurses := true, named := ["heron/runes.sizes", "heron/runes.forms"], apart := false, laid := [("heron/runes.forms", laid_heron_runes_forms), ("heron/runes.sizes", laid_heron_runes_sizes)] }
def RunesOneSaid : Prop := runesOneRow.holds Tryd.pinned (OpenSpec.ofChange runesOneSpec)

/-- ITS FALSE NEIGHBOUR: 'it returns false'. Refute it at one input. -/
def runesOneWrong : ChangeSpec := { name := "runesOne", fn := fun _ => fun
  | [d] => { results := [.lit (.bool false)], args := [d] }
  | _ => none }
def RunesOneWrongFalsely : Prop := runesOneRow.holds Tryd.pinned (OpenSpec.ofChange runesOneWrong)

/- THE SECOND FORM. 'bulk': how many values and letters a reading holds, each counted each time it is reached (what is shared counts as often as it is met; a slice's spare places count too). A statement '..UptoSaid' is the law's where the arguments, and the package variables that the reading takes, are together of bulk at most 1048576: NARROWER than '..Said'. Prove '..Said' where nothing that the law and all that it calls make is longer than what came in: it says more and counts as full. Else prove '..UptoSaid'. A law counts once. -/
mutual
def uptoBulk {H : Type} : DataW H → Nat
  | .lit (.string bytes) => bytes.length + 1
  | .lit _ => 1
  | .nil => 1
  | .ptr d => uptoBulk d + 1
  | .slice elems spare => uptoBulkAll elems + uptoBulkAll spare + 1
  | .agg parts => uptoBulkAll parts + 1
  | .iface _ d => uptoBulk d + 1
  | .map entries => uptoBulkEntries entries + 1
  | .held _ => 1
def uptoBulkAll {H : Type} : List (DataW H) → Nat
  | [] => 0
  | d :: r => uptoBulk d + uptoBulkAll r
def uptoBulkEntries {H : Type} : List (Lit × DataW H) → Nat
  | [] => 0
  | x :: r => uptoBulkEntry x + uptoBulkEntries r
def uptoBulkEntry {H : Type} : Lit × DataW H → Nat
  | (.string bytes, d) => bytes.length + uptoBulk d + 1
  | (_, d) => uptoBulk d + 1
 end
def uptoSmall : (H : Type) → List (DataW H) → Bool := fun _ ds => decide (uptoBulkAll ds ≤ 1048576)
def OpenSpec.upto (s : _root_.Go.ChangeSpec) : _root_.Go.OpenSpec := { _root_.Go.OpenSpec.ofChange s with cond := some uptoSmall }

/-- 'heronlaw01.RunesSets', WHERE WHAT IT READS IS OF BULK AT MOST 1048576: true; the input reads as it did. -/
def runesSetsUptoRow : OpenClaim := { program := "ytjglehklfdhgaabdoor", sum := "55a56f4a0d7c4df0935aca28fef8b68649e9c175518fb349412ca927142a9acd", func := "heron/heronlaw01.RunesSets", spec := "runesSets", unfollowed := true, recurses := true, named := ["heron/runes.sizes", "heron/runes.forms"], apart := false, laid := [("heron/runes.forms", laid_heron_runes_forms), ("heron/runes.sizes", laid_heron_runes_sizes)], narrowed := true }
def RunesSetsUptoSaid : Prop := runesSetsUptoRow.holds Tryd.pinned (OpenSpec.upto runesSetsSpec)

/-- 'heronlaw01.RunesOne', WHERE WHAT IT READS IS OF BULK AT MOST 1048576: true; the input reads as it did. -/
def runesOneUptoRow : OpenClaim := { program := "ytjglehklfdhgaabdoor", sum := "55a56f4a0d7c4df0935aca28fef8b68649e9c175518fb349412ca927142a9acd", func := "heron/heronlaw01.RunesOne", spec := "runesOne", unfollowed := true, recurses := true, named := ["heron/runes.sizes", "heron/runes.forms"], apart := false, laid := [("heron/runes.forms", laid_heron_runes_forms), ("heron/runes.sizes", laid_heron_runes_sizes)], narrowed := true }
def RunesOneUptoSaid : Prop := runesOneUptoRow.holds Tryd.pinned (OpenSpec.upto runesOneSpec)

end Rows
end Go.Proofs.YtjglehklfdhgaabDoor
