/-
  NARROWER THAN 'FOR EVERY INPUT', by the rows' own cells (each row's printed sentence says how): SyntaxParses: laid · SyntaxBegins: laid · SyntaxReaches: laid · SyntaxJoins: laid.
  DERIVED. THE GIVEN ROWS OF THIS SEAT. 4 by the template 'for every input the law returns true; each argument reads behind the call as it read before'; 0 by the template 'total and deterministic' (their statements: YtenanfkmmkmolaaGreatDoorTotals.lean).
  GIVEN WITH THE SEED: the statements are not yours to turn. If you find one false, say at which input.
  Laid BY PROGRAM, IN A SANDBOX (cutbox-rows.mjs): the forced cells as the released guide's own fill.sh prints them over the translation b30c4cbb797c92e4… (all of the seat's roots in one cut). By AI agents, Wed Nov 11 2026. No macro, syntax, notation, axiom, sorry.
-/
import Derived.Test.YtenanfkmmkmolaaGreatDoorChecked
import GoSem.Claim
import GoSem.ClaimJoined
import GoSem.ClaimMapViews
import Derived.JoinedTies
import Derived.KernelRfl
namespace Go.Proofs.YtenanfkmmkmolaaGreatDoor
/- THE CELL 'sum', in the pinned program and in every row, IS THE sha256 OF THE DUMP (.gsa) THAT YtenanfkmmkmolaaGreatDoorProg.lean LOADS. Nothing in Lean hashes anything: it is a label: what it is worth is what the hold of that sum in a sandbox is worth. -/
noncomputable def Tryz.pinned : Pinned := { name := "ytenanfkmmkmolaagreatdoor", sum := "b30c4cbb797c92e45428b45314d91f3e6932f434eaef1a6b37e460e4592ee5cf", checked := Tryz.checked }
namespace Rows
def none {H : Type} : Left H := { results := [], args := [] }

/- WHAT THE LISTED PACKAGE-LEVEL VARIABLES READ AS WHEN THE CALL BEGINS. Each datum BY PROGRAM (the guide's laid-datum.mjs) off the statement by which the dump's own 'gosem.cut.vars' lays the variable. In a bare row this is a premise. The card (YtenanfkmmkmolaaGreatDoorCards.lean) ties it to the program's text. -/
def laid_errors_errorType {H : Type} : DataW H := .iface "internal/reflectlite.rtype" (.agg [.ptr (.lit (.string [101, 114, 114, 111, 114]))])
def laid_heron_runes_forms {H : Type} : DataW H := .agg [.agg [.lit (.int .i64 0), .lit (.int .i64 0), .lit (.int .i64 0)], .agg [.lit (.int .i64 0), .lit (.int .i64 127), .lit (.int .i64 0)], .agg [.lit (.int .i64 192), .lit (.int .i64 31), .lit (.int .i64 128)], .agg [.lit (.int .i64 224), .lit (.int .i64 15), .lit (.int .i64 2048)], .agg [.lit (.int .i64 240), .lit (.int .i64 7), .lit (.int .i64 65536)]]
def laid_heron_runes_sizes {H : Type} : DataW H := .agg [.lit (.int .i64 1), .lit (.int .i64 1), .lit (.int .i64 1), .lit (.int .i64 1), .lit (.int .i64 1), .lit (.int .i64 1), .lit (.int .i64 1), .lit (.int .i64 1), .lit (.int .i64 1), .lit (.int .i64 1), .lit (.int .i64 1), .lit (.int .i64 1), .lit (.int .i64 1), .lit (.int .i64 1), .lit (.int .i64 1), .lit (.int .i64 1), .lit (.int .i64 0), .lit (.int .i64 0), .lit (.int .i64 0), .lit (.int .i64 0), .lit (.int .i64 0), .lit (.int .i64 0), .lit (.int .i64 0), .lit (.int .i64 0), .lit (.int .i64 2), .lit (.int .i64 2), .lit (.int .i64 2), .lit (.int .i64 2), .lit (.int .i64 3), .lit (.int .i64 3), .lit (.int .i64 4), .lit (.int .i64 0)]

/-- 'heronlaw04.SyntaxParses': WHATEVER THE INPUT: true; the input reads as it did. -/
def syntaxParsesSpec : ChangeSpec := { name := "syntaxParses", fn := fun _ => fun
  | [d1, d2] => { results := [.lit (.bool true)], args := [d1, d2] }
  | _ => none }
def syntaxParsesRow : OpenClaim := { program := "ytenanfkmmkmolaagreatdoor", sum := "b30c4cbb797c92e45428b45314d91f3e6932f434eaef1a6b37e460e4592ee5cf", func := "heron/heronlaw04.SyntaxParses", spec := "syntaxParses", inPlace := ["internal/reflectlite.ValueOf", "(internal/reflectlite.Value).Type", "(internal/reflectlite.Value).IsNil", "internal/reflectlite.TypeOf", "(internal/reflectlite.Value).Elem", "(internal/reflectlite.Value).Set", "internal/bytealg.IndexByteString"], unfollowed := true, recurses := true, named := ["errors.errorType", "heron/runes.sizes", "heron/runes.forms"], apart := false, laid := [("errors.errorType", laid_errors_errorType), ("heron/runes.forms", laid_heron_runes_forms), ("heron/runes.sizes", laid_heron_runes_sizes)] }
def SyntaxParsesSaid : Prop := syntaxParsesRow.holds Tryz.pinned (OpenSpec.ofChange syntaxParsesSpec)

/-- ITS FALSE NEIGHBOUR: 'it returns false'. Refute it at one input. -/
def syntaxParsesWrong : ChangeSpec := { name := "syntaxParses", fn := fun _ => fun
  | [d1, d2] => { results := [.lit (.bool false)], args := [d1, d2] }
  | _ => none }
def SyntaxParsesWrongFalsely : Prop := syntaxParsesRow.holds Tryz.pinned (OpenSpec.ofChange syntaxParsesWrong)

/-- 'heronlaw04.SyntaxBegins': WHATEVER THE INPUT: true; the input reads as it did. -/
def syntaxBeginsSpec : ChangeSpec := { name := "syntaxBegins", fn := fun _ => fun
  | [d1, d2, d3] => { results := [.lit (.bool true)], args := [d1, d2, d3] }
  | _ => none }
def syntaxBeginsRow : OpenClaim := { program := "ytenanfkmmkmolaagreatdoor", sum := "b30c4cbb797c92e45428b45314d91f3e6932f434eaef1a6b37e460e4592ee5cf", func := "heron/heronlaw04.SyntaxBegins", spec := "syntaxBegins", inPlace := ["internal/reflectlite.ValueOf", "(internal/reflectlite.Value).Type", "(internal/reflectlite.Value).IsNil", "internal/reflectlite.TypeOf", "(internal/reflectlite.Value).Elem", "(internal/reflectlite.Value).Set", "internal/bytealg.IndexByteString"], unfollowed := true, recurses := true, named := ["errors.errorType", "heron/runes.sizes", "heron/runes.forms"], apart := false, laid := [("errors.errorType", laid_errors_errorType), ("heron/runes.forms", laid_heron_runes_forms), ("heron/runes.sizes", laid_heron_runes_sizes)] }
def SyntaxBeginsSaid : Prop := syntaxBeginsRow.holds Tryz.pinned (OpenSpec.ofChange syntaxBeginsSpec)

/-- ITS FALSE NEIGHBOUR: 'it returns false'. Refute it at one input. -/
def syntaxBeginsWrong : ChangeSpec := { name := "syntaxBegins", fn := fun _ => fun
  | [d1, d2, d3] => { results := [.lit (.bool false)], args := [d1, d2, d3] }
  | _ => none }
def SyntaxBeginsWrongFalsely : Prop := syntaxBeginsRow.holds Tryz.pinned (OpenSpec.ofChange syntaxBeginsWrong)

/-- 'heronlaw04.SyntaxReaches': WHATEVER THE INPUT: true; the input reads as it did. -/
def syntaxReachesSpec : ChangeSpec := { name := "syntaxReaches", fn := fun _ => fun
  | [d] => { results := [.lit (.bool true)], args := [d] }
  | _ => none }
def syntaxReachesRow : OpenClaim := { program := "ytenanfkmmkmolaagreatdoor", sum := "b30c4cbb797c92e45428b45314d91f3e6932f434eaef1a6b37e460e4592ee5cf", func := "heron/heronlaw04.SyntaxReaches", spec := "syntaxReaches", inPlace := ["internal/reflectlite.ValueOf", "(internal/reflectlite.Value).Type", "(internal/reflectlite.Value).IsNil", "internal/reflectlite.TypeOf", "(internal/reflectlite.Value).Elem", "(internal/reflectlite.Value).Set", "internal/bytealg.IndexByteString"], unfollowed := true, recurses := true, named := ["errors.errorType", "heron/runes.sizes", "heron/runes.forms"], apart := false, laid := [("errors.errorType", laid_errors_errorType), ("heron/runes.forms", laid_heron_runes_forms), ("heron/runes.sizes", laid_heron_runes_sizes)] }
def SyntaxReachesSaid : Prop := syntaxReachesRow.holds Tryz.pinned (OpenSpec.ofChange syntaxReachesSpec)

/-- ITS FALSE NEIGHBOUR: 'it returns false'. Refute it at one input. -/
def syntaxReachesWrong : ChangeSpec := { name := "syntaxReaches", fn := fun _ => fun
  | [d] => { results := [.lit (.bool false)], args := [d] }
  | _ => none }
def SyntaxReachesWrongFalsely : Prop := syntaxReachesRow.holds Tryz.pinned (OpenSpec.ofChange syntaxReachesWrong)

/-- 'heronlaw04.SyntaxJoins': WHATEVER THE INPUT: true; the input reads as it did. -/
def syntaxJoinsSpec : ChangeSpec := { name := "syntaxJoins", fn := fun _ => fun
  | [d1, d2] => { results := [.lit (.bool true)], args := [d1, d2] }
  | _ => none }
def syntaxJoinsRow : OpenClaim := { program := "ytenanfkmmkmolaagreatdoor", sum := "b30c4cbb797c92e45428b45314d91f3e6932f434eaef1a6b37e460e4592ee5cf", func := "heron/heronlaw04.SyntaxJoins", spec := "syntaxJoins", inPlace := ["internal/reflectlite.ValueOf", "(internal/reflectlite.Value).Type", "(internal/reflectlite.Value).IsNil", "internal/reflectlite.TypeOf", "(internal/reflectlite.Value).Elem", "(internal/reflectlite.Value).Set", "internal/bytealg.IndexByteString"], unfollowed := true, recurses := true, named := ["errors.errorType", "heron/runes.sizes", "heron/runes.forms"], apart := false, laid := [("errors.errorType", laid_errors_errorType), ("heron/runes.forms", laid_heron_runes_forms), ("heron/runes.sizes", laid_heron_runes_sizes)] }
def SyntaxJoinsSaid : Prop := syntaxJoinsRow.holds Tryz.pinned (OpenSpec.ofChange syntaxJoinsSpec)

/-- ITS FALSE NEIGHBOUR: 'it returns false'. Refute it at one input. -/
def syntaxJoinsWrong : ChangeSpec := { name := "syntaxJoins", fn := fun _ => fun
  | [d1, d2] => { results := [.lit (.bool false)], args := [d1, d2] }
  | _ => none }
def SyntaxJoinsWrongFalsely : Prop := syntaxJoinsRow.holds Tryz.pinned (OpenSpec.ofChange syntaxJoinsWrong)

/- THE SECOND FORM. 'bulk': how many values and letters a reading holds, each counted each time it is reached (what is shared counts as often as it is met; a slice's spare places count too). A statement '..UptoSaid' is the law's where the arguments, and the package variables that the reading takes, are together of bulk at most 1048576: NARROWER than '..Said'. Prove '..Said' where nothing that the law and all that it calls make is longer than what came in: it says more and counts as full. Else prove '..UptoSaid'. A law counts once. -/
mutual
def uptoBulk {H : Type} : DataW H → Nat
  | .lit (.string bytes) => bytes.length + 1
  | .lit _ => 1
  | .nil => 1
  | .ptr d => uptoBulk d + 1
  | .slice elems spare => uptoBulkAll elems + uptoBulkAll spare + 1
  | .agg parts => uptoBulkAll parts + 1
  | .iface _ d => uptoBulk d + 1
  | .map entries => uptoBulkEntries entries + 1
  | .held _ => 1
def uptoBulkAll {H : Type} : List (DataW H) → Nat
  | [] => 0
  | d :: r => uptoBulk d + uptoBulkAll r
def uptoBulkEntries {H : Type} : List (Lit × DataW H) → Nat
  | [] => 0
  | x :: r => uptoBulkEntry x + uptoBulkEntries r
def uptoBulkEntry {H : Type} : Lit × DataW H → Nat
  | (.string bytes, d) => bytes.length + uptoBulk d + 1
  | (_, d) => uptoBulk d + 1
 end
def uptoSmall : (H : Type) → List (DataW H) → Bool := fun _ ds => decide (uptoBulkAll ds ≤ 1048576)
def OpenSpec.upto (s : _root_.Go.ChangeSpec) : _root_.Go.OpenSpec := { _root_.Go.OpenSpec.ofChange s with cond := some uptoSmall }

/-- 'heronlaw04.SyntaxParses', WHERE WHAT IT READS IS OF BULK AT MOST 1048576: true; the input reads as it did. -/
def syntaxParsesUptoRow : OpenClaim := { program := "ytenanfkmmkmolaagreatdoor", sum := "b30c4cbb797c92e45428b45314d91f3e6932f434eaef1a6b37e460e4592ee5cf", func := "heron/heronlaw04.SyntaxParses", spec := "syntaxParses", inPlace := ["internal/reflectlite.ValueOf", "(internal/reflectlite.Value).Type", "(internal/reflectlite.Value).IsNil", "internal/reflectlite.TypeOf", "(internal/reflectlite.Value).Elem", "(internal/reflectlite.Value).Set", "internal/bytealg.IndexByteString"], unfollowed := true, recurses := true, named := ["errors.errorType", "heron/runes.sizes", "heron/runes.forms"], apart := false, laid := [("errors.errorType", laid_errors_errorType), ("heron/runes.forms", laid_heron_runes_forms), ("heron/runes.sizes", laid_heron_runes_sizes)], narrowed := true }
def SyntaxParsesUptoSaid : Prop := syntaxParsesUptoRow.holds Tryz.pinned (OpenSpec.upto syntaxParsesSpec)

/-- 'heronlaw04.SyntaxBegins', WHERE WHAT IT READS IS OF BULK AT MOST 1048576: true; the input reads as it did. -/
def syntaxBeginsUptoRow : OpenClaim := { program := "ytenanfkmmkmolaagreatdoor", sum := "b30c4cbb797c92e45428b45314d91f3e6932f434eaef1a6b37e460e4592ee5cf", func := "heron/heronlaw04.SyntaxBegins", spec := "syntaxBegins", inPlace := ["internal/reflectlite.ValueOf", "(internal/reflectlite.Value).Type", "(internal/reflectlite.Value).IsNil", "internal/reflectlite.TypeOf", "(internal/reflectlite.Value).Elem", "(internal/reflectlite.Value).Set", "internal/bytealg.IndexByteString"], unfollowed := true, recurses := true, named := ["errors.errorType", "heron/runes.sizes", "heron/runes.forms"], apart := false, laid := [("errors.errorType", laid_errors_errorType), ("heron/runes.forms", laid_heron_runes_forms), ("heron/runes.sizes", laid_heron_runes_sizes)], narrowed := true }
def SyntaxBeginsUptoSaid : Prop := syntaxBeginsUptoRow.holds Tryz.pinned (OpenSpec.upto syntaxBeginsSpec)

/-- 'heronlaw04.SyntaxReaches', WHERE WHAT IT READS IS OF BULK AT MOST 1048576: true; the input reads as it did. -/
def syntaxReachesUptoRow : OpenClaim := { program := "ytenanfkmmkmolaagreatdoor", sum := "b30c4cbb797c92e45428b45314d91f3e6932f434eaef1a6b37e460e4592ee5cf", func := "heron/heronlaw04.SyntaxReaches", spec := "syntaxReaches", inPlace := ["internal/reflectlite.ValueOf", "(internal/reflectlite.Value).Type", "(internal/reflectlite.Value).IsNil", "internal/reflectlite.TypeOf", "(internal/reflectlite.Value).Elem", "(internal/reflectlite.Value).Set", "internal/bytealg.IndexByteString"], unfollowed := true, recurses := true, named := ["errors.errorType", "heron/runes.sizes", "heron/runes.forms"], apart := false, laid := [("errors.errorType", laid_errors_errorType), ("heron/runes.forms", laid_heron_runes_forms), ("heron/runes.sizes", laid_heron_runes_sizes)], narrowed := true }
def SyntaxReachesUptoSaid : Prop := syntaxReachesUptoRow.holds Tryz.pinned (OpenSpec.upto syntaxReachesSpec)

/-- 'heronlaw04.SyntaxJoins', WHERE WHAT IT READS IS OF BULK AT MOST 1048576: true; the input reads as it did. -/
def syntaxJoinsUptoRow : OpenClaim := { program := "ytenanfkmmkmolaagreatdoor", sum := "b30c4cbb797c92e45428b45314d91f3e6932f434eaef1a6b37e460e4592ee5cf", func := "heron/heronlaw04.SyntaxJoins", spec := "syntaxJoins", inPlace := ["internal/reflectlite.ValueOf", "(internal/reflectlite.Value).Type", "(internal/reflectlite.Value).IsNil", "internal/reflectlite.TypeOf", "(internal/reflectlite.Value).Elem", "(internal/reflectlite.Value).Set", "internal/bytealg.IndexByteString"], unfollowed := true, recurses := true, named := ["errors.errorType", "heron/runes.sizes", "heron/runes.forms"], apart := false, laid := [("errors.errorType", laid_errors_errorType), ("heron/runes.forms", laid_heron_runes_forms), ("heron/runes.sizes", laid_heron_runes_sizes)], narrowed := true }
def SyntaxJoinsUptoSaid : Prop := syntaxJoinsUptoRow.holds Tryz.pinned (OpenSpec.upto syntaxJoinsSpec)

end Rows
end Go.Proofs.YtenanfkmmkmolaaGreatDoor
