/-
  NARROWER THAN 'FOR EVERY INPUT', by the rows' own cells (each row's printed sentence says how): MeaningParses: loops · ProgCompiles: loops · ProgMeans: loops · PikeTrees: loops · BitstateMeans: loops.
  DERIVED. THE GIVEN ROWS OF THIS SEAT. 5 by the template 'for every input the law returns true; each argument reads behind the call as it read before'; 0 by the template 'total and deterministic' (their statements: YtacaanhnlfpbhaaGreatTotals.lean).
  GIVEN WITH THE SEED: the statements are not yours to turn. If you find one false, say at which input.
  Laid BY PROGRAM, IN A SANDBOX (cutbox-rows.mjs): the forced cells as the released guide's own fill.sh prints them over the translation 736f422d3ed8568f… (all of the seat's roots in one cut). By AI agents, Wed Nov 11 2026. No macro, syntax, notation, axiom, sorry.
-/
import Derived.Test.YtacaanhnlfpbhaaGreatChecked
import GoSem.Claim
import GoSem.ClaimJoined
import GoSem.ClaimMapViews
import Derived.JoinedTies
import Derived.KernelRfl
namespace Go.Proofs.YtacaanhnlfpbhaaGreat
/- THE CELL 'sum', in the pinned program and in every row, IS THE sha256 OF THE DUMP (.gsa) THAT YtacaanhnlfpbhaaGreatProg.lean LOADS. Nothing in Lean hashes anything: it is a label: what it is worth is what the hold of that sum in a sandbox is worth. -/
noncomputable def Tryz.pinned : Pinned := { name := "ytacaanhnlfpbhaagreat", sum := "736f422d3ed8568ff40ce2209762be1a8647e870b7fd612748b09bcd44a3e8dc", checked := Tryz.checked }
namespace Rows
def none {H : Type} : Left H := { results := [], args := [] }

/-- 'heronlaw06.MeaningParses': WHATEVER THE INPUT: true; the input reads as it did. -/
def meaningParsesSpec : ChangeSpec := { name := "meaningParses", fn := fun _ => fun
  | [d1, d2, d3] => { results := [.lit (.bool true)], args := [d1, d2, d3] }
  | _ => none }
def meaningParsesRow : OpenClaim := { program := "ytacaanhnlfpbhaagreat", sum := "736f422d3ed8568ff40ce2209762be1a8647e870b7fd612748b09bcd44a3e8dc", func := "heron/heronlaw06.MeaningParses", spec := "meaningParses", unfollowed := true, recurses := true, loops := true, plainKeys := false, apart := false }
def MeaningParsesSaid : Prop := meaningParsesRow.holds Tryz.pinned (OpenSpec.ofChange meaningParsesSpec)

/-- ITS FALSE NEIGHBOUR: 'it returns false'. Refute it at one input. -/
def meaningParsesWrong : ChangeSpec := { name := "meaningParses", fn := fun _ => fun
  | [d1, d2, d3] => { results := [.lit (.bool false)], args := [d1, d2, d3] }
  | _ => none }
def MeaningParsesWrongFalsely : Prop := meaningParsesRow.holds Tryz.pinned (OpenSpec.ofChange meaningParsesWrong)

/-- 'heronlaw09.ProgCompiles': WHATEVER THE INPUT: true; the input reads as it did. -/
def progCompilesSpec : ChangeSpec := { name := "progCompiles", fn := fun _ => fun
  | [d1, d2] => { results := [.lit (.bool true)], args := [d1, d2] }
  | _ => none }
def progCompilesRow : OpenClaim := { program := "ytacaanhnlfpbhaagreat", sum := "736f422d3ed8568ff40ce2209762be1a8647e870b7fd612748b09bcd44a3e8dc", func := "heron/heronlaw09.ProgCompiles", spec := "progCompiles", unfollowed := true, recurses := true, loops := true, plainKeys := false, apart := false }
def ProgCompilesSaid : Prop := progCompilesRow.holds Tryz.pinned (OpenSpec.ofChange progCompilesSpec)

/-- ITS FALSE NEIGHBOUR: 'it returns false'. Refute it at one input. -/
def progCompilesWrong : ChangeSpec := { name := "progCompiles", fn := fun _ => fun
  | [d1, d2] => { results := [.lit (.bool false)], args := [d1, d2] }
  | _ => none }
def ProgCompilesWrongFalsely : Prop := progCompilesRow.holds Tryz.pinned (OpenSpec.ofChange progCompilesWrong)

/-- 'heronlaw09.ProgMeans': WHATEVER THE INPUT: true; the input reads as it did. -/
def progMeansSpec : ChangeSpec := { name := "progMeans", fn := fun _ => fun
  | [d1, d2] => { results := [.lit (.bool true)], args := [d1, d2] }
  | _ => none }
def progMeansRow : OpenClaim := { program := "ytacaanhnlfpbhaagreat", sum := "736f422d3ed8568ff40ce2209762be1a8647e870b7fd612748b09bcd44a3e8dc", func := "heron/heronlaw09.ProgMeans", spec := "progMeans", unfollowed := true, recurses := true, loops := true, plainKeys := false, apart := false }
def ProgMeansSaid : Prop := progMeansRow.holds Tryz.pinned (OpenSpec.ofChange progMeansSpec)

/-- ITS FALSE NEIGHBOUR: 'it returns false'. Refute it at one input. -/
def progMeansWrong : ChangeSpec := { name := "progMeans", fn := fun _ => fun
  | [d1, d2] => { results := [.lit (.bool false)], args := [d1, d2] }
  | _ => none }
def ProgMeansWrongFalsely : Prop := progMeansRow.holds Tryz.pinned (OpenSpec.ofChange progMeansWrong)

/-- 'heronlaw11.PikeTrees': WHATEVER THE INPUT: true; the input reads as it did. -/
def pikeTreesSpec : ChangeSpec := { name := "pikeTrees", fn := fun _ => fun
  | [d1, d2] => { results := [.lit (.bool true)], args := [d1, d2] }
  | _ => none }
def pikeTreesRow : OpenClaim := { program := "ytacaanhnlfpbhaagreat", sum := "736f422d3ed8568ff40ce2209762be1a8647e870b7fd612748b09bcd44a3e8dc", func := "heron/heronlaw11.PikeTrees", spec := "pikeTrees", unfollowed := true, recurses := true, loops := true, plainKeys := false, apart := false }
def PikeTreesSaid : Prop := pikeTreesRow.holds Tryz.pinned (OpenSpec.ofChange pikeTreesSpec)

/-- ITS FALSE NEIGHBOUR: 'it returns false'. Refute it at one input. -/
def pikeTreesWrong : ChangeSpec := { name := "pikeTrees", fn := fun _ => fun
  | [d1, d2] => { results := [.lit (.bool false)], args := [d1, d2] }
  | _ => none }
def PikeTreesWrongFalsely : Prop := pikeTreesRow.holds Tryz.pinned (OpenSpec.ofChange pikeTreesWrong)

/-- 'heronlaw12.BitstateMeans': WHATEVER THE INPUT: true; the input reads as it did. -/
def bitstateMeansSpec : ChangeSpec := { name := "bitstateMeans", fn := fun _ => fun
  | [d1, d2, d3] => { results := [.lit (.bool true)], args := [d1, d2, d3] }
  | _ => none }
def bitstateMeansRow : OpenClaim := { program := "ytacaanhnlfpbhaagreat", sum := "736f422d3ed8568ff40ce2209762be1a8647e870b7fd612748b09bcd44a3e8dc", func := "heron/heronlaw12.BitstateMeans", spec := "bitstateMeans", unfollowed := true, recurses := true, loops := true, plainKeys := false, apart := false }
def BitstateMeansSaid : Prop := bitstateMeansRow.holds Tryz.pinned (OpenSpec.ofChange bitstateMeansSpec)

/-- ITS FALSE NEIGHBOUR: 'it returns false'. Refute it at one input. -/
def bitstateMeansWrong : ChangeSpec := { name := "bitstateMeans", fn := fun _ => fun
  | [d1, d2, d3] => { results := [.lit (.bool false)], args := [d1, d2, d3] }
  | _ => none }
def BitstateMeansWrongFalsely : Prop := bitstateMeansRow.holds Tryz.pinned (OpenSpec.ofChange bitstateMeansWrong)

/- THE SECOND FORM. 'bulk': how many values and letters a reading holds, each counted each time it is reached (what is shared counts as often as it is met; a slice's spare places count too). A statement '..UptoSaid' is the law's where the arguments, and the package variables that the reading takes, are together of bulk at most 1048576: NARROWER than '..Said'. Prove '..Said' where nothing that the law and all that it calls make is longer than what came in: it says more and counts as full. Else prove '..UptoSaid'. A law counts once. -/
mutual
def uptoBulk {H : Type} : DataW H → Nat
  | .lit (.string bytes) => bytes.length + 1
  | .lit _ => 1
  | .nil => 1
  | .ptr d => uptoBulk d + 1
  | .slice elems spare => uptoBulkAll elems + uptoBulkAll spare + 1
  | .agg parts => uptoBulkAll parts + 1
  | .iface _ d => uptoBulk d + 1
  | .map entries => uptoBulkEntries entries + 1
  | .held _ => 1
def uptoBulkAll {H : Type} : List (DataW H) → Nat
  | [] => 0
  | d :: r => uptoBulk d + uptoBulkAll r
def uptoBulkEntries {H : Type} : List (Lit × DataW H) → Nat
  | [] => 0
  | x :: r => uptoBulkEntry x + uptoBulkEntries r
def uptoBulkEntry {H : Type} : Lit × DataW H → Nat
  | (.string bytes, d) => bytes.length + uptoBulk d + 1
  | (_, d) => uptoBulk d + 1
 end
def uptoSmall : (H : Type) → List (DataW H) → Bool := fun _ ds => decide (uptoBulkAll ds ≤ 1048576)
def OpenSpec.upto (s : _root_.Go.ChangeSpec) : _root_.Go.OpenSpec := { _root_.Go.OpenSpec.ofChange s with cond := some uptoSmall }

/-- 'heronlaw06.MeaningParses', WHERE WHAT IT READS IS OF BULK AT MOST 1048576: true; the input reads as it did. -/
def meaningParsesUptoRow : OpenClaim := { program := "ytacaanhnlfpbhaagreat", sum := "736f422d3ed8568ff40ce2209762be1a8647e870b7fd612748b09bcd44a3e8dc", func := "heron/heronlaw06.MeaningParses", spec := "meaningParses", unfollowed := true, recurses := true, loops := true, plainKeys := false, apart := false, narrowed := true }
def MeaningParsesUptoSaid : Prop := meaningParsesUptoRow.holds Tryz.pinned (OpenSpec.upto meaningParsesSpec)

/-- 'heronlaw09.ProgCompiles', WHERE WHAT IT READS IS OF BULK AT MOST 1048576: true; the input reads as it did. -/
def progCompilesUptoRow : OpenClaim := { program := "ytacaanhnlfpbhaagreat", sum := "736f422d3ed8568ff40ce2209762be1a8647e870b7fd612748b09bcd44a3e8dc", func := "heron/heronlaw09.ProgCompiles", spec := "progCompiles", unfollowed := true, recurses := true, loops := true, plainKeys := false, apart := false, narrowed := true }
def ProgCompilesUptoSaid : Prop := progCompilesUptoRow.holds Tryz.pinned (OpenSpec.upto progCompilesSpec)

/-- 'heronlaw09.ProgMeans', WHERE WHAT IT READS IS OF BULK AT MOST 1048576: true; the input reads as it did. -/
def progMeansUptoRow : OpenClaim := { program := "ytacaanhnlfpbhaagreat", sum := "736f422d3ed8568ff40ce2209762be1a8647e870b7fd612748b09bcd44a3e8dc", func := "heron/heronlaw09.ProgMeans", spec := "progMeans", unfollowed := true, recurses := true, loops := true, plainKeys := false, apart := false, narrowed := true }
def ProgMeansUptoSaid : Prop := progMeansUptoRow.holds Tryz.pinned (OpenSpec.upto progMeansSpec)

/-- 'heronlaw11.PikeTrees', WHERE WHAT IT READS IS OF BULK AT MOST 1048576: true; the input reads as it did. -/
def pikeTreesUptoRow : OpenClaim := { program := "ytacaanhnlfpbhaagreat", sum := "736f422d3ed8568ff40ce2209762be1a8647e870b7fd612748b09bcd44a3e8dc", func := "heron/heronlaw11.PikeTrees", spec := "pikeTrees", unfollowed := true, recurses := true, loops := true, plainKeys := false, apart := false, narrowed := true }
def PikeTreesUptoSaid : Prop := pikeTreesUptoRow.holds Tryz.pinned (OpenSpec.upto pikeTreesSpec)

/-- 'heronlaw12.BitstateMeans', WHERE WHAT IT READS IS OF BULK AT MOST 1048576: true; the input reads as it did. -/
def bitstateMeansUptoRow : OpenClaim := { program := "ytacaanhnlfpbhaagreat", sum := "736f422d3ed8568ff40ce2209762be1a8647e870b7fd612748b09bcd44a3e8dc", func := "heron/heronlaw12.BitstateMeans", spec := "bitstateMeans", unfollowed := true, recurses := true, loops := true, plainKeys := false, apart := false, narrowed := true }
def BitstateMeansUptoSaid : Prop := bitstateMeansUptoRow.holds Tryz.pinned (OpenSpec.upto bitstateMeansSpec)

end Rows
end Go.Proofs.YtacaanhnlfpbhaaGreat
