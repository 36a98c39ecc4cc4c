/-
  DERIVED. GIVEN WITH THE SEED: THE CARDS: each row of YtenanfkmmkmolaaGreatDoorRows.lean that lists a variable, with what it lists TIED to the program's text (the seventh form; the later family's looks); each row that meets fmt, with fmt's text TOLD by the authors' own Lean function (tested against real Go, not proved from fmt's source: count such statements apart). THE CARD IS WHAT COUNTS. Prove the row's statement (the work); the ties are given (YtenanfkmmkmolaaGreatDoorTie.lean); close each card by the builder's one call (the guide's Derived/Test/ToyasCard.lean, 'card_holds'). Laid BY PROGRAM, IN A SANDBOX (cutbox-door.mjs). By AI agents, Wed Nov 11 2026. No macro, syntax, notation, axiom, sorry.
-/
import Derived.Test.YtenanfkmmkmolaaGreatDoorRows
import GoSem.ClaimSeven
namespace Go.Proofs.YtenanfkmmkmolaaGreatDoor
namespace Rows

/-- THE TIED CARD OF 'heronlaw04.SyntaxParses'. -/
def syntaxParsesCard : Claim7 := { stood := { row := syntaxParsesRow, standIns := [], harness := (true, "9e592ebd1495f3aaf498cd04703d6bfc6973690c7a243e6b6e486a5796a20d98"), looks := true }, kinds := [], alts := [], laidByText := true, laidKinds := [.handle, .data, .data], laidTests := true, laidLooks := .later }
def SyntaxParsesCardSaid : Prop := Claim7.holds Tryz.pinned (.plain (OpenSpec.ofChange syntaxParsesSpec)) syntaxParsesCard

/-- THE TIED CARD OF 'heronlaw04.SyntaxBegins'. -/
def syntaxBeginsCard : Claim7 := { stood := { row := syntaxBeginsRow, standIns := [], harness := (true, "9e592ebd1495f3aaf498cd04703d6bfc6973690c7a243e6b6e486a5796a20d98"), looks := true }, kinds := [], alts := [], laidByText := true, laidKinds := [.handle, .data, .data], laidTests := true, laidLooks := .later }
def SyntaxBeginsCardSaid : Prop := Claim7.holds Tryz.pinned (.plain (OpenSpec.ofChange syntaxBeginsSpec)) syntaxBeginsCard

/-- THE TIED CARD OF 'heronlaw04.SyntaxReaches'. -/
def syntaxReachesCard : Claim7 := { stood := { row := syntaxReachesRow, standIns := [], harness := (true, "9e592ebd1495f3aaf498cd04703d6bfc6973690c7a243e6b6e486a5796a20d98"), looks := true }, kinds := [], alts := [], laidByText := true, laidKinds := [.handle, .data, .data], laidTests := true, laidLooks := .later }
def SyntaxReachesCardSaid : Prop := Claim7.holds Tryz.pinned (.plain (OpenSpec.ofChange syntaxReachesSpec)) syntaxReachesCard

/-- THE TIED CARD OF 'heronlaw04.SyntaxJoins'. -/
def syntaxJoinsCard : Claim7 := { stood := { row := syntaxJoinsRow, standIns := [], harness := (true, "9e592ebd1495f3aaf498cd04703d6bfc6973690c7a243e6b6e486a5796a20d98"), looks := true }, kinds := [], alts := [], laidByText := true, laidKinds := [.handle, .data, .data], laidTests := true, laidLooks := .later }
def SyntaxJoinsCardSaid : Prop := Claim7.holds Tryz.pinned (.plain (OpenSpec.ofChange syntaxJoinsSpec)) syntaxJoinsCard

/-- THE SECOND FORM's CARD OF 'heronlaw04.SyntaxParses'. -/
def syntaxParsesUptoCard : Claim7 := { stood := { row := syntaxParsesUptoRow, standIns := [], harness := (true, "9e592ebd1495f3aaf498cd04703d6bfc6973690c7a243e6b6e486a5796a20d98"), looks := true }, kinds := [], alts := [], laidByText := true, laidKinds := [.handle, .data, .data], laidTests := true, laidLooks := .later }
def SyntaxParsesUptoCardSaid : Prop := Claim7.holds Tryz.pinned (.plain (OpenSpec.upto syntaxParsesSpec)) syntaxParsesUptoCard

/-- THE SECOND FORM's CARD OF 'heronlaw04.SyntaxBegins'. -/
def syntaxBeginsUptoCard : Claim7 := { stood := { row := syntaxBeginsUptoRow, standIns := [], harness := (true, "9e592ebd1495f3aaf498cd04703d6bfc6973690c7a243e6b6e486a5796a20d98"), looks := true }, kinds := [], alts := [], laidByText := true, laidKinds := [.handle, .data, .data], laidTests := true, laidLooks := .later }
def SyntaxBeginsUptoCardSaid : Prop := Claim7.holds Tryz.pinned (.plain (OpenSpec.upto syntaxBeginsSpec)) syntaxBeginsUptoCard

/-- THE SECOND FORM's CARD OF 'heronlaw04.SyntaxReaches'. -/
def syntaxReachesUptoCard : Claim7 := { stood := { row := syntaxReachesUptoRow, standIns := [], harness := (true, "9e592ebd1495f3aaf498cd04703d6bfc6973690c7a243e6b6e486a5796a20d98"), looks := true }, kinds := [], alts := [], laidByText := true, laidKinds := [.handle, .data, .data], laidTests := true, laidLooks := .later }
def SyntaxReachesUptoCardSaid : Prop := Claim7.holds Tryz.pinned (.plain (OpenSpec.upto syntaxReachesSpec)) syntaxReachesUptoCard

/-- THE SECOND FORM's CARD OF 'heronlaw04.SyntaxJoins'. -/
def syntaxJoinsUptoCard : Claim7 := { stood := { row := syntaxJoinsUptoRow, standIns := [], harness := (true, "9e592ebd1495f3aaf498cd04703d6bfc6973690c7a243e6b6e486a5796a20d98"), looks := true }, kinds := [], alts := [], laidByText := true, laidKinds := [.handle, .data, .data], laidTests := true, laidLooks := .later }
def SyntaxJoinsUptoCardSaid : Prop := Claim7.holds Tryz.pinned (.plain (OpenSpec.upto syntaxJoinsSpec)) syntaxJoinsUptoCard
end Rows
end Go.Proofs.YtenanfkmmkmolaaGreatDoor
