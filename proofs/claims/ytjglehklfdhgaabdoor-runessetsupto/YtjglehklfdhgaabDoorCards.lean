/-
  DERIVED. GIVEN WITH THE SEED: THE CARDS: each row of YtjglehklfdhgaabDoorRows.lean that lists a variable, with what it lists TIED to the program's text (the seventh form; the later family's looks); each row that meets fmt, with fmt's text TOLD by the authors' own Lean function (tested against real Go, not proved from fmt's source: count such statements apart). THE CARD IS WHAT COUNTS. Prove the row's statement (the work); the ties are given (YtjglehklfdhgaabDoorTie.lean); close each card by the builder's one call (the guide's Derived/Test/ToyasCard.lean, 'card_holds'). Laid BY PROGRAM, IN A SANDBOX (cutbox-door.mjs). By AI agents, Wed Nov 11 2026. No macro, syntax, notation, axiom, sorry.
-/
import Derived.Test.YtjglehklfdhgaabDoorRows
import GoSem.ClaimSeven
namespace Go.Proofs.YtjglehklfdhgaabDoor
namespace Rows

/-- THE TIED CARD OF 'heronlaw01.RunesSets'. -/
def runesSetsCard : Claim7 := { stood := { row := runesSetsRow, standIns := [], harness := (true, "5d94b8f5cc6b6f4b0ed62999e4c5a2c2cdf67255f9aee76b178921746e7ad227"), looks := false }, kinds := [], alts := [], laidByText := true, laidKinds := [.data, .data], laidTests := true, laidLooks := .later }
def RunesSetsCardSaid : Prop := Claim7.holds Tryd.pinned (.plain (OpenSpec.ofChange runesSetsSpec)) runesSetsCard

/-- THE TIED CARD OF 'heronlaw01.RunesOne'. -/
def runesOneCard : Claim7 := { stood := { row := runesOneRow, standIns := [], harness := (true, "5d94b8f5cc6b6f4b0ed62999e4c5a2c2cdf67255f9aee76b178921746e7ad227"), looks := false }, kinds := [], alts := [], laidByText := true, laidKinds := [.data, .data], laidTests := true, laidLooks := .later }
def RunesOneCardSaid : Prop := Claim7.holds Tryd.pinned (.plain (OpenSpec.ofChange runesOneSpec)) runesOneCard

/-- THE SECOND FORM's CARD OF 'heronlaw01.RunesSets'. -/
def runesSetsUptoCard : Claim7 := { stood := { row := runesSetsUptoRow, standIns := [], harness := (true, "5d94b8f5cc6b6f4b0ed62999e4c5a2c2cdf67255f9aee76b178921746e7ad227"), looks := false }, kinds := [], alts := [], laidByText := true, laidKinds := [.data, .data], laidTests := true, laidLooks := .later }
def RunesSetsUptoCardSaid : Prop := Claim7.holds Tryd.pinned (.plain (OpenSpec.upto runesSetsSpec)) runesSetsUptoCard

/-- THE SECOND FORM's CARD OF 'heronlaw01.RunesOne'. -/
def runesOneUptoCard : Claim7 := { stood := { row := runesOneUptoRow, standIns := [], harness := (true, "5d94b8f5cc6b6f4b0ed62999e4c5a2c2cdf67255f9aee76b178921746e7ad227"), looks := false }, kinds := [], alts := [], laidByText := true, laidKinds := [.data, .data], laidTests := true, laidLooks := .later }
def RunesOneUptoCardSaid : Prop := Claim7.holds Tryd.pinned (.plain (OpenSpec.upto runesOneSpec)) runesOneUptoCard
end Rows
end Go.Proofs.YtjglehklfdhgaabDoor
