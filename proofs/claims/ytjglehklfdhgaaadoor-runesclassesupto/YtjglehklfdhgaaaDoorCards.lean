/-
  DERIVED. GIVEN WITH THE SEED: THE CARDS: each row of YtjglehklfdhgaaaDoorRows.lean that lists a variable, with what it lists TIED to the program's text (the seventh form; the later family's looks); each row that meets fmt, with fmt's text TOLD by the authors' own Lean function (tested against real Go, not proved from fmt's source: count such statements apart). THE CARD IS WHAT COUNTS. Prove the row's statement (the work); the ties are given (YtjglehklfdhgaaaDoorTie.lean); close each card by the builder's one call (the guide's Derived/Test/ToyasCard.lean, 'card_holds'). Laid BY PROGRAM, IN A SANDBOX (cutbox-door.mjs). By AI agents, Wed Nov 11 2026. No macro, syntax, notation, axiom, sorry.
-/
import Derived.Test.YtjglehklfdhgaaaDoorRows
import GoSem.ClaimSeven
namespace Go.Proofs.YtjglehklfdhgaaaDoor
namespace Rows

/-- THE TIED CARD OF 'heronlaw01.RunesNames'. -/
def runesNamesCard : Claim7 := { stood := { row := runesNamesRow, standIns := [], harness := (true, "c3f1f30ba23c28876022ba35a0409d687caf42d5685fda60430872363a7c88de"), looks := false }, kinds := [], alts := [], laidByText := true, laidKinds := [.data, .data], laidTests := true, laidLooks := .later }
def RunesNamesCardSaid : Prop := Claim7.holds Tryd.pinned (.plain (OpenSpec.ofChange runesNamesSpec)) runesNamesCard

/-- THE TIED CARD OF 'heronlaw01.RunesCuts'. -/
def runesCutsCard : Claim7 := { stood := { row := runesCutsRow, standIns := [], harness := (true, "c3f1f30ba23c28876022ba35a0409d687caf42d5685fda60430872363a7c88de"), looks := false }, kinds := [], alts := [], laidByText := true, laidKinds := [.data, .data], laidTests := true, laidLooks := .later }
def RunesCutsCardSaid : Prop := Claim7.holds Tryd.pinned (.plain (OpenSpec.ofChange runesCutsSpec)) runesCutsCard

/-- THE TIED CARD OF 'heronlaw01.RunesEncodes'. -/
def runesEncodesCard : Claim7 := { stood := { row := runesEncodesRow, standIns := [], harness := (true, "c3f1f30ba23c28876022ba35a0409d687caf42d5685fda60430872363a7c88de"), looks := false }, kinds := [], alts := [], laidByText := true, laidKinds := [.data, .data], laidTests := true, laidLooks := .later }
def RunesEncodesCardSaid : Prop := Claim7.holds Tryd.pinned (.plain (OpenSpec.ofChange runesEncodesSpec)) runesEncodesCard

/-- THE TIED CARD OF 'heronlaw01.RunesClasses'. -/
def runesClassesCard : Claim7 := { stood := { row := runesClassesRow, standIns := [], harness := (true, "c3f1f30ba23c28876022ba35a0409d687caf42d5685fda60430872363a7c88de"), looks := false }, kinds := [], alts := [], laidByText := true, laidKinds := [.data, .data], laidTests := true, laidLooks := .later }
def RunesClassesCardSaid : Prop := Claim7.holds Tryd.pinned (.plain (OpenSpec.ofChange runesClassesSpec)) runesClassesCard

/-- THE TIED CARD OF 'heronlaw01.RunesBack'. -/
def runesBackCard : Claim7 := { stood := { row := runesBackRow, standIns := [], harness := (true, "c3f1f30ba23c28876022ba35a0409d687caf42d5685fda60430872363a7c88de"), looks := false }, kinds := [], alts := [], laidByText := true, laidKinds := [.data, .data], laidTests := true, laidLooks := .later }
def RunesBackCardSaid : Prop := Claim7.holds Tryd.pinned (.plain (OpenSpec.ofChange runesBackSpec)) runesBackCard

/-- THE TIED CARD OF 'heronlaw01.RunesPlaces'. -/
def runesPlacesCard : Claim7 := { stood := { row := runesPlacesRow, standIns := [], harness := (true, "c3f1f30ba23c28876022ba35a0409d687caf42d5685fda60430872363a7c88de"), looks := false }, kinds := [], alts := [], laidByText := true, laidKinds := [.data, .data], laidTests := true, laidLooks := .later }
def RunesPlacesCardSaid : Prop := Claim7.holds Tryd.pinned (.plain (OpenSpec.ofChange runesPlacesSpec)) runesPlacesCard

/-- THE SECOND FORM's CARD OF 'heronlaw01.RunesNames'. -/
def runesNamesUptoCard : Claim7 := { stood := { row := runesNamesUptoRow, standIns := [], harness := (true, "c3f1f30ba23c28876022ba35a0409d687caf42d5685fda60430872363a7c88de"), looks := false }, kinds := [], alts := [], laidByText := true, laidKinds := [.data, .data], laidTests := true, laidLooks := .later }
def RunesNamesUptoCardSaid : Prop := Claim7.holds Tryd.pinned (.plain (OpenSpec.upto runesNamesSpec)) runesNamesUptoCard

/-- THE SECOND FORM's CARD OF 'heronlaw01.RunesCuts'. -/
def runesCutsUptoCard : Claim7 := { stood := { row := runesCutsUptoRow, standIns := [], harness := (true, "c3f1f30ba23c28876022ba35a0409d687caf42d5685fda60430872363a7c88de"), looks := false }, kinds := [], alts := [], laidByText := true, laidKinds := [.data, .data], laidTests := true, laidLooks := .later }
def RunesCutsUptoCardSaid : Prop := Claim7.holds Tryd.pinned (.plain (OpenSpec.upto runesCutsSpec)) runesCutsUptoCard

/-- THE SECOND FORM's CARD OF 'heronlaw01.RunesEncodes'. -/
def runesEncodesUptoCard : Claim7 := { stood := { row := runesEncodesUptoRow, standIns := [], harness := (true, "c3f1f30ba23c28876022ba35a0409d687caf42d5685fda60430872363a7c88de"), looks := false }, kinds := [], alts := [], laidByText := true, laidKinds := [.data, .data], laidTests := true, laidLooks := .later }
def RunesEncodesUptoCardSaid : Prop := Claim7.holds Tryd.pinned (.plain (OpenSpec.upto runesEncodesSpec)) runesEncodesUptoCard

/-- THE SECOND FORM's CARD OF 'heronlaw01.RunesClasses'. -/
def runesClassesUptoCard : Claim7 := { stood := { row := runesClassesUptoRow, standIns := [], harness := (true, "c3f1f30ba23c28876022ba35a0409d687caf42d5685fda60430872363a7c88de"), looks := false }, kinds := [], alts := [], laidByText := true, laidKinds := [.data, .data], laidTests := true, laidLooks := .later }
def RunesClassesUptoCardSaid : Prop := Claim7.holds Tryd.pinned (.plain (OpenSpec.upto runesClassesSpec)) runesClassesUptoCard

/-- THE SECOND FORM's CARD OF 'heronlaw01.RunesBack'. -/
def runesBackUptoCard : Claim7 := { stood := { row := runesBackUptoRow, standIns := [], harness := (true, "c3f1f30ba23c28876022ba35a0409d687caf42d5685fda60430872363a7c88de"), looks := false }, kinds := [], alts := [], laidByText := true, laidKinds := [.data, .data], laidTests := true, laidLooks := .later }
def RunesBackUptoCardSaid : Prop := Claim7.holds Tryd.pinned (.plain (OpenSpec.upto runesBackSpec)) runesBackUptoCard

/-- THE SECOND FORM's CARD OF 'heronlaw01.RunesPlaces'. -/
def runesPlacesUptoCard : Claim7 := { stood := { row := runesPlacesUptoRow, standIns := [], harness := (true, "c3f1f30ba23c28876022ba35a0409d687caf42d5685fda60430872363a7c88de"), looks := false }, kinds := [], alts := [], laidByText := true, laidKinds := [.data, .data], laidTests := true, laidLooks := .later }
def RunesPlacesUptoCardSaid : Prop := Claim7.holds Tryd.pinned (.plain (OpenSpec.upto runesPlacesSpec)) runesPlacesUptoCard
end Rows
end Go.Proofs.YtjglehklfdhgaaaDoor
