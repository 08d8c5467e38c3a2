/-
  DERIVED. GIVEN WITH THE SEED: THE CARDS: each row of YtgoklhoaedceaaaGreatDoorRows.lean that lists a variable, with what it lists TIED to the program's text (the seventh form; the later family's looks); each row that meets fmt, with fmt's text TOLD by the authors' own Lean function (tested against real Go, not proved from fmt's source: count such statements apart). THE CARD IS WHAT COUNTS. Prove the row's statement (the work); the ties are given (YtgoklhoaedceaaaGreatDoorTie.lean); close each card by the builder's one call (the guide's Derived/Test/ToyasCard.lean, 'card_holds'). Laid BY PROGRAM, IN A SANDBOX (cutbox-door.mjs). By AI agents, Wed Nov 11 2026. No macro, syntax, notation, axiom, sorry.
-/
import Derived.Test.YtgoklhoaedceaaaGreatDoorRows
import GoSem.ClaimSeven
namespace Go.Proofs.YtgoklhoaedceaaaGreatDoor
namespace Rows

/-- THE TIED CARD OF 'tephralaw20.LoadTexts'. -/
def loadTextsCard : Claim7 := { stood := { row := loadTextsRow, standIns := [], harness := (true, "112ad917026684adf389e8166b78b178d13d38b18401f89acb71f010eaaca374"), looks := true }, kinds := [], alts := [], laidByText := true, laidKinds := [.data, .data, .data, .data, .data, .sentinel, .sentinel, .pinned], laidTests := true, laidLooks := .later }
def LoadTextsCardSaid : Prop := Claim7.holds Tryz.pinned (.plain (OpenSpec.ofChange loadTextsSpec)) loadTextsCard

/-- THE TIED CARD OF 'tephralaw20.LoadSealed'. -/
def loadSealedCard : Claim7 := { stood := { row := loadSealedRow, standIns := [], harness := (true, "112ad917026684adf389e8166b78b178d13d38b18401f89acb71f010eaaca374"), looks := true }, kinds := [], alts := [], laidByText := true, laidKinds := [.data, .data, .data, .data, .data, .sentinel, .sentinel, .pinned], laidTests := true, laidLooks := .later }
def LoadSealedCardSaid : Prop := Claim7.holds Tryz.pinned (.plain (OpenSpec.ofChange loadSealedSpec)) loadSealedCard

/-- THE TIED CARD OF 'tephralaw20.LoadLines'. -/
def loadLinesCard : Claim7 := { stood := { row := loadLinesRow, standIns := [], harness := (true, "112ad917026684adf389e8166b78b178d13d38b18401f89acb71f010eaaca374"), looks := true }, kinds := [], alts := [], laidByText := true, laidKinds := [.data, .data, .data, .data, .data, .sentinel, .sentinel, .pinned], laidTests := true, laidLooks := .later }
def LoadLinesCardSaid : Prop := Claim7.holds Tryz.pinned (.plain (OpenSpec.ofChange loadLinesSpec)) loadLinesCard

/-- THE TIED CARD OF 'tephralaw20.LoadBack'. -/
def loadBackCard : Claim7 := { stood := { row := loadBackRow, standIns := [], harness := (true, "112ad917026684adf389e8166b78b178d13d38b18401f89acb71f010eaaca374"), looks := true }, kinds := [], alts := [], laidByText := true, laidKinds := [.data, .data, .data, .data, .data, .sentinel, .sentinel, .pinned], laidTests := true, laidLooks := .later }
def LoadBackCardSaid : Prop := Claim7.holds Tryz.pinned (.plain (OpenSpec.ofChange loadBackSpec)) loadBackCard

/-- THE SECOND FORM's CARD OF 'tephralaw20.LoadTexts'. -/
def loadTextsUptoCard : Claim7 := { stood := { row := loadTextsUptoRow, standIns := [], harness := (true, "112ad917026684adf389e8166b78b178d13d38b18401f89acb71f010eaaca374"), looks := true }, kinds := [], alts := [], laidByText := true, laidKinds := [.data, .data, .data, .data, .data, .sentinel, .sentinel, .pinned], laidTests := true, laidLooks := .later }
def LoadTextsUptoCardSaid : Prop := Claim7.holds Tryz.pinned (.plain (OpenSpec.upto loadTextsSpec)) loadTextsUptoCard

/-- THE SECOND FORM's CARD OF 'tephralaw20.LoadSealed'. -/
def loadSealedUptoCard : Claim7 := { stood := { row := loadSealedUptoRow, standIns := [], harness := (true, "112ad917026684adf389e8166b78b178d13d38b18401f89acb71f010eaaca374"), looks := true }, kinds := [], alts := [], laidByText := true, laidKinds := [.data, .data, .data, .data, .data, .sentinel, .sentinel, .pinned], laidTests := true, laidLooks := .later }
def LoadSealedUptoCardSaid : Prop := Claim7.holds Tryz.pinned (.plain (OpenSpec.upto loadSealedSpec)) loadSealedUptoCard

/-- THE SECOND FORM's CARD OF 'tephralaw20.LoadLines'. -/
def loadLinesUptoCard : Claim7 := { stood := { row := loadLinesUptoRow, standIns := [], harness := (true, "112ad917026684adf389e8166b78b178d13d38b18401f89acb71f010eaaca374"), looks := true }, kinds := [], alts := [], laidByText := true, laidKinds := [.data, .data, .data, .data, .data, .sentinel, .sentinel, .pinned], laidTests := true, laidLooks := .later }
def LoadLinesUptoCardSaid : Prop := Claim7.holds Tryz.pinned (.plain (OpenSpec.upto loadLinesSpec)) loadLinesUptoCard

/-- THE SECOND FORM's CARD OF 'tephralaw20.LoadBack'. -/
def loadBackUptoCard : Claim7 := { stood := { row := loadBackUptoRow, standIns := [], harness := (true, "112ad917026684adf389e8166b78b178d13d38b18401f89acb71f010eaaca374"), looks := true }, kinds := [], alts := [], laidByText := true, laidKinds := [.data, .data, .data, .data, .data, .sentinel, .sentinel, .pinned], laidTests := true, laidLooks := .later }
def LoadBackUptoCardSaid : Prop := Claim7.holds Tryz.pinned (.plain (OpenSpec.upto loadBackSpec)) loadBackUptoCard
end Rows
end Go.Proofs.YtgoklhoaedceaaaGreatDoor
