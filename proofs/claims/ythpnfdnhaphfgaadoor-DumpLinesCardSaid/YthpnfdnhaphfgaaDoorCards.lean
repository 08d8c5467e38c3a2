/-
  DERIVED. GIVEN WITH THE SEED: THE CARDS: each row of YthpnfdnhaphfgaaDoorRows.lean that lists a variable, with what it lists TIED to the program's text (the seventh form; the later family's looks); each row that meets fmt, with fmt's text TOLD by the authors' own Lean function (tested against real Go, not proved from fmt's source: count such statements apart). THE CARD IS WHAT COUNTS. Prove the row's statement (the work); the ties are given (YthpnfdnhaphfgaaDoorTie.lean); close each card by the builder's one call (the guide's Derived/Test/ToyasCard.lean, 'card_holds'). Laid BY PROGRAM, IN A SANDBOX (cutbox-door.mjs). By AI agents, Wed Nov 11 2026. No macro, syntax, notation, axiom, sorry.
-/
import Derived.Test.YthpnfdnhaphfgaaDoorRows
import GoSem.ClaimSeven
namespace Go.Proofs.YthpnfdnhaphfgaaDoor
namespace Rows

/-- THE TIED CARD OF 'tephralaw19.DumpLines'. -/
def dumpLinesCard : Claim7 := { stood := { row := dumpLinesRow, standIns := [], harness := (true, "cf898201d8343a3fa18c9d28ed91c115c24dfe53c097c49600b6de2e79b2ed0c"), looks := false }, kinds := [], alts := [], laidByText := true, laidKinds := [.data, .data, .data, .data], laidTests := true, laidLooks := .later }
def DumpLinesCardSaid : Prop := Claim7.holds Tryd.pinned (.plain (OpenSpec.ofChange dumpLinesSpec)) dumpLinesCard

/-- THE TIED CARD OF 'tephralaw19.DumpTexts'. -/
def dumpTextsCard : Claim7 := { stood := { row := dumpTextsRow, standIns := [], harness := (true, "cf898201d8343a3fa18c9d28ed91c115c24dfe53c097c49600b6de2e79b2ed0c"), looks := false }, kinds := [], alts := [], laidByText := true, laidKinds := [.data, .data, .data, .data], laidTests := true, laidLooks := .later }
def DumpTextsCardSaid : Prop := Claim7.holds Tryd.pinned (.plain (OpenSpec.ofChange dumpTextsSpec)) dumpTextsCard

/-- THE TIED CARD OF 'tephralaw19.DumpSeals'. -/
def dumpSealsCard : Claim7 := { stood := { row := dumpSealsRow, standIns := [], harness := (true, "cf898201d8343a3fa18c9d28ed91c115c24dfe53c097c49600b6de2e79b2ed0c"), looks := false }, kinds := [], alts := [], laidByText := true, laidKinds := [.data, .data, .data, .data], laidTests := true, laidLooks := .later }
def DumpSealsCardSaid : Prop := Claim7.holds Tryd.pinned (.plain (OpenSpec.ofChange dumpSealsSpec)) dumpSealsCard

/-- THE TIED CARD OF 'tephralaw19.DumpOne'. -/
def dumpOneCard : Claim7 := { stood := { row := dumpOneRow, standIns := [], harness := (true, "cf898201d8343a3fa18c9d28ed91c115c24dfe53c097c49600b6de2e79b2ed0c"), looks := false }, kinds := [], alts := [], laidByText := true, laidKinds := [.data, .data, .data, .data], laidTests := true, laidLooks := .later }
def DumpOneCardSaid : Prop := Claim7.holds Tryd.pinned (.plain (OpenSpec.ofChange dumpOneSpec)) dumpOneCard

/-- THE SECOND FORM's CARD OF 'tephralaw19.DumpLines'. -/
def dumpLinesUptoCard : Claim7 := { stood := { row := dumpLinesUptoRow, standIns := [], harness := (true, "cf898201d8343a3fa18c9d28ed91c115c24dfe53c097c49600b6de2e79b2ed0c"), looks := false }, kinds := [], alts := [], laidByText := true, laidKinds := [.data, .data, .data, .data], laidTests := true, laidLooks := .later }
def DumpLinesUptoCardSaid : Prop := Claim7.holds Tryd.pinned (.plain (OpenSpec.upto dumpLinesSpec)) dumpLinesUptoCard

/-- THE SECOND FORM's CARD OF 'tephralaw19.DumpTexts'. -/
def dumpTextsUptoCard : Claim7 := { stood := { row := dumpTextsUptoRow, standIns := [], harness := (true, "cf898201d8343a3fa18c9d28ed91c115c24dfe53c097c49600b6de2e79b2ed0c"), looks := false }, kinds := [], alts := [], laidByText := true, laidKinds := [.data, .data, .data, .data], laidTests := true, laidLooks := .later }
def DumpTextsUptoCardSaid : Prop := Claim7.holds Tryd.pinned (.plain (OpenSpec.upto dumpTextsSpec)) dumpTextsUptoCard

/-- THE SECOND FORM's CARD OF 'tephralaw19.DumpSeals'. -/
def dumpSealsUptoCard : Claim7 := { stood := { row := dumpSealsUptoRow, standIns := [], harness := (true, "cf898201d8343a3fa18c9d28ed91c115c24dfe53c097c49600b6de2e79b2ed0c"), looks := false }, kinds := [], alts := [], laidByText := true, laidKinds := [.data, .data, .data, .data], laidTests := true, laidLooks := .later }
def DumpSealsUptoCardSaid : Prop := Claim7.holds Tryd.pinned (.plain (OpenSpec.upto dumpSealsSpec)) dumpSealsUptoCard

/-- THE SECOND FORM's CARD OF 'tephralaw19.DumpOne'. -/
def dumpOneUptoCard : Claim7 := { stood := { row := dumpOneUptoRow, standIns := [], harness := (true, "cf898201d8343a3fa18c9d28ed91c115c24dfe53c097c49600b6de2e79b2ed0c"), looks := false }, kinds := [], alts := [], laidByText := true, laidKinds := [.data, .data, .data, .data], laidTests := true, laidLooks := .later }
def DumpOneUptoCardSaid : Prop := Claim7.holds Tryd.pinned (.plain (OpenSpec.upto dumpOneSpec)) dumpOneUptoCard
end Rows
end Go.Proofs.YthpnfdnhaphfgaaDoor
