/-
  DERIVED. GIVEN WITH THE SEED: THE CARDS: each row of YtgioknppnfencaaDoorRows.lean that lists a variable, with what it lists TIED to the program's text (the seventh form; the later family's looks); each row that meets fmt, with fmt's text TOLD by the authors' own Lean function (tested against real Go, not proved from fmt's source: count such statements apart). THE CARD IS WHAT COUNTS. Prove the row's statement (the work); the ties are given (YtgioknppnfencaaDoorTie.lean); close each card by the builder's one call (the guide's Derived/Test/ToyasCard.lean, 'card_holds'). Laid BY PROGRAM, IN A SANDBOX (cutbox-door.mjs). By AI agents, Wed Nov 11 2026. No macro, syntax, notation, axiom, sorry.
-/
import Derived.Test.YtgioknppnfencaaDoorRows
import GoSem.ClaimSeven
namespace Go.Proofs.YtgioknppnfencaaDoor
namespace Rows

/-- THE TIED CARD OF 'tephralaw19.DumpTexts'. -/
def dumpTextsCard : Claim7 := { stood := { row := dumpTextsRow, standIns := [], harness := (true, "1f4cff022ae809fc84f0ff4f5da5186896200f6c18a764890590f3adad8465f5"), looks := false }, kinds := [], alts := [], laidByText := true, laidKinds := [.data, .data, .data, .data], laidTests := true, laidLooks := .later }
def DumpTextsCardSaid : Prop := Claim7.holds Tryd.pinned (.plain (OpenSpec.ofChange dumpTextsSpec)) dumpTextsCard

/-- THE TIED CARD OF 'tephralaw19.DumpOne'. -/
def dumpOneCard : Claim7 := { stood := { row := dumpOneRow, standIns := [], harness := (true, "1f4cff022ae809fc84f0ff4f5da5186896200f6c18a764890590f3adad8465f5"), looks := false }, kinds := [], alts := [], laidByText := true, laidKinds := [.data, .data, .data, .data], laidTests := true, laidLooks := .later }
def DumpOneCardSaid : Prop := Claim7.holds Tryd.pinned (.plain (OpenSpec.ofChange dumpOneSpec)) dumpOneCard

/-- THE SECOND FORM's CARD OF 'tephralaw19.DumpTexts'. -/
def dumpTextsUptoCard : Claim7 := { stood := { row := dumpTextsUptoRow, standIns := [], harness := (true, "1f4cff022ae809fc84f0ff4f5da5186896200f6c18a764890590f3adad8465f5"), looks := false }, kinds := [], alts := [], laidByText := true, laidKinds := [.data, .data, .data, .data], laidTests := true, laidLooks := .later }
def DumpTextsUptoCardSaid : Prop := Claim7.holds Tryd.pinned (.plain (OpenSpec.upto dumpTextsSpec)) dumpTextsUptoCard

/-- THE SECOND FORM's CARD OF 'tephralaw19.DumpOne'. -/
def dumpOneUptoCard : Claim7 := { stood := { row := dumpOneUptoRow, standIns := [], harness := (true, "1f4cff022ae809fc84f0ff4f5da5186896200f6c18a764890590f3adad8465f5"), looks := false }, kinds := [], alts := [], laidByText := true, laidKinds := [.data, .data, .data, .data], laidTests := true, laidLooks := .later }
def DumpOneUptoCardSaid : Prop := Claim7.holds Tryd.pinned (.plain (OpenSpec.upto dumpOneSpec)) dumpOneUptoCard
end Rows
end Go.Proofs.YtgioknppnfencaaDoor
