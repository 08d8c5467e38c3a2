/-
  DERIVED. GIVEN WITH THE SEED: THE CARDS: each row of YtoclafdidjpndaaDoorRows.lean that lists a variable, with what it lists TIED to the program's text (the seventh form; the later family's looks); each row that meets fmt, with fmt's text TOLD by the authors' own Lean function (tested against real Go, not proved from fmt's source: count such statements apart). THE CARD IS WHAT COUNTS. Prove the row's statement (the work); the ties are given (YtoclafdidjpndaaDoorTie.lean); close each card by the builder's one call (the guide's Derived/Test/ToyasCard.lean, 'card_holds'). Laid BY PROGRAM, IN A SANDBOX (cutbox-door.mjs). By AI agents, Wed Nov 11 2026. No macro, syntax, notation, axiom, sorry.
-/
import Derived.Test.YtoclafdidjpndaaDoorRows
import GoSem.ClaimSeven
namespace Go.Proofs.YtoclafdidjpndaaDoor
namespace Rows

/-- THE TIED CARD OF 'tephralaw10.CodecCuts'. -/
def codecCutsCard : Claim7 := { stood := { row := codecCutsRow, standIns := [], harness := (true, "9a6016e1d1577e1f1abc9860b02ac065a6efdc7ca6aad217a3bc78b841d5b91b"), looks := false }, kinds := [], alts := [], laidByText := true, laidKinds := [.data], laidTests := true, laidLooks := .later }
def CodecCutsCardSaid : Prop := Claim7.holds Tryd.pinned (.plain (OpenSpec.ofChange codecCutsSpec)) codecCutsCard

/-- THE TIED CARD OF 'tephralaw10.CodecTold'. -/
def codecToldCard : Claim7 := { stood := { row := codecToldRow, standIns := [], harness := (true, "9a6016e1d1577e1f1abc9860b02ac065a6efdc7ca6aad217a3bc78b841d5b91b"), looks := false }, kinds := [], alts := [], laidByText := true, laidKinds := [.data], laidTests := true, laidLooks := .later }
def CodecToldCardSaid : Prop := Claim7.holds Tryd.pinned (.plain (OpenSpec.ofChange codecToldSpec)) codecToldCard

/-- THE SECOND FORM's CARD OF 'tephralaw10.CodecCuts'. -/
def codecCutsUptoCard : Claim7 := { stood := { row := codecCutsUptoRow, standIns := [], harness := (true, "9a6016e1d1577e1f1abc9860b02ac065a6efdc7ca6aad217a3bc78b841d5b91b"), looks := false }, kinds := [], alts := [], laidByText := true, laidKinds := [.data], laidTests := true, laidLooks := .later }
def CodecCutsUptoCardSaid : Prop := Claim7.holds Tryd.pinned (.plain (OpenSpec.upto codecCutsSpec)) codecCutsUptoCard

/-- THE SECOND FORM's CARD OF 'tephralaw10.CodecTold'. -/
def codecToldUptoCard : Claim7 := { stood := { row := codecToldUptoRow, standIns := [], harness := (true, "9a6016e1d1577e1f1abc9860b02ac065a6efdc7ca6aad217a3bc78b841d5b91b"), looks := false }, kinds := [], alts := [], laidByText := true, laidKinds := [.data], laidTests := true, laidLooks := .later }
def CodecToldUptoCardSaid : Prop := Claim7.holds Tryd.pinned (.plain (OpenSpec.upto codecToldSpec)) codecToldUptoCard
end Rows
end Go.Proofs.YtoclafdidjpndaaDoor
