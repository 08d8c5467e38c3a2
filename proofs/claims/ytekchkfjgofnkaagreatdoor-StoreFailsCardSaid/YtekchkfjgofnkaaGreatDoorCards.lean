/-
  DERIVED. GIVEN WITH THE SEED: THE CARDS: each row of YtekchkfjgofnkaaGreatDoorRows.lean that lists a variable, with what it lists TIED to the program's text (the seventh form; the later family's looks); each row that meets fmt, with fmt's text TOLD by the authors' own Lean function (tested against real Go, not proved from fmt's source: count such statements apart). THE CARD IS WHAT COUNTS. Prove the row's statement (the work); the ties are given (YtekchkfjgofnkaaGreatDoorTie.lean); close each card by the builder's one call (the guide's Derived/Test/ToyasCard.lean, 'card_holds'). Laid BY PROGRAM, IN A SANDBOX (cutbox-door.mjs). By AI agents, Wed Nov 11 2026. No macro, syntax, notation, axiom, sorry.
-/
import Derived.Test.YtekchkfjgofnkaaGreatDoorRows
import GoSem.ClaimSeven
namespace Go.Proofs.YtekchkfjgofnkaaGreatDoor
namespace Rows

/-- THE TIED CARD OF 'tephralaw15.StoreKept'. -/
def storeKeptCard : Claim7 := { stood := { row := storeKeptRow, standIns := [], harness := (true, "271901522340dc163e3f5c64e613867a9ecee15f7c5645939750a5a6dd8fff2f"), looks := false }, kinds := [], alts := [], laidByText := true, laidKinds := [.data], laidTests := true, laidLooks := .later }
def StoreKeptCardSaid : Prop := Claim7.holds Tryz.pinned (.plain (OpenSpec.ofChange storeKeptSpec)) storeKeptCard

/-- THE TIED CARD OF 'tephralaw15.StoreFails'. -/
def storeFailsCard : Claim7 := { stood := { row := storeFailsRow, standIns := [], harness := (true, "271901522340dc163e3f5c64e613867a9ecee15f7c5645939750a5a6dd8fff2f"), looks := false }, kinds := [], alts := [], laidByText := true, laidKinds := [.data], laidTests := true, laidLooks := .later }
def StoreFailsCardSaid : Prop := Claim7.holds Tryz.pinned (.plain (OpenSpec.ofChange storeFailsSpec)) storeFailsCard

/-- THE SECOND FORM's CARD OF 'tephralaw15.StoreKept'. -/
def storeKeptUptoCard : Claim7 := { stood := { row := storeKeptUptoRow, standIns := [], harness := (true, "271901522340dc163e3f5c64e613867a9ecee15f7c5645939750a5a6dd8fff2f"), looks := false }, kinds := [], alts := [], laidByText := true, laidKinds := [.data], laidTests := true, laidLooks := .later }
def StoreKeptUptoCardSaid : Prop := Claim7.holds Tryz.pinned (.plain (OpenSpec.upto storeKeptSpec)) storeKeptUptoCard

/-- THE SECOND FORM's CARD OF 'tephralaw15.StoreFails'. -/
def storeFailsUptoCard : Claim7 := { stood := { row := storeFailsUptoRow, standIns := [], harness := (true, "271901522340dc163e3f5c64e613867a9ecee15f7c5645939750a5a6dd8fff2f"), looks := false }, kinds := [], alts := [], laidByText := true, laidKinds := [.data], laidTests := true, laidLooks := .later }
def StoreFailsUptoCardSaid : Prop := Claim7.holds Tryz.pinned (.plain (OpenSpec.upto storeFailsSpec)) storeFailsUptoCard
end Rows
end Go.Proofs.YtekchkfjgofnkaaGreatDoor
