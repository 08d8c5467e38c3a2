/-
  DERIVED. GIVEN WITH THE SEED: THE CARDS: each row of YtoanmbhnhofoiaaDoorRows.lean that lists a variable, with what it lists TIED to the program's text (the seventh form; the later family's looks); each row that meets fmt, with fmt's text TOLD by the authors' own Lean function (tested against real Go, not proved from fmt's source: count such statements apart). THE CARD IS WHAT COUNTS. Prove the row's statement (the work); the ties are given (YtoanmbhnhofoiaaDoorTie.lean); close each card by the builder's one call (the guide's Derived/Test/ToyasCard.lean, 'card_holds'). Laid BY PROGRAM, IN A SANDBOX (cutbox-door.mjs). By AI agents, Wed Nov 11 2026. No macro, syntax, notation, axiom, sorry.
-/
import Derived.Test.YtoanmbhnhofoiaaDoorRows
import GoSem.ClaimSeven
namespace Go.Proofs.YtoanmbhnhofoiaaDoor
namespace Rows

/-- THE TIED CARD OF 'tephralaw06.FrameHeads'. -/
def frameHeadsCard : Claim7 := { stood := { row := frameHeadsRow, standIns := [], harness := (true, "6e51ba42f3da4315aad1e659fbb4a1ad644520628379df5002b4435083ddfad9"), looks := false }, kinds := [], alts := [], laidByText := true, laidKinds := [.data], laidTests := true, laidLooks := .later }
def FrameHeadsCardSaid : Prop := Claim7.holds Tryd.pinned (.plain (OpenSpec.ofChange frameHeadsSpec)) frameHeadsCard

/-- THE TIED CARD OF 'tephralaw06.FramePuts'. -/
def framePutsCard : Claim7 := { stood := { row := framePutsRow, standIns := [], harness := (true, "6e51ba42f3da4315aad1e659fbb4a1ad644520628379df5002b4435083ddfad9"), looks := false }, kinds := [], alts := [], laidByText := true, laidKinds := [.data], laidTests := true, laidLooks := .later }
def FramePutsCardSaid : Prop := Claim7.holds Tryd.pinned (.plain (OpenSpec.ofChange framePutsSpec)) framePutsCard

/-- THE TIED CARD OF 'tephralaw06.FrameGets'. -/
def frameGetsCard : Claim7 := { stood := { row := frameGetsRow, standIns := [], harness := (true, "6e51ba42f3da4315aad1e659fbb4a1ad644520628379df5002b4435083ddfad9"), looks := false }, kinds := [], alts := [], laidByText := true, laidKinds := [.data], laidTests := true, laidLooks := .later }
def FrameGetsCardSaid : Prop := Claim7.holds Tryd.pinned (.plain (OpenSpec.ofChange frameGetsSpec)) frameGetsCard

/-- THE TIED CARD OF 'tephralaw06.FrameCuts'. -/
def frameCutsCard : Claim7 := { stood := { row := frameCutsRow, standIns := [], harness := (true, "6e51ba42f3da4315aad1e659fbb4a1ad644520628379df5002b4435083ddfad9"), looks := false }, kinds := [], alts := [], laidByText := true, laidKinds := [.data], laidTests := true, laidLooks := .later }
def FrameCutsCardSaid : Prop := Claim7.holds Tryd.pinned (.plain (OpenSpec.ofChange frameCutsSpec)) frameCutsCard

/-- THE TIED CARD OF 'tephralaw06.FrameTold'. -/
def frameToldCard : Claim7 := { stood := { row := frameToldRow, standIns := [], harness := (true, "6e51ba42f3da4315aad1e659fbb4a1ad644520628379df5002b4435083ddfad9"), looks := false }, kinds := [], alts := [], laidByText := true, laidKinds := [.data], laidTests := true, laidLooks := .later }
def FrameToldCardSaid : Prop := Claim7.holds Tryd.pinned (.plain (OpenSpec.ofChange frameToldSpec)) frameToldCard

/-- THE SECOND FORM's CARD OF 'tephralaw06.FrameHeads'. -/
def frameHeadsUptoCard : Claim7 := { stood := { row := frameHeadsUptoRow, standIns := [], harness := (true, "6e51ba42f3da4315aad1e659fbb4a1ad644520628379df5002b4435083ddfad9"), looks := false }, kinds := [], alts := [], laidByText := true, laidKinds := [.data], laidTests := true, laidLooks := .later }
def FrameHeadsUptoCardSaid : Prop := Claim7.holds Tryd.pinned (.plain (OpenSpec.upto frameHeadsSpec)) frameHeadsUptoCard

/-- THE SECOND FORM's CARD OF 'tephralaw06.FramePuts'. -/
def framePutsUptoCard : Claim7 := { stood := { row := framePutsUptoRow, standIns := [], harness := (true, "6e51ba42f3da4315aad1e659fbb4a1ad644520628379df5002b4435083ddfad9"), looks := false }, kinds := [], alts := [], laidByText := true, laidKinds := [.data], laidTests := true, laidLooks := .later }
def FramePutsUptoCardSaid : Prop := Claim7.holds Tryd.pinned (.plain (OpenSpec.upto framePutsSpec)) framePutsUptoCard

/-- THE SECOND FORM's CARD OF 'tephralaw06.FrameGets'. -/
def frameGetsUptoCard : Claim7 := { stood := { row := frameGetsUptoRow, standIns := [], harness := (true, "6e51ba42f3da4315aad1e659fbb4a1ad644520628379df5002b4435083ddfad9"), looks := false }, kinds := [], alts := [], laidByText := true, laidKinds := [.data], laidTests := true, laidLooks := .later }
def FrameGetsUptoCardSaid : Prop := Claim7.holds Tryd.pinned (.plain (OpenSpec.upto frameGetsSpec)) frameGetsUptoCard

/-- THE SECOND FORM's CARD OF 'tephralaw06.FrameCuts'. -/
def frameCutsUptoCard : Claim7 := { stood := { row := frameCutsUptoRow, standIns := [], harness := (true, "6e51ba42f3da4315aad1e659fbb4a1ad644520628379df5002b4435083ddfad9"), looks := false }, kinds := [], alts := [], laidByText := true, laidKinds := [.data], laidTests := true, laidLooks := .later }
def FrameCutsUptoCardSaid : Prop := Claim7.holds Tryd.pinned (.plain (OpenSpec.upto frameCutsSpec)) frameCutsUptoCard

/-- THE SECOND FORM's CARD OF 'tephralaw06.FrameTold'. -/
def frameToldUptoCard : Claim7 := { stood := { row := frameToldUptoRow, standIns := [], harness := (true, "6e51ba42f3da4315aad1e659fbb4a1ad644520628379df5002b4435083ddfad9"), looks := false }, kinds := [], alts := [], laidByText := true, laidKinds := [.data], laidTests := true, laidLooks := .later }
def FrameToldUptoCardSaid : Prop := Claim7.holds Tryd.pinned (.plain (OpenSpec.upto frameToldSpec)) frameToldUptoCard
end Rows
end Go.Proofs.YtoanmbhnhofoiaaDoor
