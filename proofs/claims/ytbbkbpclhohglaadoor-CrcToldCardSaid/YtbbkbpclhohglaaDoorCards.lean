/-
  DERIVED. GIVEN WITH THE SEED: THE CARDS: each row of YtbbkbpclhohglaaDoorRows.lean that lists a variable, with what it lists TIED to the program's text (the seventh form; the later family's looks); each row that meets fmt, with fmt's text TOLD by the authors' own Lean function (tested against real Go, not proved from fmt's source: count such statements apart). THE CARD IS WHAT COUNTS. Prove the row's statement (the work); the ties are given (YtbbkbpclhohglaaDoorTie.lean); close each card by the builder's one call (the guide's Derived/Test/ToyasCard.lean, 'card_holds'). Laid BY PROGRAM, IN A SANDBOX (cutbox-door.mjs). By AI agents, Wed Nov 11 2026. No macro, syntax, notation, axiom, sorry.
-/
import Derived.Test.YtbbkbpclhohglaaDoorRows
import GoSem.ClaimSeven
namespace Go.Proofs.YtbbkbpclhohglaaDoor
namespace Rows

/-- THE TIED CARD OF 'tephralaw03.CrcSums'. -/
def crcSumsCard : Claim7 := { stood := { row := crcSumsRow, standIns := [], harness := (true, "3eba37e19c4948a8ce55a7abb47f470dd47faa5a5189194fb8e0af6fa0d6f05a"), looks := false }, kinds := [], alts := [], laidByText := true, laidKinds := [.data], laidTests := true, laidLooks := .later }
def CrcSumsCardSaid : Prop := Claim7.holds Tryd.pinned (.plain (OpenSpec.ofChange crcSumsSpec)) crcSumsCard

/-- THE TIED CARD OF 'tephralaw03.CrcBytes'. -/
def crcBytesCard : Claim7 := { stood := { row := crcBytesRow, standIns := [], harness := (true, "3eba37e19c4948a8ce55a7abb47f470dd47faa5a5189194fb8e0af6fa0d6f05a"), looks := false }, kinds := [], alts := [], laidByText := true, laidKinds := [.data], laidTests := true, laidLooks := .later }
def CrcBytesCardSaid : Prop := Claim7.holds Tryd.pinned (.plain (OpenSpec.ofChange crcBytesSpec)) crcBytesCard

/-- THE TIED CARD OF 'tephralaw03.CrcTold'. -/
def crcToldCard : Claim7 := { stood := { row := crcToldRow, standIns := [], harness := (true, "3eba37e19c4948a8ce55a7abb47f470dd47faa5a5189194fb8e0af6fa0d6f05a"), looks := false }, kinds := [], alts := [], laidByText := true, laidKinds := [.data], laidTests := true, laidLooks := .later }
def CrcToldCardSaid : Prop := Claim7.holds Tryd.pinned (.plain (OpenSpec.ofChange crcToldSpec)) crcToldCard

/-- THE TIED CARD OF 'tephralaw03.CrcLine'. -/
def crcLineCard : Claim7 := { stood := { row := crcLineRow, standIns := [], harness := (true, "3eba37e19c4948a8ce55a7abb47f470dd47faa5a5189194fb8e0af6fa0d6f05a"), looks := false }, kinds := [], alts := [], laidByText := true, laidKinds := [.data], laidTests := true, laidLooks := .later }
def CrcLineCardSaid : Prop := Claim7.holds Tryd.pinned (.plain (OpenSpec.ofChange crcLineSpec)) crcLineCard

/-- THE SECOND FORM's CARD OF 'tephralaw03.CrcSums'. -/
def crcSumsUptoCard : Claim7 := { stood := { row := crcSumsUptoRow, standIns := [], harness := (true, "3eba37e19c4948a8ce55a7abb47f470dd47faa5a5189194fb8e0af6fa0d6f05a"), looks := false }, kinds := [], alts := [], laidByText := true, laidKinds := [.data], laidTests := true, laidLooks := .later }
def CrcSumsUptoCardSaid : Prop := Claim7.holds Tryd.pinned (.plain (OpenSpec.upto crcSumsSpec)) crcSumsUptoCard

/-- THE SECOND FORM's CARD OF 'tephralaw03.CrcBytes'. -/
def crcBytesUptoCard : Claim7 := { stood := { row := crcBytesUptoRow, standIns := [], harness := (true, "3eba37e19c4948a8ce55a7abb47f470dd47faa5a5189194fb8e0af6fa0d6f05a"), looks := false }, kinds := [], alts := [], laidByText := true, laidKinds := [.data], laidTests := true, laidLooks := .later }
def CrcBytesUptoCardSaid : Prop := Claim7.holds Tryd.pinned (.plain (OpenSpec.upto crcBytesSpec)) crcBytesUptoCard

/-- THE SECOND FORM's CARD OF 'tephralaw03.CrcTold'. -/
def crcToldUptoCard : Claim7 := { stood := { row := crcToldUptoRow, standIns := [], harness := (true, "3eba37e19c4948a8ce55a7abb47f470dd47faa5a5189194fb8e0af6fa0d6f05a"), looks := false }, kinds := [], alts := [], laidByText := true, laidKinds := [.data], laidTests := true, laidLooks := .later }
def CrcToldUptoCardSaid : Prop := Claim7.holds Tryd.pinned (.plain (OpenSpec.upto crcToldSpec)) crcToldUptoCard

/-- THE SECOND FORM's CARD OF 'tephralaw03.CrcLine'. -/
def crcLineUptoCard : Claim7 := { stood := { row := crcLineUptoRow, standIns := [], harness := (true, "3eba37e19c4948a8ce55a7abb47f470dd47faa5a5189194fb8e0af6fa0d6f05a"), looks := false }, kinds := [], alts := [], laidByText := true, laidKinds := [.data], laidTests := true, laidLooks := .later }
def CrcLineUptoCardSaid : Prop := Claim7.holds Tryd.pinned (.plain (OpenSpec.upto crcLineSpec)) crcLineUptoCard
end Rows
end Go.Proofs.YtbbkbpclhohglaaDoor
