/-
  DERIVED. GIVEN WITH THE SEED: THE CARDS: each row of YtfbgmehicmpdiaaGreatDoorRows.lean that lists a variable, with what it lists TIED to the program's text (the seventh form; the later family's looks); each row that meets fmt, with fmt's text TOLD by the authors' own Lean function (tested against real Go, not proved from fmt's source: count such statements apart). THE CARD IS WHAT COUNTS. Prove the row's statement (the work); the ties are given (YtfbgmehicmpdiaaGreatDoorTie.lean); close each card by the builder's one call (the guide's Derived/Test/ToyasCard.lean, 'card_holds'). Laid BY PROGRAM, IN A SANDBOX (cutbox-door.mjs). By AI agents, Wed Nov 11 2026. No macro, syntax, notation, axiom, sorry.
-/
import Derived.Test.YtfbgmehicmpdiaaGreatDoorRows
import GoSem.ClaimSeven
namespace Go.Proofs.YtfbgmehicmpdiaaGreatDoor
namespace Rows

/-- THE TIED CARD OF 'tephralaw14.JournalStart'. -/
def journalStartCard : Claim7 := { stood := { row := journalStartRow, standIns := [], harness := (true, "6f9d4387a36780841cd82ada7c683697cbd76a00aae05bcc1af83e0c9bf335f8"), looks := false }, kinds := [], alts := [], laidByText := true, laidKinds := [.data], laidTests := true, laidLooks := .later }
def JournalStartCardSaid : Prop := Claim7.holds Tryz.pinned (.plain (OpenSpec.ofChange journalStartSpec)) journalStartCard

/-- THE TIED CARD OF 'tephralaw14.JournalAppends'. -/
def journalAppendsCard : Claim7 := { stood := { row := journalAppendsRow, standIns := [], harness := (true, "6f9d4387a36780841cd82ada7c683697cbd76a00aae05bcc1af83e0c9bf335f8"), looks := false }, kinds := [], alts := [], laidByText := true, laidKinds := [.data], laidTests := true, laidLooks := .later }
def JournalAppendsCardSaid : Prop := Claim7.holds Tryz.pinned (.plain (OpenSpec.ofChange journalAppendsSpec)) journalAppendsCard

/-- THE TIED CARD OF 'tephralaw14.JournalNil'. -/
def journalNilCard : Claim7 := { stood := { row := journalNilRow, standIns := [], harness := (true, "6f9d4387a36780841cd82ada7c683697cbd76a00aae05bcc1af83e0c9bf335f8"), looks := false }, kinds := [], alts := [], laidByText := true, laidKinds := [.data], laidTests := true, laidLooks := .later }
def JournalNilCardSaid : Prop := Claim7.holds Tryz.pinned (.plain (OpenSpec.ofChange journalNilSpec)) journalNilCard

/-- THE SECOND FORM's CARD OF 'tephralaw14.JournalStart'. -/
def journalStartUptoCard : Claim7 := { stood := { row := journalStartUptoRow, standIns := [], harness := (true, "6f9d4387a36780841cd82ada7c683697cbd76a00aae05bcc1af83e0c9bf335f8"), looks := false }, kinds := [], alts := [], laidByText := true, laidKinds := [.data], laidTests := true, laidLooks := .later }
def JournalStartUptoCardSaid : Prop := Claim7.holds Tryz.pinned (.plain (OpenSpec.upto journalStartSpec)) journalStartUptoCard

/-- THE SECOND FORM's CARD OF 'tephralaw14.JournalAppends'. -/
def journalAppendsUptoCard : Claim7 := { stood := { row := journalAppendsUptoRow, standIns := [], harness := (true, "6f9d4387a36780841cd82ada7c683697cbd76a00aae05bcc1af83e0c9bf335f8"), looks := false }, kinds := [], alts := [], laidByText := true, laidKinds := [.data], laidTests := true, laidLooks := .later }
def JournalAppendsUptoCardSaid : Prop := Claim7.holds Tryz.pinned (.plain (OpenSpec.upto journalAppendsSpec)) journalAppendsUptoCard

/-- THE SECOND FORM's CARD OF 'tephralaw14.JournalNil'. -/
def journalNilUptoCard : Claim7 := { stood := { row := journalNilUptoRow, standIns := [], harness := (true, "6f9d4387a36780841cd82ada7c683697cbd76a00aae05bcc1af83e0c9bf335f8"), looks := false }, kinds := [], alts := [], laidByText := true, laidKinds := [.data], laidTests := true, laidLooks := .later }
def JournalNilUptoCardSaid : Prop := Claim7.holds Tryz.pinned (.plain (OpenSpec.upto journalNilSpec)) journalNilUptoCard
end Rows
end Go.Proofs.YtfbgmehicmpdiaaGreatDoor
