/-
  DERIVED. GIVEN WITH THE SEED: THE CARDS: each row of YtjjhbcijonjlhaaDoorRows.lean that lists a variable, with what it lists TIED to the program's text (the seventh form; the later family's looks); each row that meets fmt, with fmt's text TOLD by the authors' own Lean function (tested against real Go, not proved from fmt's source: count such statements apart). THE CARD IS WHAT COUNTS. Prove the row's statement (the work); the ties are given (YtjjhbcijonjlhaaDoorTie.lean); close each card by the builder's one call (the guide's Derived/Test/ToyasCard.lean, 'card_holds'). Laid BY PROGRAM, IN A SANDBOX (cutbox-door.mjs). By AI agents, Wed Nov 11 2026. No macro, syntax, notation, axiom, sorry.
-/
import Derived.Test.YtjjhbcijonjlhaaDoorRows
import GoSem.ClaimSeven
namespace Go.Proofs.YtjjhbcijonjlhaaDoor
namespace Rows

/-- THE TIED CARD OF 'tephralaw18.EscapeWords'. -/
def escapeWordsCard : Claim7 := { stood := { row := escapeWordsRow, standIns := [], harness := (true, "98273952a47b49ecd7dc8e101b3d87ebf4f6a1980560892f54955b026ba9d9c0"), looks := false }, kinds := [], alts := [], laidByText := true, laidKinds := [.data, .pinned], laidTests := true, laidLooks := .later }
def EscapeWordsCardSaid : Prop := Claim7.holds Tryd.pinned (.plain (OpenSpec.ofChange escapeWordsSpec)) escapeWordsCard

/-- THE SECOND FORM's CARD OF 'tephralaw18.EscapeWords'. -/
def escapeWordsUptoCard : Claim7 := { stood := { row := escapeWordsUptoRow, standIns := [], harness := (true, "98273952a47b49ecd7dc8e101b3d87ebf4f6a1980560892f54955b026ba9d9c0"), looks := false }, kinds := [], alts := [], laidByText := true, laidKinds := [.data, .pinned], laidTests := true, laidLooks := .later }
def EscapeWordsUptoCardSaid : Prop := Claim7.holds Tryd.pinned (.plain (OpenSpec.upto escapeWordsSpec)) escapeWordsUptoCard
end Rows
end Go.Proofs.YtjjhbcijonjlhaaDoor
