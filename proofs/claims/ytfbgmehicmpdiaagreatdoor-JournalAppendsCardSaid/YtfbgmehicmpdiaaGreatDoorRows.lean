/-
  NARROWER THAN 'FOR EVERY INPUT', by the rows' own cells (each row's printed sentence says how): JournalStart: laid · JournalAppends: laid · JournalNil: laid.
  DERIVED. THE GIVEN ROWS OF THIS SEAT. 3 by the template 'for every input the law returns true; each argument reads behind the call as it read before'; 0 by the template 'total and deterministic' (their statements: YtfbgmehicmpdiaaGreatDoorTotals.lean).
  GIVEN WITH THE SEED: the statements are not yours to turn. If you find one false, say at which input.
  Laid BY PROGRAM, IN A SANDBOX (cutbox-rows.mjs): the forced cells as the released guide's own fill.sh prints them over the translation 3173e82f9bb8e66d… (all of the seat's roots in one cut). By AI agents, Wed Nov 11 2026. No macro, syntax, notation, axiom, sorry.
-/
import Derived.Test.YtfbgmehicmpdiaaGreatDoorChecked
import GoSem.Claim
import GoSem.ClaimJoined
import GoSem.ClaimMapViews
import Derived.JoinedTies
import Derived.KernelRfl
namespace Go.Proofs.YtfbgmehicmpdiaaGreatDoor
/- THE CELL 'sum', in the pinned program and in every row, IS THE sha256 OF THE DUMP (.gsa) THAT YtfbgmehicmpdiaaGreatDoorProg.lean LOADS. Nothing in Lean hashes anything: it is a label: what it is worth is what the hold of that sum in a sandbox is worth. -/
noncomputable def Tryz.pinned : Pinned := { name := "ytfbgmehicmpdiaagreatdoor", sum := "3173e82f9bb8e66dfe6e459c69f1e1087e61fad8776595e621f545b28bb70326", checked := Tryz.checked }
namespace Rows
def none {H : Type} : Left H := { results := [], args := [] }

/- WHAT THE LISTED PACKAGE-LEVEL VARIABLES READ AS WHEN THE CALL BEGINS. Each datum BY PROGRAM (the guide's laid-datum.mjs) off the statement by which the dump's own 'gosem.cut.vars' lays the variable. In a bare row this is a premise. The card (YtfbgmehicmpdiaaGreatDoorCards.lean) ties it to the program's text. -/
def laid_tephra_crc_halves {H : Type} : DataW H := .agg [.lit (.int .u32 0), .lit (.int .u32 498536548), .lit (.int .u32 997073096), .lit (.int .u32 651767980), .lit (.int .u32 1994146192), .lit (.int .u32 1802195444), .lit (.int .u32 1303535960), .lit (.int .u32 1342533948), .lit (.int .u32 3988292384), .lit (.int .u32 4027552580), .lit (.int .u32 3604390888), .lit (.int .u32 3412177804), .lit (.int .u32 2607071920), .lit (.int .u32 2262029012), .lit (.int .u32 2685067896), .lit (.int .u32 3183342108)]

/-- 'tephralaw14.JournalStart': WHATEVER THE INPUT: true; the input reads as it did. -/
def journalStartSpec : ChangeSpec := { name := "journalStart", fn := fun _ => fun
  | [d1, d2, d3] => { results := [.lit (.bool true)], args := [d1, d2, d3] }
  | _ => none }
def journalStartRow : OpenClaim := { program := "ytfbgmehicmpdiaagreatdoor", sum := "3173e82f9bb8e66dfe6e459c69f1e1087e61fad8776595e621f545b28bb70326", func := "tephra/tephralaw14.JournalStart", spec := "journalStart", unfollowed := true, recurses := true, named := ["tephra/crc.halves"], apart := false, laid := [("tephra/crc.halves", laid_tephra_crc_halves)] }
def JournalStartSaid : Prop := journalStartRow.holds Tryz.pinned (OpenSpec.ofChange journalStartSpec)

/-- ITS FALSE NEIGHBOUR: 'it returns false'. Refute it at one input. -/
def journalStartWrong : ChangeSpec := { name := "journalStart", fn := fun _ => fun
  | [d1, d2, d3] => { results := [.lit (.bool false)], args := [d1, d2, d3] }
  | _ => none }
def JournalStartWrongFalsely : Prop := journalStartRow.holds Tryz.pinned (OpenSpec.ofChange journalStartWrong)

/-- 'tephralaw14.JournalAppends': WHATEVER THE INPUT: true; the input reads as it did. -/
def journalAppendsSpec : ChangeSpec := { name := "journalAppends", fn := fun _ => fun
  | [d1, d2, d3] => { results := [.lit (.bool true)], args := [d1, d2, d3] }
  | _ => none }
def journalAppendsRow : OpenClaim := { program := "ytfbgmehicmpdiaagreatdoor", sum := "3173e82f9bb8e66dfe6e459c69f1e1087e61fad8776595e621f545b28bb70326", func := "tephra/tephralaw14.JournalAppends", spec := "journalAppends", unfollowed := true, recurses := true, named := ["tephra/crc.halves"], apart := false, laid := [("tephra/crc.halves", laid_tephra_crc_halves)] }
def JournalAppendsSaid : Prop := journalAppendsRow.holds Tryz.pinned (OpenSpec.ofChange journalAppendsSpec)

/-- ITS FALSE NEIGHBOUR: 'it returns false'. Refute it at one input. -/
def journalAppendsWrong : ChangeSpec := { name := "journalAppends", fn := fun _ => fun
  | [d1, d2, d3] => { results := [.lit (.bool false)], args := [d1, d2, d3] }
  | _ => none }
def JournalAppendsWrongFalsely : Prop := journalAppendsRow.holds Tryz.pinned (OpenSpec.ofChange journalAppendsWrong)

/-- 'tephralaw14.JournalNil': WHATEVER THE INPUT: true; the input reads as it did. -/
def journalNilSpec : ChangeSpec := { name := "journalNil", fn := fun _ => fun
  | [d1, d2] => { results := [.lit (.bool true)], args := [d1, d2] }
  | _ => none }
def journalNilRow : OpenClaim := { program := "ytfbgmehicmpdiaagreatdoor", sum := "3173e82f9bb8e66dfe6e459c69f1e1087e61fad8776595e621f545b28bb70326", func := "tephra/tephralaw14.JournalNil", spec := "journalNil", unfollowed := true, recurses := true, named := ["tephra/crc.halves"], apart := false, laid := [("tephra/crc.halves", laid_tephra_crc_halves)] }
def JournalNilSaid : Prop := journalNilRow.holds Tryz.pinned (OpenSpec.ofChange journalNilSpec)

/-- ITS FALSE NEIGHBOUR: 'it returns false'. Refute it at one input. -/
def journalNilWrong : ChangeSpec := { name := "journalNil", fn := fun _ => fun
  | [d1, d2] => { results := [.lit (.bool false)], args := [d1, d2] }
  | _ => none }
def JournalNilWrongFalsely : Prop := journalNilRow.holds Tryz.pinned (OpenSpec.ofChange journalNilWrong)

/- THE SECOND FORM. 'bulk': how many values and letters a reading holds, each counted each time it is reached (what is shared counts as often as it is met; a slice's spare places count too). A statement '..UptoSaid' is the law's where the arguments, and the package variables that the reading takes, are together of bulk at most 1048576: NARROWER than '..Said'. Prove '..Said' where nothing that the law and all that it calls make is longer than what came in: it says more and counts as full. Else prove '..UptoSaid'. A law counts once. -/
mutual
def uptoBulk {H : Type} : DataW H → Nat
  | .lit (.string bytes) => bytes.length + 1
  | .lit _ => 1
  | .nil => 1
  | .ptr d => uptoBulk d + 1
  | .slice elems spare => uptoBulkAll elems + uptoBulkAll spare + 1
  | .agg parts => uptoBulkAll parts + 1
  | .iface _ d => uptoBulk d + 1
  | .map entries => uptoBulkEntries entries + 1
  | .held _ => 1
def uptoBulkAll {H : Type} : List (DataW H) → Nat
  | [] => 0
  | d :: r => uptoBulk d + uptoBulkAll r
def uptoBulkEntries {H : Type} : List (Lit × DataW H) → Nat
  | [] => 0
  | x :: r => uptoBulkEntry x + uptoBulkEntries r
def uptoBulkEntry {H : Type} : Lit × DataW H → Nat
  | (.string bytes, d) => bytes.length + uptoBulk d + 1
  | (_, d) => uptoBulk d + 1
 end
def uptoSmall : (H : Type) → List (DataW H) → Bool := fun _ ds => decide (uptoBulkAll ds ≤ 1048576)
def OpenSpec.upto (s : _root_.Go.ChangeSpec) : _root_.Go.OpenSpec := { _root_.Go.OpenSpec.ofChange s with cond := some uptoSmall }

/-- 'tephralaw14.JournalStart', WHERE WHAT IT READS IS OF BULK AT MOST 1048576: true; the input reads as it did. -/
def journalStartUptoRow : OpenClaim := { program := "ytfbgmehicmpdiaagreatdoor", sum := "3173e82f9bb8e66dfe6e459c69f1e1087e61fad8776595e621f545b28bb70326", func := "tephra/tephralaw14.JournalStart", spec := "journalStart", unfollowed := true, recurses := true, named := ["tephra/crc.halves"], apart := false, laid := [("tephra/crc.halves", laid_tephra_crc_halves)], narrowed := true }
def JournalStartUptoSaid : Prop := journalStartUptoRow.holds Tryz.pinned (OpenSpec.upto journalStartSpec)

/-- 'tephralaw14.JournalAppends', WHERE WHAT IT READS IS OF BULK AT MOST 1048576: true; the input reads as it did. -/
def journalAppendsUptoRow : OpenClaim := { program := "ytfbgmehicmpdiaagreatdoor", sum := "3173e82f9bb8e66dfe6e459c69f1e1087e61fad8776595e621f545b28bb70326", func := "tephra/tephralaw14.JournalAppends", spec := "journalAppends", unfollowed := true, recurses := true, named := ["tephra/crc.halves"], apart := false, laid := [("tephra/crc.halves", laid_tephra_crc_halves)], narrowed := true }
def JournalAppendsUptoSaid : Prop := journalAppendsUptoRow.holds Tryz.pinned (OpenSpec.upto journalAppendsSpec)

/-- 'tephralaw14.JournalNil', WHERE WHAT IT READS IS OF BULK AT MOST 1048576: true; the input reads as it did. -/
def journalNilUptoRow : OpenClaim := { program := "ytfbgmehicmpdiaagreatdoor", sum := "3173e82f9bb8e66dfe6e459c69f1e1087e61fad8776595e621f545b28bb70326", func := "tephra/tephralaw14.JournalNil", spec := "journalNil", unfollowed := true, recurses := true, named := ["tephra/crc.halves"], apart := false, laid := [("tephra/crc.halves", laid_tephra_crc_halves)], narrowed := true }
def JournalNilUptoSaid : Prop := journalNilUptoRow.holds Tryz.pinned (OpenSpec.upto journalNilSpec)

end Rows
end Go.Proofs.YtfbgmehicmpdiaaGreatDoor
