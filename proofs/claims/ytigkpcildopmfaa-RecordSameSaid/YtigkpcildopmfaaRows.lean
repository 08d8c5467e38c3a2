/-
  No cell of these rows narrows 'for every input' (looked for: loops, veiled, ifaces, maps, wideKeys, modest, calm, conditions, laid).
  DERIVED. THE GIVEN ROWS OF THIS SEAT. 3 by the template 'for every input the law returns true; each argument reads behind the call as it read before'; 0 by the template 'total and deterministic' (their statements: YtigkpcildopmfaaTotals.lean).
  GIVEN WITH THE SEED: the statements are not yours to turn. If you find one false, say at which input.
  Laid BY PROGRAM, IN A SANDBOX (cutbox-rows.mjs): the forced cells as the released guide's own fill.sh prints them over the translation 5970b30c542e7522… (all of the seat's roots in one cut). By AI agents, Wed Nov 11 2026. No macro, syntax, notation, axiom, sorry.
-/
import Derived.Test.YtigkpcildopmfaaChecked
import GoSem.Claim
import GoSem.ClaimJoined
import GoSem.ClaimMapViews
import Derived.JoinedTies
import Derived.KernelRfl
namespace Go.Proofs.Ytigkpcildopmfaa
/- THE CELL 'sum', in the pinned program and in every row, IS THE sha256 OF THE DUMP (.gsa) THAT YtigkpcildopmfaaProg.lean LOADS. Nothing in Lean hashes anything: it is a label: what it is worth is what the hold of that sum in a sandbox is worth. -/
noncomputable def Try.pinned : Pinned := { name := "ytigkpcildopmfaa", sum := "5970b30c542e7522e1b691467aa1ac58a1c2116a5a9b72355e567fff70aa0ea2", checked := Try.checked }
namespace Rows
def none {H : Type} : Left H := { results := [], args := [] }

/-- 'tephralaw08.RecordMay': WHATEVER THE INPUT: true; the input reads as it did. -/
def recordMaySpec : ChangeSpec := { name := "recordMay", fn := fun _ => fun
  | [d1, d2] => { results := [.lit (.bool true)], args := [d1, d2] }
  | _ => none }
def recordMayRow : OpenClaim := { program := "ytigkpcildopmfaa", sum := "5970b30c542e7522e1b691467aa1ac58a1c2116a5a9b72355e567fff70aa0ea2", func := "tephra/tephralaw08.RecordMay", spec := "recordMay", apart := false }
def RecordMaySaid : Prop := recordMayRow.holds Try.pinned (OpenSpec.ofChange recordMaySpec)

/-- ITS FALSE NEIGHBOUR: 'it returns false'. Refute it at one input. -/
def recordMayWrong : ChangeSpec := { name := "recordMay", fn := fun _ => fun
  | [d1, d2] => { results := [.lit (.bool false)], args := [d1, d2] }
  | _ => none }
def RecordMayWrongFalsely : Prop := recordMayRow.holds Try.pinned (OpenSpec.ofChange recordMayWrong)

/-- 'tephralaw08.RecordSame': WHATEVER THE INPUT: true; the input reads as it did. -/
def recordSameSpec : ChangeSpec := { name := "recordSame", fn := fun _ => fun
  | [d1, d2] => { results := [.lit (.bool true)], args := [d1, d2] }
  | _ => none }
def recordSameRow : OpenClaim := { program := "ytigkpcildopmfaa", sum := "5970b30c542e7522e1b691467aa1ac58a1c2116a5a9b72355e567fff70aa0ea2", func := "tephra/tephralaw08.RecordSame", spec := "recordSame", apart := false }
def RecordSameSaid : Prop := recordSameRow.holds Try.pinned (OpenSpec.ofChange recordSameSpec)

/-- ITS FALSE NEIGHBOUR: 'it returns false'. Refute it at one input. -/
def recordSameWrong : ChangeSpec := { name := "recordSame", fn := fun _ => fun
  | [d1, d2] => { results := [.lit (.bool false)], args := [d1, d2] }
  | _ => none }
def RecordSameWrongFalsely : Prop := recordSameRow.holds Try.pinned (OpenSpec.ofChange recordSameWrong)

/-- 'tephralaw08.RecordOnward': WHATEVER THE INPUT: true; the input reads as it did. -/
def recordOnwardSpec : ChangeSpec := { name := "recordOnward", fn := fun _ => fun
  | [d] => { results := [.lit (.bool true)], args := [d] }
  | _ => none }
def recordOnwardRow : OpenClaim := { program := "ytigkpcildopmfaa", sum := "5970b30c542e7522e1b691467aa1ac58a1c2116a5a9b72355e567fff70aa0ea2", func := "tephra/tephralaw08.RecordOnward", spec := "recordOnward", apart := false }
def RecordOnwardSaid : Prop := recordOnwardRow.holds Try.pinned (OpenSpec.ofChange recordOnwardSpec)

/-- ITS FALSE NEIGHBOUR: 'it returns false'. Refute it at one input. -/
def recordOnwardWrong : ChangeSpec := { name := "recordOnward", fn := fun _ => fun
  | [d] => { results := [.lit (.bool false)], args := [d] }
  | _ => none }
def RecordOnwardWrongFalsely : Prop := recordOnwardRow.holds Try.pinned (OpenSpec.ofChange recordOnwardWrong)

/- THE SECOND FORM. 'bulk': how many values and letters a reading holds, each counted each time it is reached (what is shared counts as often as it is met; a slice's spare places count too). A statement '..UptoSaid' is the law's where the arguments, and the package variables that the reading takes, are together of bulk at most 1048576: NARROWER than '..Said'. Prove '..Said' where nothing that the law and all that it calls make is longer than what came in: it says more and counts as full. Else prove '..UptoSaid'. A law counts once. -/
mutual
def uptoBulk {H : Type} : DataW H → Nat
  | .lit (.string bytes) => bytes.length + 1
  | .lit _ => 1
  | .nil => 1
  | .ptr d => uptoBulk d + 1
  | .slice elems spare => uptoBulkAll elems + uptoBulkAll spare + 1
  | .agg parts => uptoBulkAll parts + 1
  | .iface _ d => uptoBulk d + 1
  | .map entries => uptoBulkEntries entries + 1
  | .held _ => 1
def uptoBulkAll {H : Type} : List (DataW H) → Nat
  | [] => 0
  | d :: r => uptoBulk d + uptoBulkAll r
def uptoBulkEntries {H : Type} : List (Lit × DataW H) → Nat
  | [] => 0
  | x :: r => uptoBulkEntry x + uptoBulkEntries r
def uptoBulkEntry {H : Type} : Lit × DataW H → Nat
  | (.string bytes, d) => bytes.length + uptoBulk d + 1
  | (_, d) => uptoBulk d + 1
 end
def uptoSmall : (H : Type) → List (DataW H) → Bool := fun _ ds => decide (uptoBulkAll ds ≤ 1048576)
def OpenSpec.upto (s : _root_.Go.ChangeSpec) : _root_.Go.OpenSpec := { _root_.Go.OpenSpec.ofChange s with cond := some uptoSmall }

/-- 'tephralaw08.RecordMay', WHERE WHAT IT READS IS OF BULK AT MOST 1048576: true; the input reads as it did. -/
def recordMayUptoRow : OpenClaim := { program := "ytigkpcildopmfaa", sum := "5970b30c542e7522e1b691467aa1ac58a1c2116a5a9b72355e567fff70aa0ea2", func := "tephra/tephralaw08.RecordMay", spec := "recordMay", apart := false, narrowed := true }
def RecordMayUptoSaid : Prop := recordMayUptoRow.holds Try.pinned (OpenSpec.upto recordMaySpec)

/-- 'tephralaw08.RecordSame', WHERE WHAT IT READS IS OF BULK AT MOST 1048576: true; the input reads as it did. -/
def recordSameUptoRow : OpenClaim := { program := "ytigkpcildopmfaa", sum := "5970b30c542e7522e1b691467aa1ac58a1c2116a5a9b72355e567fff70aa0ea2", func := "tephra/tephralaw08.RecordSame", spec := "recordSame", apart := false, narrowed := true }
def RecordSameUptoSaid : Prop := recordSameUptoRow.holds Try.pinned (OpenSpec.upto recordSameSpec)

/-- 'tephralaw08.RecordOnward', WHERE WHAT IT READS IS OF BULK AT MOST 1048576: true; the input reads as it did. -/
def recordOnwardUptoRow : OpenClaim := { program := "ytigkpcildopmfaa", sum := "5970b30c542e7522e1b691467aa1ac58a1c2116a5a9b72355e567fff70aa0ea2", func := "tephra/tephralaw08.RecordOnward", spec := "recordOnward", apart := false, narrowed := true }
def RecordOnwardUptoSaid : Prop := recordOnwardUptoRow.holds Try.pinned (OpenSpec.upto recordOnwardSpec)

end Rows
end Go.Proofs.Ytigkpcildopmfaa
