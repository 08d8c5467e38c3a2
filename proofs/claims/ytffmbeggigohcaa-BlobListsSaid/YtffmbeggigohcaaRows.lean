/-
  No cell of these rows narrows 'for every input' (looked for: loops, veiled, ifaces, maps, wideKeys, modest, calm, conditions, laid).
  DERIVED. THE GIVEN ROWS OF THIS SEAT. 4 by the template 'for every input the law returns true; each argument reads behind the call as it read before'; 0 by the template 'total and deterministic' (their statements: YtffmbeggigohcaaTotals.lean).
  GIVEN WITH THE SEED: the statements are not yours to turn. If you find one false, say at which input.
  Laid BY PROGRAM, IN A SANDBOX (cutbox-rows.mjs): the forced cells as the released guide's own fill.sh prints them over the translation 460621e4f54135e7… (all of the seat's roots in one cut). By AI agents, Wed Nov 11 2026. No macro, syntax, notation, axiom, sorry.
-/
import Derived.Test.YtffmbeggigohcaaChecked
import GoSem.Claim
import GoSem.ClaimJoined
import GoSem.ClaimMapViews
import Derived.JoinedTies
import Derived.KernelRfl
namespace Go.Proofs.Ytffmbeggigohcaa
/- THE CELL 'sum', in the pinned program and in every row, IS THE sha256 OF THE DUMP (.gsa) THAT YtffmbeggigohcaaProg.lean LOADS. Nothing in Lean hashes anything: it is a label: what it is worth is what the hold of that sum in a sandbox is worth. -/
noncomputable def Try.pinned : Pinned := { name := "ytffmbeggigohcaa", sum := "460621e4f54135e78d72edc04e1108919e8a72c037e2973ac6406f2ba4e965f9", checked := Try.checked }
namespace Rows
def none {H : Type} : Left H := { results := [], args := [] }

/-- 'tephralaw02.BlobPuts': WHATEVER THE INPUT: true; the input reads as it did. -/
def blobPutsSpec : ChangeSpec := { name := "blobPuts", fn := fun _ => fun
  | [d1, d2] => { results := [.lit (.bool true)], args := [d1, d2] }
  | _ => none }
def blobPutsRow : OpenClaim := { program := "ytffmbeggigohcaa", sum := "460621e4f54135e78d72edc04e1108919e8a72c037e2973ac6406f2ba4e965f9", func := "tephra/tephralaw02.BlobPuts", spec := "blobPuts", unfollowed := true, recurses := true, apart := false }
def BlobPutsSaid : Prop := blobPutsRow.holds Try.pinned (OpenSpec.ofChange blobPutsSpec)

/-- ITS FALSE NEIGHBOUR: 'it returns false'. Refute it at one input. -/
def blobPutsWrong : ChangeSpec := { name := "blobPuts", fn := fun _ => fun
  | [d1, d2] => { results := [.lit (.bool false)], args := [d1, d2] }
  | _ => none }
def BlobPutsWrongFalsely : Prop := blobPutsRow.holds Try.pinned (OpenSpec.ofChange blobPutsWrong)

/-- 'tephralaw02.BlobGets': WHATEVER THE INPUT: true; the input reads as it did. -/
def blobGetsSpec : ChangeSpec := { name := "blobGets", fn := fun _ => fun
  | [d1, d2, d3] => { results := [.lit (.bool true)], args := [d1, d2, d3] }
  | _ => none }
def blobGetsRow : OpenClaim := { program := "ytffmbeggigohcaa", sum := "460621e4f54135e78d72edc04e1108919e8a72c037e2973ac6406f2ba4e965f9", func := "tephra/tephralaw02.BlobGets", spec := "blobGets", unfollowed := true, recurses := true, apart := false }
def BlobGetsSaid : Prop := blobGetsRow.holds Try.pinned (OpenSpec.ofChange blobGetsSpec)

/-- ITS FALSE NEIGHBOUR: 'it returns false'. Refute it at one input. -/
def blobGetsWrong : ChangeSpec := { name := "blobGets", fn := fun _ => fun
  | [d1, d2, d3] => { results := [.lit (.bool false)], args := [d1, d2, d3] }
  | _ => none }
def BlobGetsWrongFalsely : Prop := blobGetsRow.holds Try.pinned (OpenSpec.ofChange blobGetsWrong)

/-- 'tephralaw02.BlobLists': WHATEVER THE INPUT: true; the input reads as it did. -/
def blobListsSpec : ChangeSpec := { name := "blobLists", fn := fun _ => fun
  | [d1, d2] => { results := [.lit (.bool true)], args := [d1, d2] }
  | _ => none }
def blobListsRow : OpenClaim := { program := "ytffmbeggigohcaa", sum := "460621e4f54135e78d72edc04e1108919e8a72c037e2973ac6406f2ba4e965f9", func := "tephra/tephralaw02.BlobLists", spec := "blobLists", unfollowed := true, recurses := true, apart := false }
def BlobListsSaid : Prop := blobListsRow.holds Try.pinned (OpenSpec.ofChange blobListsSpec)

/-- ITS FALSE NEIGHBOUR: 'it returns false'. Refute it at one input. -/
def blobListsWrong : ChangeSpec := { name := "blobLists", fn := fun _ => fun
  | [d1, d2] => { results := [.lit (.bool false)], args := [d1, d2] }
  | _ => none }
def BlobListsWrongFalsely : Prop := blobListsRow.holds Try.pinned (OpenSpec.ofChange blobListsWrong)

/-- 'tephralaw02.BlobOne': WHATEVER THE INPUT: true; the input reads as it did. -/
def blobOneSpec : ChangeSpec := { name := "blobOne", fn := fun _ => fun
  | [d1, d2] => { results := [.lit (.bool true)], args := [d1, d2] }
  | _ => none }
def blobOneRow : OpenClaim := { program := "ytffmbeggigohcaa", sum := "460621e4f54135e78d72edc04e1108919e8a72c037e2973ac6406f2ba4e965f9", func := "tephra/tephralaw02.BlobOne", spec := "blobOne", unfollowed := true, recurses := true, apart := false }
def BlobOneSaid : Prop := blobOneRow.holds Try.pinned (OpenSpec.ofChange blobOneSpec)

/-- ITS FALSE NEIGHBOUR: 'it returns false'. Refute it at one input. -/
def blobOneWrong : ChangeSpec := { name := "blobOne", fn := fun _ => fun
  | [d1, d2] => { results := [.lit (.bool false)], args := [d1, d2] }
  | _ => none }
def BlobOneWrongFalsely : Prop := blobOneRow.holds Try.pinned (OpenSpec.ofChange blobOneWrong)

/- THE SECOND FORM. 'bulk': how many values and letters a reading holds, each counted each time it is reached (what is shared counts as often as it is met; a slice's spare places count too). A statement '..UptoSaid' is the law's where the arguments, and the package variables that the reading takes, are together of bulk at most 1048576: NARROWER than '..Said'. Prove '..Said' where nothing that the law and all that it calls make is longer than what came in: it says more and counts as full. Else prove '..UptoSaid'. A law counts once. -/
mutual
def uptoBulk {H : Type} : DataW H → Nat
  | .lit (.string bytes) => bytes.length + 1
  | .lit _ => 1
  | .nil => 1
  | .ptr d => uptoBulk d + 1
  | .slice elems spare => uptoBulkAll elems + uptoBulkAll spare + 1
  | .agg parts => uptoBulkAll parts + 1
  | .iface _ d => uptoBulk d + 1
  | .map entries => uptoBulkEntries entries + 1
  | .held _ => 1
def uptoBulkAll {H : Type} : List (DataW H) → Nat
  | [] => 0
  | d :: r => uptoBulk d + uptoBulkAll r
def uptoBulkEntries {H : Type} : List (Lit × DataW H) → Nat
  | [] => 0
  | x :: r => uptoBulkEntry x + uptoBulkEntries r
def uptoBulkEntry {H : Type} : Lit × DataW H → Nat
  | (.string bytes, d) => bytes.length + uptoBulk d + 1
  | (_, d) => uptoBulk d + 1
 end
def uptoSmall : (H : Type) → List (DataW H) → Bool := fun _ ds => decide (uptoBulkAll ds ≤ 1048576)
def OpenSpec.upto (s : _root_.Go.ChangeSpec) : _root_.Go.OpenSpec := { _root_.Go.OpenSpec.ofChange s with cond := some uptoSmall }

/-- 'tephralaw02.BlobPuts', WHERE WHAT IT READS IS OF BULK AT MOST 1048576: true; the input reads as it did. -/
def blobPutsUptoRow : OpenClaim := { program := "ytffmbeggigohcaa", sum := "460621e4f54135e78d72edc04e1108919e8a72c037e2973ac6406f2ba4e965f9", func := "tephra/tephralaw02.BlobPuts", spec := "blobPuts", unfollowed := true, recurses := true, apart := false, narrowed := true }
def BlobPutsUptoSaid : Prop := blobPutsUptoRow.holds Try.pinned (OpenSpec.upto blobPutsSpec)

/-- 'tephralaw02.BlobGets', WHERE WHAT IT READS IS OF BULK AT MOST 1048576: true; the input reads as it did. -/
def blobGetsUptoRow : OpenClaim := { program := "ytffmbeggigohcaa", sum := "460621e4f54135e78d72edc04e1108919e8a72c037e2973ac6406f2ba4e965f9", func := "tephra/tephralaw02.BlobGets", spec := "blobGets", unfollowed := true, recurses := true, apart := false, narrowed := true }
def BlobGetsUptoSaid : Prop := blobGetsUptoRow.holds Try.pinned (OpenSpec.upto blobGetsSpec)

/-- 'tephralaw02.BlobLists', WHERE WHAT IT READS IS OF BULK AT MOST 1048576: true; the input reads as it did. -/
def blobListsUptoRow : OpenClaim := { program := "ytffmbeggigohcaa", sum := "460621e4f54135e78d72edc04e1108919e8a72c037e2973ac6406f2ba4e965f9", func := "tephra/tephralaw02.BlobLists", spec := "blobLists", unfollowed := true, recurses := true, apart := false, narrowed := true }
def BlobListsUptoSaid : Prop := blobListsUptoRow.holds Try.pinned (OpenSpec.upto blobListsSpec)

/-- 'tephralaw02.BlobOne', WHERE WHAT IT READS IS OF BULK AT MOST 1048576: true; the input reads as it did. -/
def blobOneUptoRow : OpenClaim := { program := "ytffmbeggigohcaa", sum := "460621e4f54135e78d72edc04e1108919e8a72c037e2973ac6406f2ba4e965f9", func := "tephra/tephralaw02.BlobOne", spec := "blobOne", unfollowed := true, recurses := true, apart := false, narrowed := true }
def BlobOneUptoSaid : Prop := blobOneUptoRow.holds Try.pinned (OpenSpec.upto blobOneSpec)

end Rows
end Go.Proofs.Ytffmbeggigohcaa
