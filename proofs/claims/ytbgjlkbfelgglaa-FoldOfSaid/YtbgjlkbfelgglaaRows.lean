/-
  No cell of these rows narrows 'for every input' (looked for: loops, veiled, ifaces, maps, wideKeys, modest, calm, conditions, laid).
  DERIVED. THE GIVEN ROWS OF THIS SEAT. 4 by the template 'for every input the law returns true; each argument reads behind the call as it read before'; 0 by the template 'total and deterministic' (their statements: YtbgjlkbfelgglaaTotals.lean).
  GIVEN WITH THE SEED: the statements are not yours to turn. If you find one false, say at which input.
  Laid BY PROGRAM, IN A SANDBOX (cutbox-rows.mjs): the forced cells as the released guide's own fill.sh prints them over the translation aa12d67e35a81ed6… (all of the seat's roots in one cut). By AI agents, Wed Nov 11 2026. No macro, syntax, notation, axiom, sorry.
-/
import Derived.Test.YtbgjlkbfelgglaaChecked
import GoSem.Claim
import GoSem.ClaimJoined
import GoSem.ClaimMapViews
import Derived.JoinedTies
import Derived.KernelRfl
namespace Go.Proofs.Ytbgjlkbfelgglaa
/- THE CELL 'sum', in the pinned program and in every row, IS THE sha256 OF THE DUMP (.gsa) THAT YtbgjlkbfelgglaaProg.lean LOADS. Nothing in Lean hashes anything: it is a label: what it is worth is what the hold of that sum in a sandbox is worth. -/
noncomputable def Try.pinned : Pinned := { name := "ytbgjlkbfelgglaa", sum := "aa12d67e35a81ed632f6fe471a8377a7acbdf286c8a3d2c35a75c306bf2ed670", checked := Try.checked }
namespace Rows
def none {H : Type} : Left H := { results := [], args := [] }

/-- 'tephralaw12.FoldOf': WHATEVER THE INPUT: true; the input reads as it did. -/
def foldOfSpec : ChangeSpec := { name := "foldOf", fn := fun _ => fun
  | [d1, d2] => { results := [.lit (.bool true)], args := [d1, d2] }
  | _ => none }
def foldOfRow : OpenClaim := { program := "ytbgjlkbfelgglaa", sum := "aa12d67e35a81ed632f6fe471a8377a7acbdf286c8a3d2c35a75c306bf2ed670", func := "tephra/tephralaw12.FoldOf", spec := "foldOf", recurses := true, apart := false }
def FoldOfSaid : Prop := foldOfRow.holds Try.pinned (OpenSpec.ofChange foldOfSpec)

/-- ITS FALSE NEIGHBOUR: 'it returns false'. Refute it at one input. -/
def foldOfWrong : ChangeSpec := { name := "foldOf", fn := fun _ => fun
  | [d1, d2] => { results := [.lit (.bool false)], args := [d1, d2] }
  | _ => none }
def FoldOfWrongFalsely : Prop := foldOfRow.holds Try.pinned (OpenSpec.ofChange foldOfWrong)

/-- 'tephralaw12.FoldFinds': WHATEVER THE INPUT: true; the input reads as it did. -/
def foldFindsSpec : ChangeSpec := { name := "foldFinds", fn := fun _ => fun
  | [d1, d2, d3] => { results := [.lit (.bool true)], args := [d1, d2, d3] }
  | _ => none }
def foldFindsRow : OpenClaim := { program := "ytbgjlkbfelgglaa", sum := "aa12d67e35a81ed632f6fe471a8377a7acbdf286c8a3d2c35a75c306bf2ed670", func := "tephra/tephralaw12.FoldFinds", spec := "foldFinds", unfollowed := true, recurses := true, apart := false }
def FoldFindsSaid : Prop := foldFindsRow.holds Try.pinned (OpenSpec.ofChange foldFindsSpec)

/-- ITS FALSE NEIGHBOUR: 'it returns false'. Refute it at one input. -/
def foldFindsWrong : ChangeSpec := { name := "foldFinds", fn := fun _ => fun
  | [d1, d2, d3] => { results := [.lit (.bool false)], args := [d1, d2, d3] }
  | _ => none }
def FoldFindsWrongFalsely : Prop := foldFindsRow.holds Try.pinned (OpenSpec.ofChange foldFindsWrong)

/-- 'tephralaw12.FoldParts': WHATEVER THE INPUT: true; the input reads as it did. -/
def foldPartsSpec : ChangeSpec := { name := "foldParts", fn := fun _ => fun
  | [d1, d2] => { results := [.lit (.bool true)], args := [d1, d2] }
  | _ => none }
def foldPartsRow : OpenClaim := { program := "ytbgjlkbfelgglaa", sum := "aa12d67e35a81ed632f6fe471a8377a7acbdf286c8a3d2c35a75c306bf2ed670", func := "tephra/tephralaw12.FoldParts", spec := "foldParts", recurses := true, apart := false }
def FoldPartsSaid : Prop := foldPartsRow.holds Try.pinned (OpenSpec.ofChange foldPartsSpec)

/-- ITS FALSE NEIGHBOUR: 'it returns false'. Refute it at one input. -/
def foldPartsWrong : ChangeSpec := { name := "foldParts", fn := fun _ => fun
  | [d1, d2] => { results := [.lit (.bool false)], args := [d1, d2] }
  | _ => none }
def FoldPartsWrongFalsely : Prop := foldPartsRow.holds Try.pinned (OpenSpec.ofChange foldPartsWrong)

/-- 'tephralaw12.FoldMoves': WHATEVER THE INPUT: true; the input reads as it did. -/
def foldMovesSpec : ChangeSpec := { name := "foldMoves", fn := fun _ => fun
  | [d1, d2] => { results := [.lit (.bool true)], args := [d1, d2] }
  | _ => none }
def foldMovesRow : OpenClaim := { program := "ytbgjlkbfelgglaa", sum := "aa12d67e35a81ed632f6fe471a8377a7acbdf286c8a3d2c35a75c306bf2ed670", func := "tephra/tephralaw12.FoldMoves", spec := "foldMoves", unfollowed := true, recurses := true, apart := false }
def FoldMovesSaid : Prop := foldMovesRow.holds Try.pinned (OpenSpec.ofChange foldMovesSpec)

/-- ITS FALSE NEIGHBOUR: 'it returns false'. Refute it at one input. -/
def foldMovesWrong : ChangeSpec := { name := "foldMoves", fn := fun _ => fun
  | [d1, d2] => { results := [.lit (.bool false)], args := [d1, d2] }
  | _ => none }
def FoldMovesWrongFalsely : Prop := foldMovesRow.holds Try.pinned (OpenSpec.ofChange foldMovesWrong)

/- THE SECOND FORM. 'bulk': how many values and letters a reading holds, each counted each time it is reached (what is shared counts as often as it is met; a slice's spare places count too). A statement '..UptoSaid' is the law's where the arguments, and the package variables that the reading takes, are together of bulk at most 1048576: NARROWER than '..Said'. Prove '..Said' where nothing that the law and all that it calls make is longer than what came in: it says more and counts as full. Else prove '..UptoSaid'. A law counts once. -/
mutual
def uptoBulk {H : Type} : DataW H → Nat
  | .lit (.string bytes) => bytes.length + 1
  | .lit _ => 1
  | .nil => 1
  | .ptr d => uptoBulk d + 1
  | .slice elems spare => uptoBulkAll elems + uptoBulkAll spare + 1
  | .agg parts => uptoBulkAll parts + 1
  | .iface _ d => uptoBulk d + 1
  | .map entries => uptoBulkEntries entries + 1
  | .held _ => 1
def uptoBulkAll {H : Type} : List (DataW H) → Nat
  | [] => 0
  | d :: r => uptoBulk d + uptoBulkAll r
def uptoBulkEntries {H : Type} : List (Lit × DataW H) → Nat
  | [] => 0
  | x :: r => uptoBulkEntry x + uptoBulkEntries r
def uptoBulkEntry {H : Type} : Lit × DataW H → Nat
  | (.string bytes, d) => bytes.length + uptoBulk d + 1
  | (_, d) => uptoBulk d + 1
 end
def uptoSmall : (H : Type) → List (DataW H) → Bool := fun _ ds => decide (uptoBulkAll ds ≤ 1048576)
def OpenSpec.upto (s : _root_.Go.ChangeSpec) : _root_.Go.OpenSpec := { _root_.Go.OpenSpec.ofChange s with cond := some uptoSmall }

/-- 'tephralaw12.FoldOf', WHERE WHAT IT READS IS OF BULK AT MOST 1048576: true; the input reads as it did. -/
def foldOfUptoRow : OpenClaim := { program := "ytbgjlkbfelgglaa", sum := "aa12d67e35a81ed632f6fe471a8377a7acbdf286c8a3d2c35a75c306bf2ed670", func := "tephra/tephralaw12.FoldOf", spec := "foldOf", recurses := true, apart := false, narrowed := true }
def FoldOfUptoSaid : Prop := foldOfUptoRow.holds Try.pinned (OpenSpec.upto foldOfSpec)

/-- 'tephralaw12.FoldFinds', WHERE WHAT IT READS IS OF BULK AT MOST 1048576: true; the input reads as it did. -/
def foldFindsUptoRow : OpenClaim := { program := "ytbgjlkbfelgglaa", sum := "aa12d67e35a81ed632f6fe471a8377a7acbdf286c8a3d2c35a75c306bf2ed670", func := "tephra/tephralaw12.FoldFinds", spec := "foldFinds", unfollowed := true, recurses := true, apart := false, narrowed := true }
def FoldFindsUptoSaid : Prop := foldFindsUptoRow.holds Try.pinned (OpenSpec.upto foldFindsSpec)

/-- 'tephralaw12.FoldParts', WHERE WHAT IT READS IS OF BULK AT MOST 1048576: true; the input reads as it did. -/
def foldPartsUptoRow : OpenClaim := { program := "ytbgjlkbfelgglaa", sum := "aa12d67e35a81ed632f6fe471a8377a7acbdf286c8a3d2c35a75c306bf2ed670", func := "tephra/tephralaw12.FoldParts", spec := "foldParts", recurses := true, apart := false, narrowed := true }
def FoldPartsUptoSaid : Prop := foldPartsUptoRow.holds Try.pinned (OpenSpec.upto foldPartsSpec)

/-- 'tephralaw12.FoldMoves', WHERE WHAT IT READS IS OF BULK AT MOST 1048576: true; the input reads as it did. -/
def foldMovesUptoRow : OpenClaim := { program := "ytbgjlkbfelgglaa", sum := "aa12d67e35a81ed632f6fe471a8377a7acbdf286c8a3d2c35a75c306bf2ed670", func := "tephra/tephralaw12.FoldMoves", spec := "foldMoves", unfollowed := true, recurses := true, apart := false, narrowed := true }
def FoldMovesUptoSaid : Prop := foldMovesUptoRow.holds Try.pinned (OpenSpec.upto foldMovesSpec)

end Rows
end Go.Proofs.Ytbgjlkbfelgglaa
