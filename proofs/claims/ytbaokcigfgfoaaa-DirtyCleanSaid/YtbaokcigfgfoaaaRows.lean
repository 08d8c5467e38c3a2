/-
  No cell of these rows narrows 'for every input' (looked for: loops, veiled, ifaces, maps, wideKeys, modest, calm, conditions, laid).
  DERIVED. THE GIVEN ROWS OF THIS SEAT. 3 by the template 'for every input the law returns true; each argument reads behind the call as it read before'; 0 by the template 'total and deterministic' (their statements: YtbaokcigfgfoaaaTotals.lean).
  GIVEN WITH THE SEED: the statements are not yours to turn. If you find one false, say at which input.
  Laid BY PROGRAM, IN A SANDBOX (cutbox-rows.mjs): the forced cells as the released guide's own fill.sh prints them over the translation 46e74823468f8dcc… (all of the seat's roots in one cut). By AI agents, Wed Nov 11 2026. No macro, syntax, notation, axiom, sorry.
-/
import Derived.Test.YtbaokcigfgfoaaaChecked
import GoSem.Claim
import GoSem.ClaimJoined
import GoSem.ClaimMapViews
import Derived.JoinedTies
import Derived.KernelRfl
namespace Go.Proofs.Ytbaokcigfgfoaaa
/- THE CELL 'sum', in the pinned program and in every row, IS THE sha256 OF THE DUMP (.gsa) THAT YtbaokcigfgfoaaaProg.lean LOADS. Nothing in Lean hashes anything: it is a label: what it is worth is what the hold of that sum in a sandbox is worth. -/
noncomputable def Try.pinned : Pinned := { name := "ytbaokcigfgfoaaa", sum := "46e74823468f8dccd7e59d9fffc21719224d3f08849edb16ac10665fc574df26", checked := Try.checked }
namespace Rows
def none {H : Type} : Left H := { results := [], args := [] }

/-- 'tephralaw23.DirtyWhy': WHATEVER THE INPUT: true; the input reads as it did. -/
def dirtyWhySpec : ChangeSpec := { name := "dirtyWhy", fn := fun _ => fun
  | [d1, d2, d3] => { results := [.lit (.bool true)], args := [d1, d2, d3] }
  | _ => none }
def dirtyWhyRow : OpenClaim := { program := "ytbaokcigfgfoaaa", sum := "46e74823468f8dccd7e59d9fffc21719224d3f08849edb16ac10665fc574df26", func := "tephra/tephralaw23.DirtyWhy", spec := "dirtyWhy", unfollowed := true, recurses := true, apart := false }
def DirtyWhySaid : Prop := dirtyWhyRow.holds Try.pinned (OpenSpec.ofChange dirtyWhySpec)

/-- ITS FALSE NEIGHBOUR: 'it returns false'. Refute it at one input. -/
def dirtyWhyWrong : ChangeSpec := { name := "dirtyWhy", fn := fun _ => fun
  | [d1, d2, d3] => { results := [.lit (.bool false)], args := [d1, d2, d3] }
  | _ => none }
def DirtyWhyWrongFalsely : Prop := dirtyWhyRow.holds Try.pinned (OpenSpec.ofChange dirtyWhyWrong)

/-- 'tephralaw23.DirtyTraces': WHATEVER THE INPUT: true; the input reads as it did. -/
def dirtyTracesSpec : ChangeSpec := { name := "dirtyTraces", fn := fun _ => fun
  | [d1, d2, d3] => { results := [.lit (.bool true)], args := [d1, d2, d3] }
  | _ => none }
def dirtyTracesRow : OpenClaim := { program := "ytbaokcigfgfoaaa", sum := "46e74823468f8dccd7e59d9fffc21719224d3f08849edb16ac10665fc574df26", func := "tephra/tephralaw23.DirtyTraces", spec := "dirtyTraces", unfollowed := true, recurses := true, apart := false }
def DirtyTracesSaid : Prop := dirtyTracesRow.holds Try.pinned (OpenSpec.ofChange dirtyTracesSpec)

/-- ITS FALSE NEIGHBOUR: 'it returns false'. Refute it at one input. -/
def dirtyTracesWrong : ChangeSpec := { name := "dirtyTraces", fn := fun _ => fun
  | [d1, d2, d3] => { results := [.lit (.bool false)], args := [d1, d2, d3] }
  | _ => none }
def DirtyTracesWrongFalsely : Prop := dirtyTracesRow.holds Try.pinned (OpenSpec.ofChange dirtyTracesWrong)

/-- 'tephralaw23.DirtyClean': WHATEVER THE INPUT: true; the input reads as it did. -/
def dirtyCleanSpec : ChangeSpec := { name := "dirtyClean", fn := fun _ => fun
  | [d1, d2, d3] => { results := [.lit (.bool true)], args := [d1, d2, d3] }
  | _ => none }
def dirtyCleanRow : OpenClaim := { program := "ytbaokcigfgfoaaa", sum := "46e74823468f8dccd7e59d9fffc21719224d3f08849edb16ac10665fc574df26", func := "tephra/tephralaw23.DirtyClean", spec := "dirtyClean", unfollowed := true, recurses := true, apart := false }
def DirtyCleanSaid : Prop := dirtyCleanRow.holds Try.pinned (OpenSpec.ofChange dirtyCleanSpec)

/-- ITS FALSE NEIGHBOUR: 'it returns false'. Refute it at one input. -/
def dirtyCleanWrong : ChangeSpec := { name := "dirtyClean", fn := fun _ => fun
  | [d1, d2, d3] => { results := [.lit (.bool false)], args := [d1, d2, d3] }
  | _ => none }
def DirtyCleanWrongFalsely : Prop := dirtyCleanRow.holds Try.pinned (OpenSpec.ofChange dirtyCleanWrong)

/- THE SECOND FORM. 'bulk': how many values and letters a reading holds, each counted each time it is reached (what is shared counts as often as it is met; a slice's spare places count too). A statement '..UptoSaid' is the law's where the arguments, and the package variables that the reading takes, are together of bulk at most 1048576: NARROWER than '..Said'. Prove '..Said' where nothing that the law and all that it calls make is longer than what came in: it says more and counts as full. Else prove '..UptoSaid'. A law counts once. -/
mutual
def uptoBulk {H : Type} : DataW H → Nat
  | .lit (.string bytes) => bytes.length + 1
  | .lit _ => 1
  | .nil => 1
  | .ptr d => uptoBulk d + 1
  | .slice elems spare => uptoBulkAll elems + uptoBulkAll spare + 1
  | .agg parts => uptoBulkAll parts + 1
  | .iface _ d => uptoBulk d + 1
  | .map entries => uptoBulkEntries entries + 1
  | .held _ => 1
def uptoBulkAll {H : Type} : List (DataW H) → Nat
  | [] => 0
  | d :: r => uptoBulk d + uptoBulkAll r
def uptoBulkEntries {H : Type} : List (Lit × DataW H) → Nat
  | [] => 0
  | x :: r => uptoBulkEntry x + uptoBulkEntries r
def uptoBulkEntry {H : Type} : Lit × DataW H → Nat
  | (.string bytes, d) => bytes.length + uptoBulk d + 1
  | (_, d) => uptoBulk d + 1
 end
def uptoSmall : (H : Type) → List (DataW H) → Bool := fun _ ds => decide (uptoBulkAll ds ≤ 1048576)
def OpenSpec.upto (s : _root_.Go.ChangeSpec) : _root_.Go.OpenSpec := { _root_.Go.OpenSpec.ofChange s with cond := some uptoSmall }

/-- 'tephralaw23.DirtyWhy', WHERE WHAT IT READS IS OF BULK AT MOST 1048576: true; the input reads as it did. -/
def dirtyWhyUptoRow : OpenClaim := { program := "ytbaokcigfgfoaaa", sum := "46e74823468f8dccd7e59d9fffc21719224d3f08849edb16ac10665fc574df26", func := "tephra/tephralaw23.DirtyWhy", spec := "dirtyWhy", unfollowed := true, recurses := true, apart := false, narrowed := true }
def DirtyWhyUptoSaid : Prop := dirtyWhyUptoRow.holds Try.pinned (OpenSpec.upto dirtyWhySpec)

/-- 'tephralaw23.DirtyTraces', WHERE WHAT IT READS IS OF BULK AT MOST 1048576: true; the input reads as it did. -/
def dirtyTracesUptoRow : OpenClaim := { program := "ytbaokcigfgfoaaa", sum := "46e74823468f8dccd7e59d9fffc21719224d3f08849edb16ac10665fc574df26", func := "tephra/tephralaw23.DirtyTraces", spec := "dirtyTraces", unfollowed := true, recurses := true, apart := false, narrowed := true }
def DirtyTracesUptoSaid : Prop := dirtyTracesUptoRow.holds Try.pinned (OpenSpec.upto dirtyTracesSpec)

/-- 'tephralaw23.DirtyClean', WHERE WHAT IT READS IS OF BULK AT MOST 1048576: true; the input reads as it did. -/
def dirtyCleanUptoRow : OpenClaim := { program := "ytbaokcigfgfoaaa", sum := "46e74823468f8dccd7e59d9fffc21719224d3f08849edb16ac10665fc574df26", func := "tephra/tephralaw23.DirtyClean", spec := "dirtyClean", unfollowed := true, recurses := true, apart := false, narrowed := true }
def DirtyCleanUptoSaid : Prop := dirtyCleanUptoRow.holds Try.pinned (OpenSpec.upto dirtyCleanSpec)

end Rows
end Go.Proofs.Ytbaokcigfgfoaaa
