/-
  No cell of these rows narrows 'for every input' (looked for: loops, veiled, ifaces, maps, wideKeys, modest, calm, conditions, laid).
  DERIVED. THE GIVEN ROWS OF THIS SEAT. 4 by the template 'for every input the law returns true; each argument reads behind the call as it read before'; 0 by the template 'total and deterministic' (their statements: YteombeomfjkikaaTotals.lean).
  GIVEN WITH THE SEED: the statements are not yours to turn. If you find one false, say at which input.
  Laid BY PROGRAM, IN A SANDBOX (cutbox-rows.mjs): the forced cells as the released guide's own fill.sh prints them over the translation 04c75e550520485f… (all of the seat's roots in one cut). By AI agents, Wed Nov 11 2026. No macro, syntax, notation, axiom, sorry.
-/
import Derived.Test.YteombeomfjkikaaChecked
import GoSem.Claim
import GoSem.ClaimJoined
import GoSem.ClaimMapViews
import Derived.JoinedTies
import Derived.KernelRfl
namespace Go.Proofs.Yteombeomfjkikaa
/- THE CELL 'sum', in the pinned program and in every row, IS THE sha256 OF THE DUMP (.gsa) THAT YteombeomfjkikaaProg.lean LOADS. Nothing in Lean hashes anything: it is a label: what it is worth is what the hold of that sum in a sandbox is worth. -/
noncomputable def Try.pinned : Pinned := { name := "yteombeomfjkikaa", sum := "04c75e550520485f5ff335c592f6d83d114a9e4fdaa9b257239f594860e5e771", checked := Try.checked }
namespace Rows
def none {H : Type} : Left H := { results := [], args := [] }

/-- 'tephralaw11.MigrateTo': WHATEVER THE INPUT: true; the input reads as it did. -/
def migrateToSpec : ChangeSpec := { name := "migrateTo", fn := fun _ => fun
  | [d1, d2, d3] => { results := [.lit (.bool true)], args := [d1, d2, d3] }
  | _ => none }
def migrateToRow : OpenClaim := { program := "yteombeomfjkikaa", sum := "04c75e550520485f5ff335c592f6d83d114a9e4fdaa9b257239f594860e5e771", func := "tephra/tephralaw11.MigrateTo", spec := "migrateTo", unfollowed := true, recurses := true, apart := false }
def MigrateToSaid : Prop := migrateToRow.holds Try.pinned (OpenSpec.ofChange migrateToSpec)

/-- ITS FALSE NEIGHBOUR: 'it returns false'. Refute it at one input. -/
def migrateToWrong : ChangeSpec := { name := "migrateTo", fn := fun _ => fun
  | [d1, d2, d3] => { results := [.lit (.bool false)], args := [d1, d2, d3] }
  | _ => none }
def MigrateToWrongFalsely : Prop := migrateToRow.holds Try.pinned (OpenSpec.ofChange migrateToWrong)

/-- 'tephralaw11.MigrateAll': WHATEVER THE INPUT: true; the input reads as it did. -/
def migrateAllSpec : ChangeSpec := { name := "migrateAll", fn := fun _ => fun
  | [d1, d2, d3] => { results := [.lit (.bool true)], args := [d1, d2, d3] }
  | _ => none }
def migrateAllRow : OpenClaim := { program := "yteombeomfjkikaa", sum := "04c75e550520485f5ff335c592f6d83d114a9e4fdaa9b257239f594860e5e771", func := "tephra/tephralaw11.MigrateAll", spec := "migrateAll", unfollowed := true, recurses := true, apart := false }
def MigrateAllSaid : Prop := migrateAllRow.holds Try.pinned (OpenSpec.ofChange migrateAllSpec)

/-- ITS FALSE NEIGHBOUR: 'it returns false'. Refute it at one input. -/
def migrateAllWrong : ChangeSpec := { name := "migrateAll", fn := fun _ => fun
  | [d1, d2, d3] => { results := [.lit (.bool false)], args := [d1, d2, d3] }
  | _ => none }
def MigrateAllWrongFalsely : Prop := migrateAllRow.holds Try.pinned (OpenSpec.ofChange migrateAllWrong)

/-- 'tephralaw11.MigrateSteps': WHATEVER THE INPUT: true; the input reads as it did. -/
def migrateStepsSpec : ChangeSpec := { name := "migrateSteps", fn := fun _ => fun
  | [d1, d2] => { results := [.lit (.bool true)], args := [d1, d2] }
  | _ => none }
def migrateStepsRow : OpenClaim := { program := "yteombeomfjkikaa", sum := "04c75e550520485f5ff335c592f6d83d114a9e4fdaa9b257239f594860e5e771", func := "tephra/tephralaw11.MigrateSteps", spec := "migrateSteps", unfollowed := true, recurses := true, apart := false }
def MigrateStepsSaid : Prop := migrateStepsRow.holds Try.pinned (OpenSpec.ofChange migrateStepsSpec)

/-- ITS FALSE NEIGHBOUR: 'it returns false'. Refute it at one input. -/
def migrateStepsWrong : ChangeSpec := { name := "migrateSteps", fn := fun _ => fun
  | [d1, d2] => { results := [.lit (.bool false)], args := [d1, d2] }
  | _ => none }
def MigrateStepsWrongFalsely : Prop := migrateStepsRow.holds Try.pinned (OpenSpec.ofChange migrateStepsWrong)

/-- 'tephralaw11.MigrateOne': WHATEVER THE INPUT: true; the input reads as it did. -/
def migrateOneSpec : ChangeSpec := { name := "migrateOne", fn := fun _ => fun
  | [d1, d2] => { results := [.lit (.bool true)], args := [d1, d2] }
  | _ => none }
def migrateOneRow : OpenClaim := { program := "yteombeomfjkikaa", sum := "04c75e550520485f5ff335c592f6d83d114a9e4fdaa9b257239f594860e5e771", func := "tephra/tephralaw11.MigrateOne", spec := "migrateOne", unfollowed := true, recurses := true, apart := false }
def MigrateOneSaid : Prop := migrateOneRow.holds Try.pinned (OpenSpec.ofChange migrateOneSpec)

/-- ITS FALSE NEIGHBOUR: 'it returns false'. Refute it at one input. -/
def migrateOneWrong : ChangeSpec := { name := "migrateOne", fn := fun _ => fun
  | [d1, d2] => { results := [.lit (.bool false)], args := [d1, d2] }
  | _ => none }
def MigrateOneWrongFalsely : Prop := migrateOneRow.holds Try.pinned (OpenSpec.ofChange migrateOneWrong)

/- THE SECOND FORM. 'bulk': how many values and letters a reading holds, each counted each time it is reached (what is shared counts as often as it is met; a slice's spare places count too). A statement '..UptoSaid' is the law's where the arguments, and the package variables that the reading takes, are together of bulk at most 1048576: NARROWER than '..Said'. Prove '..Said' where nothing that the law and all that it calls make is longer than what came in: it says more and counts as full. Else prove '..UptoSaid'. A law counts once. -/
mutual
def uptoBulk {H : Type} : DataW H → Nat
  | .lit (.string bytes) => bytes.length + 1
  | .lit _ => 1
  | .nil => 1
  | .ptr d => uptoBulk d + 1
  | .slice elems spare => uptoBulkAll elems + uptoBulkAll spare + 1
  | .agg parts => uptoBulkAll parts + 1
  | .iface _ d => uptoBulk d + 1
  | .map entries => uptoBulkEntries entries + 1
  | .held _ => 1
def uptoBulkAll {H : Type} : List (DataW H) → Nat
  | [] => 0
  | d :: r => uptoBulk d + uptoBulkAll r
def uptoBulkEntries {H : Type} : List (Lit × DataW H) → Nat
  | [] => 0
  | x :: r => uptoBulkEntry x + uptoBulkEntries r
def uptoBulkEntry {H : Type} : Lit × DataW H → Nat
  | (.string bytes, d) => bytes.length + uptoBulk d + 1
  | (_, d) => uptoBulk d + 1
 end
def uptoSmall : (H : Type) → List (DataW H) → Bool := fun _ ds => decide (uptoBulkAll ds ≤ 1048576)
def OpenSpec.upto (s : _root_.Go.ChangeSpec) : _root_.Go.OpenSpec := { _root_.Go.OpenSpec.ofChange s with cond := some uptoSmall }

/-- 'tephralaw11.MigrateTo', WHERE WHAT IT READS IS OF BULK AT MOST 1048576: true; the input reads as it did. -/
def migrateToUptoRow : OpenClaim := { program := "yteombeomfjkikaa", sum := "04c75e550520485f5ff335c592f6d83d114a9e4fdaa9b257239f594860e5e771", func := "tephra/tephralaw11.MigrateTo", spec := "migrateTo", unfollowed := true, recurses := true, apart := false, narrowed := true }
def MigrateToUptoSaid : Prop := migrateToUptoRow.holds Try.pinned (OpenSpec.upto migrateToSpec)

/-- 'tephralaw11.MigrateAll', WHERE WHAT IT READS IS OF BULK AT MOST 1048576: true; the input reads as it did. -/
def migrateAllUptoRow : OpenClaim := { program := "yteombeomfjkikaa", sum := "04c75e550520485f5ff335c592f6d83d114a9e4fdaa9b257239f594860e5e771", func := "tephra/tephralaw11.MigrateAll", spec := "migrateAll", unfollowed := true, recurses := true, apart := false, narrowed := true }
def MigrateAllUptoSaid : Prop := migrateAllUptoRow.holds Try.pinned (OpenSpec.upto migrateAllSpec)

/-- 'tephralaw11.MigrateSteps', WHERE WHAT IT READS IS OF BULK AT MOST 1048576: true; the input reads as it did. -/
def migrateStepsUptoRow : OpenClaim := { program := "yteombeomfjkikaa", sum := "04c75e550520485f5ff335c592f6d83d114a9e4fdaa9b257239f594860e5e771", func := "tephra/tephralaw11.MigrateSteps", spec := "migrateSteps", unfollowed := true, recurses := true, apart := false, narrowed := true }
def MigrateStepsUptoSaid : Prop := migrateStepsUptoRow.holds Try.pinned (OpenSpec.upto migrateStepsSpec)

/-- 'tephralaw11.MigrateOne', WHERE WHAT IT READS IS OF BULK AT MOST 1048576: true; the input reads as it did. -/
def migrateOneUptoRow : OpenClaim := { program := "yteombeomfjkikaa", sum := "04c75e550520485f5ff335c592f6d83d114a9e4fdaa9b257239f594860e5e771", func := "tephra/tephralaw11.MigrateOne", spec := "migrateOne", unfollowed := true, recurses := true, apart := false, narrowed := true }
def MigrateOneUptoSaid : Prop := migrateOneUptoRow.holds Try.pinned (OpenSpec.upto migrateOneSpec)

end Rows
end Go.Proofs.Yteombeomfjkikaa
