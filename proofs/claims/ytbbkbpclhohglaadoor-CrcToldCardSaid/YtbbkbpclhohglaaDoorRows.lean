/-
  NARROWER THAN 'FOR EVERY INPUT', by the rows' own cells (each row's printed sentence says how): CrcSums: laid · CrcBytes: laid · CrcTold: laid · CrcLine: laid.
  DERIVED. THE GIVEN ROWS OF THIS SEAT. 4 by the template 'for every input the law returns true; each argument reads behind the call as it read before'; 0 by the template 'total and deterministic' (their statements: YtbbkbpclhohglaaDoorTotals.lean).
  GIVEN WITH THE SEED: the statements are not yours to turn. If you find one false, say at which input.
  Laid BY PROGRAM, IN A SANDBOX (cutbox-rows.mjs): the forced cells as the released guide's own fill.sh prints them over the translation 3ebf9443ba021d42… (all of the seat's roots in one cut). By AI agents, Wed Nov 11 2026. No macro, syntax, notation, axiom, sorry.
-/
import Derived.Test.YtbbkbpclhohglaaDoorChecked
import GoSem.Claim
import GoSem.ClaimJoined
import GoSem.ClaimMapViews
import Derived.JoinedTies
import Derived.KernelRfl
namespace Go.Proofs.YtbbkbpclhohglaaDoor
/- THE CELL 'sum', in the pinned program and in every row, IS THE sha256 OF THE DUMP (.gsa) THAT YtbbkbpclhohglaaDoorProg.lean LOADS. Nothing in Lean hashes anything: it is a label: what it is worth is what the hold of that sum in a sandbox is worth. -/
noncomputable def Tryd.pinned : Pinned := { name := "ytbbkbpclhohglaadoor", sum := "3ebf9443ba021d42ef1ba0a7233fd52920cafcf9b373d4ada5f4584ffe62faab", checked := Tryd.checked }
namespace Rows
def none {H : Type} : Left H := { results := [], args := [] }

/- WHAT THE LISTED PACKAGE-LEVEL VARIABLES READ AS WHEN THE CALL BEGINS. Each datum BY PROGRAM (the guide's laid-datum.mjs) off the statement by which the dump's own 'gosem.cut.vars' lays the variable. In a bare row this is a premise. The card (YtbbkbpclhohglaaDoorCards.lean) ties it to the program's text. -/
def laid_tephra_crc_halves {H : Type} : DataW H := .agg [.lit (.int .u32 0), .lit (.int .u32 498536548), .lit (.int .u32 997073096), .lit (.int .u32 651767980), .lit (.int .u32 1994146192), .lit (.int .u32 1802195444), .lit (.int .u32 1303535960), .lit (.int .u32 1342533948), .lit (.int .u32 3988292384), .lit (.int .u32 4027552580), .lit (.int .u32 3604390888), .lit (.int .u32 3412177804), .lit (.int .u32 2607071920), .lit (.int .u32 2262029012), .lit (.int .u32 2685067896), .lit (.int .u32 3183342108)]

/-- 'tephralaw03.CrcSums': WHATEVER THE INPUT: true; the input reads as it did. -/
def crcSumsSpec : ChangeSpec := { name := "crcSums", fn := fun _ => fun
  | [d] => { results := [.lit (.bool true)], args := [d] }
  | _ => none }
def crcSumsRow : OpenClaim := { program := "ytbbkbpclhohglaadoor", sum := "3ebf9443ba021d42ef1ba0a7233fd52920cafcf9b373d4ada5f4584ffe62faab", func := "tephra/tephralaw03.CrcSums", spec := "crcSums", named := ["tephra/crc.halves"], apart := false, laid := [("tephra/crc.halves", laid_tephra_crc_halves)] }
def CrcSumsSaid : Prop := crcSumsRow.holds Tryd.pinned (OpenSpec.ofChange crcSumsSpec)

/-- ITS FALSE NEIGHBOUR: 'it returns false'. Refute it at one input. -/
def crcSumsWrong : ChangeSpec := { name := "crcSums", fn := fun _ => fun
  | [d] => { results := [.lit (.bool false)], args := [d] }
  | _ => none }
def CrcSumsWrongFalsely : Prop := crcSumsRow.holds Tryd.pinned (OpenSpec.ofChange crcSumsWrong)

/-- 'tephralaw03.CrcBytes': WHATEVER THE INPUT: true; the input reads as it did. -/
def crcBytesSpec : ChangeSpec := { name := "crcBytes", fn := fun _ => fun
  | [d1, d2, d3] => { results := [.lit (.bool true)], args := [d1, d2, d3] }
  | _ => none }
def crcBytesRow : OpenClaim := { program := "ytbbkbpclhohglaadoor", sum := "3ebf9443ba021d42ef1ba0a7233fd52920cafcf9b373d4ada5f4584ffe62faab", func := "tephra/tephralaw03.CrcBytes", spec := "crcBytes", named := ["tephra/crc.halves"], apart := false, laid := [("tephra/crc.halves", laid_tephra_crc_halves)] }
def CrcBytesSaid : Prop := crcBytesRow.holds Tryd.pinned (OpenSpec.ofChange crcBytesSpec)

/-- ITS FALSE NEIGHBOUR: 'it returns false'. Refute it at one input. -/
def crcBytesWrong : ChangeSpec := { name := "crcBytes", fn := fun _ => fun
  | [d1, d2, d3] => { results := [.lit (.bool false)], args := [d1, d2, d3] }
  | _ => none }
def CrcBytesWrongFalsely : Prop := crcBytesRow.holds Tryd.pinned (OpenSpec.ofChange crcBytesWrong)

/-- 'tephralaw03.CrcTold': WHATEVER THE INPUT: true; the input reads as it did. -/
def crcToldSpec : ChangeSpec := { name := "crcTold", fn := fun _ => fun
  | [d1, d2, d3] => { results := [.lit (.bool true)], args := [d1, d2, d3] }
  | _ => none }
def crcToldRow : OpenClaim := { program := "ytbbkbpclhohglaadoor", sum := "3ebf9443ba021d42ef1ba0a7233fd52920cafcf9b373d4ada5f4584ffe62faab", func := "tephra/tephralaw03.CrcTold", spec := "crcTold", named := ["tephra/crc.halves"], apart := false, laid := [("tephra/crc.halves", laid_tephra_crc_halves)] }
def CrcToldSaid : Prop := crcToldRow.holds Tryd.pinned (OpenSpec.ofChange crcToldSpec)

/-- ITS FALSE NEIGHBOUR: 'it returns false'. Refute it at one input. -/
def crcToldWrong : ChangeSpec := { name := "crcTold", fn := fun _ => fun
  | [d1, d2, d3] => { results := [.lit (.bool false)], args := [d1, d2, d3] }
  | _ => none }
def CrcToldWrongFalsely : Prop := crcToldRow.holds Tryd.pinned (OpenSpec.ofChange crcToldWrong)

/-- 'tephralaw03.CrcLine': WHATEVER THE INPUT: true; the input reads as it did. -/
def crcLineSpec : ChangeSpec := { name := "crcLine", fn := fun _ => fun
  | [d1, d2, d3] => { results := [.lit (.bool true)], args := [d1, d2, d3] }
  | _ => none }
def crcLineRow : OpenClaim := { program := "ytbbkbpclhohglaadoor", sum := "3ebf9443ba021d42ef1ba0a7233fd52920cafcf9b373d4ada5f4584ffe62faab", func := "tephra/tephralaw03.CrcLine", spec := "crcLine", named := ["tephra/crc.halves"], apart := false, laid := [("tephra/crc.halves", laid_tephra_crc_halves)] }
def CrcLineSaid : Prop := crcLineRow.holds Tryd.pinned (OpenSpec.ofChange crcLineSpec)

/-- ITS FALSE NEIGHBOUR: 'it returns false'. Refute it at one input. -/
def crcLineWrong : ChangeSpec := { name := "crcLine", fn := fun _ => fun
  | [d1, d2, d3] => { results := [.lit (.bool false)], args := [d1, d2, d3] }
  | _ => none }
def CrcLineWrongFalsely : Prop := crcLineRow.holds Tryd.pinned (OpenSpec.ofChange crcLineWrong)

/- THE SECOND FORM. 'bulk': how many values and letters a reading holds, each counted each time it is reached (what is shared counts as often as it is met; a slice's spare places count too). A statement '..UptoSaid' is the law's where the arguments, and the package variables that the reading takes, are together of bulk at most 1048576: NARROWER than '..Said'. Prove '..Said' where nothing that the law and all that it calls make is longer than what came in: it says more and counts as full. Else prove '..UptoSaid'. A law counts once. -/
mutual
def uptoBulk {H : Type} : DataW H → Nat
  | .lit (.string bytes) => bytes.length + 1
  | .lit _ => 1
  | .nil => 1
  | .ptr d => uptoBulk d + 1
  | .slice elems spare => uptoBulkAll elems + uptoBulkAll spare + 1
  | .agg parts => uptoBulkAll parts + 1
  | .iface _ d => uptoBulk d + 1
  | .map entries => uptoBulkEntries entries + 1
  | .held _ => 1
def uptoBulkAll {H : Type} : List (DataW H) → Nat
  | [] => 0
  | d :: r => uptoBulk d + uptoBulkAll r
def uptoBulkEntries {H : Type} : List (Lit × DataW H) → Nat
  | [] => 0
  | x :: r => uptoBulkEntry x + uptoBulkEntries r
def uptoBulkEntry {H : Type} : Lit × DataW H → Nat
  | (.string bytes, d) => bytes.length + uptoBulk d + 1
  | (_, d) => uptoBulk d + 1
 end
def uptoSmall : (H : Type) → List (DataW H) → Bool := fun _ ds => decide (uptoBulkAll ds ≤ 1048576)
def OpenSpec.upto (s : _root_.Go.ChangeSpec) : _root_.Go.OpenSpec := { _root_.Go.OpenSpec.ofChange s with cond := some uptoSmall }

/-- 'tephralaw03.CrcSums', WHERE WHAT IT READS IS OF BULK AT MOST 1048576: true; the input reads as it did. -/
def crcSumsUptoRow : OpenClaim := { program := "ytbbkbpclhohglaadoor", sum := "3ebf9443ba021d42ef1ba0a7233fd52920cafcf9b373d4ada5f4584ffe62faab", func := "tephra/tephralaw03.CrcSums", spec := "crcSums", named := ["tephra/crc.halves"], apart := false, laid := [("tephra/crc.halves", laid_tephra_crc_halves)], narrowed := true }
def CrcSumsUptoSaid : Prop := crcSumsUptoRow.holds Tryd.pinned (OpenSpec.upto crcSumsSpec)

/-- 'tephralaw03.CrcBytes', WHERE WHAT IT READS IS OF BULK AT MOST 1048576: true; the input reads as it did. -/
def crcBytesUptoRow : OpenClaim := { program := "ytbbkbpclhohglaadoor", sum := "3ebf9443ba021d42ef1ba0a7233fd52920cafcf9b373d4ada5f4584ffe62faab", func := "tephra/tephralaw03.CrcBytes", spec := "crcBytes", named := ["tephra/crc.halves"], apart := false, laid := [("tephra/crc.halves", laid_tephra_crc_halves)], narrowed := true }
def CrcBytesUptoSaid : Prop := crcBytesUptoRow.holds Tryd.pinned (OpenSpec.upto crcBytesSpec)

/-- 'tephralaw03.CrcTold', WHERE WHAT IT READS IS OF BULK AT MOST 1048576: true; the input reads as it did. -/
def crcToldUptoRow : OpenClaim := { program := "ytbbkbpclhohglaadoor", sum := "3ebf9443ba021d42ef1ba0a7233fd52920cafcf9b373d4ada5f4584ffe62faab", func := "tephra/tephralaw03.CrcTold", spec := "crcTold", named := ["tephra/crc.halves"], apart := false, laid := [("tephra/crc.halves", laid_tephra_crc_halves)], narrowed := true }
def CrcToldUptoSaid : Prop := crcToldUptoRow.holds Tryd.pinned (OpenSpec.upto crcToldSpec)

/-- 'tephralaw03.CrcLine', WHERE WHAT IT READS IS OF BULK AT MOST 1048576: true; the input reads as it did. -/
def crcLineUptoRow : OpenClaim := { program := "ytbbkbpclhohglaadoor", sum := "3ebf9443ba021d42ef1ba0a7233fd52920cafcf9b373d4ada5f4584ffe62faab", func := "tephra/tephralaw03.CrcLine", spec := "crcLine", named := ["tephra/crc.halves"], apart := false, laid := [("tephra/crc.halves", laid_tephra_crc_halves)], narrowed := true }
def CrcLineUptoSaid : Prop := crcLineUptoRow.holds Tryd.pinned (OpenSpec.upto crcLineSpec)

end Rows
end Go.Proofs.YtbbkbpclhohglaaDoor
