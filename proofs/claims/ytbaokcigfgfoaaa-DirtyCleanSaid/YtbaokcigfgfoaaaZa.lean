/- dirty's questions: what is asked, and the four ways to tell. -/
import Derived.WalkLawsBesides
import Derived.BigQuiet
import Derived.Deep.QuietTactic
import Derived.RegionTactic
import Derived.Test.YtbaokcigfgfoaaaXb
import Derived.Test.YtbaokcigfgfoaaaRk0
import Derived.Test.YtbaokcigfgfoaaaRn0
import Derived.Test.YtbaokcigfgfoaaaRc
import Derived.Test.YtbaokcigfgfoaaaRd
namespace Go.Proofs.Ytbaokcigfgfoaaa
open Go.RowKit

/-- What is asked: a node, its trace, whether it is there, and digests. -/
def askc (x : Nw) (r : Rc) (A : Option Addr) (n c : Nat) (b : Bool) (H : Option Addr) (m d : Nat) : Array Value :=
  #[.string (tx x.d.name), .bool x.d.src, .int .u64 x.d.rule, .slice x.A x.n x.c, .int .i64 r.kind, .string (tx r.target), .int .u64 r.rule, .slice A n c, .int .u64 r.out, .int .u64 r.time, .string (tx r.tag), .bool b, .slice H m d]

set_option maxRecDepth 100000 in
set_option maxHeartbeats 1000000 in
theorem q1_any (x : Nw) (r : Rc) (A : Option Addr) (n c : Nat) (b : Bool) (H : Option Addr) (m d : Nat) (w : World) :
    Calls Try.prog 28 #[.agg (askc x r A n c b H m d)] w fun e w' => e = .returned (.bool (!b)) ∧ Below w.heap.size w w' := by
  have HB := Lib.hid ((Below.refl w.heap.size w).alloc (Nat.le_refl _) (.cells (askc x r A n c b H m d) 53))
  have q11 := at_cell (i := 11) (one_new w (.cells (askc x r A n c b H m d) 53)) rfl
  unfold askc at *
  go_enter Try.func28, Try.ntmps28
  go_wp2
  go_ret
  exact ⟨rfl, HB.out⟩

set_option maxRecDepth 100000 in
set_option maxHeartbeats 1000000 in
theorem q2_any (x : Nw) (r : Rc) (A : Option Addr) (n c : Nat) (b : Bool) (H : Option Addr) (m d : Nat) (w : World) :
    Calls Try.prog 29 #[.agg (askc x r A n c b H m d)] w fun e w' => e = .returned (.bool (r.rule != x.d.rule)) ∧ Below w.heap.size w w' := by
  have HB := Lib.hid ((Below.refl w.heap.size w).alloc (Nat.le_refl _) (.cells (askc x r A n c b H m d) 53))
  have q2 := at_cell (i := 2) (one_new w (.cells (askc x r A n c b H m d) 53)) rfl
  have q6 := at_cell (i := 6) (one_new w (.cells (askc x r A n c b H m d) 53)) rfl
  unfold askc at *
  go_enter Try.func29, Try.ntmps29
  go_wp2
  go_ret
  exact ⟨rfl, HB.out⟩

end Go.Proofs.Ytbaokcigfgfoaaa
