/- A record as a value; record.restOf and record.Same. -/
import Derived.WalkKit
import Derived.Lib.Hide
import Derived.Test.YtbgjlkbfelgglaaProg
import Derived.Test.YtbgjlkbfelgglaaS
import Derived.Test.YtbgjlkbfelgglaaK2
namespace Go.Proofs.Ytbgjlkbfelgglaa
open Go.RowKit

def rsv (t : List UInt8) : Value := .string (tx t)

/-- A record, all but its deps. -/
structure Rc where
  kind : Int
  target : List UInt8
  rule : Int
  out : Int
  time : Int
  tag : List UInt8

/-- A dep. -/
structure Dp where
  name : List UInt8
  hash : Int
  order : Bool

def Dp.cells (d : Dp) : List Value := [rsv d.name, .int .u64 d.hash, .bool d.order]
def dps (l : List Dp) : List Value := l.flatMap Dp.cells

def rcv (r : Rc) (A : Option Addr) (n c : Nat) : Value := .agg #[.int .i64 r.kind, rsv r.target, .int .u64 r.rule, .slice A n c, .int .u64 r.out, .int .u64 r.time, rsv r.tag]
def restv (r : Rc) : Value := .agg #[.int .i64 r.kind, rsv r.target, rsv r.tag, .int .u64 r.rule, .int .u64 r.out, .int .u64 r.time]

set_option maxRecDepth 100000 in
set_option maxHeartbeats 400000 in
theorem rest_any (r : Rc) (A : Option Addr) (n c : Nat) (w : World) :
    Calls Try.prog 32 #[rcv r A n c] w fun e w' => e = .returned (restv r) ∧ Below w.heap.size w w' := by
  unfold rcv restv rsv
  have HB := Lib.hid (((Below.refl w.heap.size w).alloc (Nat.le_refl _) (.cells #[.int .i64 r.kind, .string (tx r.target), .int .u64 r.rule, .slice A n c, .int .u64 r.out, .int .u64 r.time, .string (tx r.tag)] 26)).alloc (by simp) (.cells #[.int .i64 r.kind, .string (tx r.target), .string (tx r.tag), .int .u64 r.rule, .int .u64 r.out, .int .u64 r.time] 59))
  go_enter Try.func32, Try.ntmps32
  go_wp2
  have hx : ∀ (a b : Obj), ((w.alloc a).alloc b).heap[w.heap.size + 1]? = some b := fun a b => by
    have h := @Array.getElem?_push_size _ (w.alloc a).heap b
    rwa [show (w.alloc a).heap.size = w.heap.size + 1 from Array.size_push _] at h
  refine bodyPost_ret (results_cell_row rfl _ _ _ _ _ _ _ rfl (hx _ _) Try.underlying59 rfl (by kernel_rfl)) rfl ?_
  exact ⟨rfl, HB.out⟩

end Go.Proofs.Ytbgjlkbfelgglaa
