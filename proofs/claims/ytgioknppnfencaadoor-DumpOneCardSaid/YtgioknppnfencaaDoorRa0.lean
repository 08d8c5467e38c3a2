/- A record as a value; what it is made of. -/
import Derived.WalkKit
import Derived.Lib.Hide
import Derived.Test.YtgioknppnfencaaDoorProg
import Derived.Test.YtgioknppnfencaaDoorS
import Derived.Test.YtgioknppnfencaaDoorK2
namespace Go.Proofs.YtgioknppnfencaaDoor
open Go.RowKit

def rsv (t : List UInt8) : Value := .string (tx t)

/-- A record, all but its deps. -/
structure Rc where
  kind : Int
  target : List UInt8
  rule : Int
  out : Int
  time : Int
  tag : List UInt8

/-- A dep. -/
structure Dp where
  name : List UInt8
  hash : Int
  order : Bool

def Dp.cells (d : Dp) : List Value := [rsv d.name, .int .u64 d.hash, .bool d.order]
def dps (l : List Dp) : List Value := l.flatMap Dp.cells

def rcv (r : Rc) (A : Option Addr) (n c : Nat) : Value := .agg #[.int .i64 r.kind, rsv r.target, .int .u64 r.rule, .slice A n c, .int .u64 r.out, .int .u64 r.time, rsv r.tag]
def restv (r : Rc) : Value := .agg #[.int .i64 r.kind, rsv r.target, rsv r.tag, .int .u64 r.rule, .int .u64 r.out, .int .u64 r.time]

end Go.Proofs.YtgioknppnfencaaDoor
