/- What a call answers; records as cells; how long their texts may be. -/
import Derived.Test.YtgioknppnfencaaDoorRd
import Derived.Test.YtgioknppnfencaaDoorRn00
namespace Go.Proofs.YtgioknppnfencaaDoor
open Go.RowKit

def rcells (r : Rc) (A : Option Addr) (n c : Nat) : Array Value := #[.int .i64 r.kind, .string (tx r.target), .int .u64 r.rule, .slice A n c, .int .u64 r.out, .int .u64 r.time, .string (tx r.tag)]
/-- No text is longer than there can be one. -/
def Fits (r : Rc) (l : List Dp) : Prop := r.target.length ≤ maxLen ∧ r.tag.length ≤ maxLen ∧ ∀ d ∈ l, d.name.length ≤ maxLen
end Go.Proofs.YtgioknppnfencaaDoor
