/- InternPlays: whatever the arguments are. -/
import Derived.Test.YtfdeafhmfmeafaaIl
namespace Go.Proofs.Ytfdeafhmfmeafaa
open Go.RowKit

theorem plays_any (L La : Option Addr) (m d ma da : Nat) (ts : List (List UInt8)) (acs : List Tk) (hts : ∀ s ∈ ts, s.length ≤ maxLen) (hfit : ∀ a ∈ acs, a.fits) (w : World)
    (hr : Reads w w.heap.size 1 L m (ts.map tsv)) (hra : Reads w w.heap.size 3 La ma (tks acs)) :
    Calls Try.prog 3 #[.slice L m d, .slice La ma da] w fun e w' => e = .returned (.bool true) ∧ Below w.heap.size w w' := by
  by_cases h : 60 < m ∨ 60 < ma
  · exact plays_long L La m d ma da h w
  · exact plays_short L La m d ma da w.heap.size ts acs (by omega) (by omega) hts hfit w rfl hr hra

end Go.Proofs.Ytfdeafhmfmeafaa
