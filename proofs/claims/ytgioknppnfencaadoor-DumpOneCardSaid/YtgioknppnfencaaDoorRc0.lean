/- Texts alike and unlike, as the walk spells them. -/
import Derived.Test.YtgioknppnfencaaDoorRb00
namespace Go.Proofs.YtgioknppnfencaaDoor
open Go.RowKit

theorem tx_unlike {s t : List UInt8} (h : s ≠ t) : ((tx s).toList == (tx t).toList) = false := by
  rw [beq_eq_false_iff_ne]
  intro e
  exact h (by simpa [tx] using e)
theorem tx_like (s : List UInt8) : ((tx s).toList == (tx s).toList) = true := by simp

end Go.Proofs.YtgioknppnfencaaDoor
