/- Texts: how long, and not empty. -/
import Derived.Test.YtgioknppnfencaaDoorRa0
namespace Go.Proofs.YtgioknppnfencaaDoor
open Go.RowKit

theorem tx_size0 (t : List UInt8) : (tx t).size = t.length := by simp [tx, ByteArray.size]
theorem tx_empty (t : List UInt8) (h : t ≠ []) : ((tx t).toList == []) = false := by
  rw [beq_eq_false_iff_ne]
  intro e
  exact h (by simpa [tx] using e)

end Go.Proofs.YtgioknppnfencaaDoor
