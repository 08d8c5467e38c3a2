/- Of texts: a byte, a part. -/
import Derived.Test.YthpnfdnhaphfgaaDoorS
namespace Go.Proofs.YthpnfdnhaphfgaaDoor
open Go.RowKit

theorem tx_at (l : List UInt8) (i : Nat) (x : UInt8) (h : l[i]? = some x) (hp : i < (tx l).size) : ((tx l)[i]'hp).toNat = x.toNat := by
  obtain ⟨h1, h2⟩ := List.getElem?_eq_some_iff.1 h
  rw [← h2]
  rfl

theorem tx_extract (l : List UInt8) (a b : Nat) : (tx l).extract a b = tx ((l.take b).drop a) := by
  apply ByteArray.ext
  simp [tx, ByteArray.data_extract]
  rw [List.drop_take]

end Go.Proofs.YthpnfdnhaphfgaaDoor
