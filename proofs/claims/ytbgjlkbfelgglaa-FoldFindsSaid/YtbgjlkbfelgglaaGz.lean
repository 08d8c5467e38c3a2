/- The way down: one text that came in. -/
import Derived.Test.YtbgjlkbfelgglaaRs
namespace Go.Proofs.Ytbgjlkbfelgglaa
open Go.ChangeShapes Go.WideShapes Go.ChangeAt Go.RowKit Go.Deep

theorem open_str1 {H : Type} {enc : TypeId × Value → H} {P : Program} {W : World} {t : TypeId} {v : Value} {d : DataW H} {ps : List MemPlace} {r : Reach} {b0 : Nat} (ht : P.underlying t = some .string)
    (hval : Value.okWide P W r b0 t v) (hd : DataW.Trod enc P W 0 (fun _ => true) true t v d ps) : ∃ bs : List UInt8, v = rsv bs ∧ bs.length ≤ maxLen := by
  obtain ⟨s, rfl, _, _, h⟩ := ChangeMaps.open_string ht hval hd
  exact ⟨s.data.toList, by rw [rsv, r_tx_back], by rw [Array.length_toList]; exact h⟩

end Go.Proofs.Ytbgjlkbfelgglaa
