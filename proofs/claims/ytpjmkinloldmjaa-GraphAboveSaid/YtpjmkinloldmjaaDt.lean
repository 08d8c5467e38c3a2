/- The way down: a text that came in, with its bound. -/
import Derived.Test.YtpjmkinloldmjaaS
import Derived.Test.YtpjmkinloldmjaaD
import Derived.SliceStrings
import Derived.ChangeMaps5
namespace Go.Proofs.Ytpjmkinloldmjaa
open Go.ChangeShapes Go.WideShapes Go.ChangeAt Go.RowKit

theorem open_textb {H : Type} {enc : TypeId × Value → H} {P : Program} {W : World} {t : TypeId} {v : Value} {d : DataW H} {ps : List MemPlace} {r : Reach} {b0 : Nat} (ht : P.underlying t = some .string)
    (hval : Value.okWide P W r b0 t v) (hd : DataW.Trod enc P W 0 (fun _ => true) true t v d ps) : ∃ bs : List UInt8, v = .string (tx bs) ∧ bs.length ≤ maxLen := by
  obtain ⟨s, rfl, _, _, h⟩ := ChangeMaps.open_string ht hval hd
  exact ⟨s.data.toList, by cases s; simp [tx], by rw [Array.length_toList]; exact h⟩

end Go.Proofs.Ytpjmkinloldmjaa
