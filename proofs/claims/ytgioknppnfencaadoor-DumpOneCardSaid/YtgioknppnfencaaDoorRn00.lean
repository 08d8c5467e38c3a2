/- What a call answers. -/
import Derived.Test.YtgioknppnfencaaDoorRb00
namespace Go.Proofs.YtgioknppnfencaaDoor
open Go.RowKit

theorem wrap_small {z : Int} (h0 : -9223372036854775808 ≤ z) (h1 : z ≤ 9223372036854775807) : IntKind.i64.wrap z = z := by simp [IntKind.wrap, IntKind.signed, IntKind.bits]; omega

/-- A call answers whether P is so. -/
def Tells (P : Prop) (e : Ending) : Prop := ∃ q : Bool, (q = true ↔ P) ∧ e = .returned (.bool q)
theorem tells_true {P : Prop} (h : P) : Tells P (.returned (.bool true)) := ⟨true, by simp [h], rfl⟩
theorem tells_false {P : Prop} (h : ¬ P) : Tells P (.returned (.bool false)) := ⟨false, by simp [h], rfl⟩
theorem Tells.iff {P Q : Prop} {e : Ending} (h : Tells P e) (hpq : P ↔ Q) : Tells Q e := by
  obtain ⟨q, h1, h2⟩ := h
  exact ⟨q, h1.trans hpq, h2⟩
theorem Tells.yes {P : Prop} {e : Ending} (h : Tells P e) (hp : P) : e = .returned (.bool true) := by
  obtain ⟨q, h1, h2⟩ := h
  rw [h2, h1.2 hp]
theorem Tells.no {P : Prop} {e : Ending} (h : Tells P e) (hp : ¬ P) : e = .returned (.bool false) := by
  obtain ⟨q, h1, h2⟩ := h
  rw [h2, show q = false from by rw [← Bool.not_eq_true, h1]; exact hp]

end Go.Proofs.YtgioknppnfencaaDoor
