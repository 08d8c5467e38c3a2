/- What a moved record is, in few words. -/
import Derived.Test.YtbgjlkbfelgglaaSd
import Derived.Test.YtbgjlkbfelgglaaRo
namespace Go.Proofs.Ytbgjlkbfelgglaa
open Go.RowKit

theorem and_mono {P : Prop} {e : Ending} {w w' : World} {b : Bool} (hp : b = true ↔ P) (h : Tells P e ∧ Below w.heap.size w w') : e = .returned (.bool b) ∧ Below w.heap.size w w' := by
  obtain ⟨⟨q, h1, h2⟩, h3⟩ := h
  exact ⟨by rw [h2]; congr 2; rw [Bool.eq_iff_iff, h1, hp], h3⟩
theorem movedR_one (t : List UInt8) (u o m : Int) (g : List UInt8) : movedR 1 3 ⟨1, t, u, o, m, g⟩ = ⟨1, t, u, o, 1, [111, 108, 100]⟩ := by simp [movedR]
theorem movedR_gone {v v2 : Int} {r : Rc} (h : r.kind ≠ 1) : movedR v v2 r = r := by simp [movedR, h]

end Go.Proofs.Ytbgjlkbfelgglaa
