/- Rows of structs appended to. -/
import Derived.Test.YtgioknppnfencaaDoorRd
import Derived.Test.YtgioknppnfencaaDoorH
import Derived.RegionTactic
import Derived.Maps.AppendAt
import Derived.Test.YtgioknppnfencaaDoorMw
namespace Go.Proofs.YtgioknppnfencaaDoor
open Go.RowKit

theorem dps_one (l : List Dp) : ∀ u ∈ dps l, u.oneCell' = true := by
  intro u hu
  obtain ⟨d, _, hd⟩ := List.mem_flatMap.1 hu
  simp only [Dp.cells, rsv, List.mem_cons, List.not_mem_nil, or_false] at hd
  rcases hd with rfl | rfl | rfl <;> rfl

/-- A row of deps in memory of its own. -/
def Deps (w : World) (base : Nat) (A : Option Addr) (n c : Nat) (l : List Dp) : Prop := w.ownsRow base 56 3 (.slice A n c) n (dps l) ∧ (A = none → c = 0)

end Go.Proofs.YtgioknppnfencaaDoor
