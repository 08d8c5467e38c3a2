/- migrate: isWay, the steps. -/
import Derived.WalkKit
import Derived.Lib.Hide
import Derived.Test.YtbgjlkbfelgglaaProg
import Derived.Test.YtbgjlkbfelgglaaK2
namespace Go.Proofs.Ytbgjlkbfelgglaa
open Go.RowKit

def isWayB (v u : Int) : Bool := decide (1 ≤ v ∧ v ≤ u ∧ u ≤ 3)

set_option maxRecDepth 100000 in
set_option maxHeartbeats 400000 in
theorem way_any (v u : Int) (w : World) : Calls Try.prog 29 #[.int .i64 v, .int .i64 u] w fun e w' => e = .returned (.bool (isWayB v u)) ∧ w = w' := by
  by_cases h1 : 1 ≤ v
  · by_cases h2 : v ≤ u
    · by_cases h3 : u ≤ 3
      · have hb : Hid (isWayB v u = true) := decide_eq_true ⟨h1, h2, h3⟩
        go_enter Try.func29, Try.ntmps29
        go_wp2
        go_ret
        exact ⟨by rw [hb.out]; first | rfl | (congr 2; simp; omega), rfl⟩
      · have hb : Hid (isWayB v u = false) := decide_eq_false (by omega)
        go_enter Try.func29, Try.ntmps29
        go_wp2
        go_ret
        exact ⟨by rw [hb.out]; first | rfl | (congr 2; simp; omega), rfl⟩
    · have hb : Hid (isWayB v u = false) := decide_eq_false (by omega)
      have h3 : decide (v ≤ u) = false := decide_eq_false h2
      go_enter Try.func29, Try.ntmps29
      go_wp2
      go_ret
      exact ⟨by rw [hb.out]; first | rfl | (congr 2; simp; omega), rfl⟩
  · have hb : Hid (isWayB v u = false) := decide_eq_false (by omega)
    have h3 : decide (v ≥ 1) = false := decide_eq_false h1
    go_enter Try.func29, Try.ntmps29
    go_wp2
    go_ret
    exact ⟨by rw [hb.out]; first | rfl | (congr 2; simp; omega), rfl⟩

end Go.Proofs.Ytbgjlkbfelgglaa
