/- Name, in record. -/
import Derived.Test.YtgioknppnfencaaDoorRb00
namespace Go.Proofs.YtgioknppnfencaaDoor
open Go.RowKit

def isName (t : List UInt8) : Bool := decide (1 ≤ t.length ∧ t.length ≤ 64)

set_option maxRecDepth 100000 in
set_option maxHeartbeats 400000 in
theorem name_any (t : List UInt8) (w : World) : Calls Tryd.prog 45 #[rsv t] w fun e w' => e = .returned (.bool (isName t)) ∧ w = w' := by
  unfold rsv
  have hsz := tx_size0 t
  by_cases h0 : t = []
  · subst h0
    have he : (tx ([] : List UInt8)).toList = [] := by simp [tx]
    go_enter Tryd.func45, Tryd.ntmps45
    go_wp2
    go_ret
    exact ⟨rfl, rfl⟩
  · have h1 := tx_empty t h0
    have hl : 1 ≤ t.length := by
      rcases t with _ | ⟨a, t⟩
      · exact absurd rfl h0
      · simp
    obtain ⟨n, hn⟩ : ∃ n, n = t.length := ⟨_, rfl⟩
    rw [← hn] at hsz hl
    by_cases h2 : n ≤ 64
    · have hi : Hid (isName t = true) := by show isName t = true; unfold isName; rw [← hn]; exact decide_eq_true ⟨hl, h2⟩
      clear hn h0
      go_enter Tryd.func45, Tryd.ntmps45
      go_wp2
      go_ret
      exact ⟨by rw [hi.out]; first | rfl | (congr 2; simp; omega), rfl⟩
    · have hi : Hid (isName t = false) := by show isName t = false; unfold isName; rw [← hn]; exact decide_eq_false (by omega)
      have h3 : decide ((n : Int) ≤ 64) = false := by rw [decide_eq_false_iff_not]; omega
      clear hn h0
      go_enter Tryd.func45, Tryd.ntmps45
      go_wp2
      go_ret
      exact ⟨by rw [hi.out]; first | rfl | (congr 2; simp; omega), rfl⟩

end Go.Proofs.YtgioknppnfencaaDoor
