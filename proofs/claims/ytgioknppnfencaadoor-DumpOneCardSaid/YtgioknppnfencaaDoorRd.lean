/- Deps as they lie in memory. -/
import Derived.Test.YtgioknppnfencaaDoorRc
namespace Go.Proofs.YtgioknppnfencaaDoor
open Go.RowKit

theorem dps_len (l : List Dp) : (dps l).length = l.length * 3 := by
  induction l with
  | nil => rfl
  | cons t l ih => simp [dps, Dp.cells] at *; omega
theorem dps_at : ∀ (l : List Dp) (i : Nat) (t : Dp), l[i]? = some t → (dps l)[i * 3]? = some (rsv t.name) ∧ (dps l)[i * 3 + 1]? = some (.int .u64 t.hash) ∧ (dps l)[i * 3 + 2]? = some (.bool t.order)
  | [], i, t, h => by simp at h
  | a :: l, 0, t, h => by
    have : a = t := by simpa using h
    subst this
    exact ⟨rfl, rfl, rfl⟩
  | a :: l, i + 1, t, h => by
    have := dps_at l i t (by simpa using h)
    have e : ∀ j, (dps (a :: l))[(i + 1) * 3 + j]? = (dps l)[i * 3 + j]? := fun j => by
      show (Dp.cells a ++ dps l)[(i + 1) * 3 + j]? = _
      rw [List.getElem?_append_right (by simp [Dp.cells]; omega)]
      congr 1
      simp [Dp.cells]; omega
    exact ⟨(e 0).trans this.1, (e 1).trans this.2.1, (e 2).trans this.2.2⟩

theorem add_one (a : Addr) (k : Nat) : a.add (k + 1) = ⟨(a.add k).block, (a.add k).off + 1, none⟩ := by
  unfold Addr.add
  by_cases h : k = 0
  · subst h; rfl
  · simp [h, Nat.add_assoc]
theorem add_two (a : Addr) (k : Nat) : a.add (k + 2) = ⟨(a.add k).block, (a.add k).off + 2, none⟩ := by
  unfold Addr.add
  by_cases h : k = 0
  · subst h; rfl
  · simp [h, Nat.add_assoc]


end Go.Proofs.YtgioknppnfencaaDoor
