/- An append at a step of a region that draws its order; a row of structs whose cell is written. -/
import Derived.Maps.AppendAt
import Derived.OneCell
import Derived.Test.YtbaokcigfgfoaaaRk0
import Derived.Test.YtbaokcigfgfoaaaMw
namespace Go.Proofs.Ytbaokcigfgfoaaa
open Go.RowKit

theorem own_empty3 (w : World) (e : TypeId) : (w.alloc (.cells #[] e)).ownsRow w.heap.size e 3 (.slice (some ⟨w.heap.size, 0, none⟩) 0 0) 0 [] :=
  ⟨by simp, .inr ⟨w.heap.size, 0, #[], rfl, Nat.le_refl _, (by show (w.heap.push _)[w.heap.size]? = _; exact Array.getElem?_push_size), Nat.le_refl _, by unfold maxLen; omega, rfl, rfl⟩⟩

/-- A dep's Hash that is written: the row has deps still. -/
theorem deps_hash {w : World} {base n g c : Nat} {l : List Dp} (h : w.ownsRow base 60 3 (.slice (some ⟨g, 0, none⟩) n c) n (dps l)) (i : Nat) (d : Dp) (hd : l[i]? = some d) (z : Int) :
    (w.setCell ⟨g, i * 3 + 1, none⟩ (.int .u64 z)).ownsRow base 60 3 (.slice (some ⟨g, 0, none⟩) n c) n (dps (l.set i ⟨d.name, z, d.order⟩)) := by
  have hil : i < l.length := (List.getElem?_eq_some_iff.1 hd).1
  have hset : dps (l.set i ⟨d.name, z, d.order⟩) = (dps l).set (i * 3 + 1) (.int .u64 z) := by
    clear h
    induction l generalizing i with
    | nil => simp at hil
    | cons a l ih =>
      cases i with
      | zero =>
        obtain rfl : a = d := by simpa using hd
        rfl
      | succ i =>
        have ih' := ih i (by simpa using hd) (by simpa using hil)
        show Dp.cells a ++ dps (l.set i ⟨d.name, z, d.order⟩) = (Dp.cells a ++ dps l).set ((i + 1) * 3 + 1) (.int .u64 z)
        rw [ih', List.set_append_right _ _ (by simp [Dp.cells]; omega)]
        congr 2
        simp [Dp.cells]; omega
  obtain ⟨h1, ⟨h2, _⟩ | ⟨g', cap, cur, hv, hb, hg, hn, hm, hs, hx⟩⟩ := h
  · cases h2
  · have e1 : g = g' := by injection hv with e; injection e with e; injection e
    have e2 : c = cap := by injection hv
    subst e1 e2
    refine ⟨by rw [dps_len, List.length_set, ← dps_len]; exact h1, .inr ⟨g, c, cur.setIfInBounds (i * 3 + 1) (.int .u64 z), rfl, hb, set_same hg _ _, hn, hm, by simpa using hs, ?_⟩⟩
    rw [hset, ← hx, Array.toList_setIfInBounds]
    rw [List.take_set]

end Go.Proofs.Ytbaokcigfgfoaaa
