/- The mathematics of FoldParts: what is found in a fold. -/
import Derived.Test.YtbgjlkbfelgglaaGq0
import Derived.Test.YtbgjlkbfelgglaaGh
namespace Go.Proofs.Ytbgjlkbfelgglaa
open Go.RowKit

theorem state_look {zs : List Rw} (h : RightP zs) (u : List UInt8) : lastOf zs u = look Rw.t zs u := by
  cases e : look Rw.t zs u with
  | none =>
    unfold lastOf
    rw [List.find?_eq_none]
    intro y hy
    have := look_none.1 e y (by simpa using hy)
    simp [this]
  | some y =>
    obtain ⟨h1, h2⟩ := look_some e
    cases e2 : lastOf zs u with
    | none =>
      unfold lastOf at e2
      rw [List.find?_eq_none] at e2
      have h3 := e2 y (by simpa using h1)
      simp [h2, h.2 y h1] at h3
    | some z =>
      have h3 := List.find?_some e2
      simp at h3
      rw [up_one h.1 (lastOf_mem e2) h1 (h3.2.trans h2.symm)]
theorem look_says {zs ys : List Rw} (h : zs.map Rw.say = ys.map Rw.say) (u : List UInt8) : (look Rw.t zs u).map Rw.say = (look Rw.t ys u).map Rw.say := by
  have e : ∀ l : List Rw, (look Rw.t l u).map Rw.say = (l.map Rw.say).find? fun p => p.1.target == u := fun l => by
    unfold look
    rw [List.find?_map]
    rfl
  rw [e, e, h]
theorem right_says {zs ys : List Rw} (h : zs.map Rw.say = ys.map Rw.say) (hr : RightP ys) : RightP zs := by
  constructor
  · have h1 : (ys.map Rw.say).Pairwise fun a b => a.1.target < b.1.target := List.pairwise_map.2 hr.1
    rw [← h] at h1
    exact (List.pairwise_map (f := Rw.say) (R := fun a b : Rc × List Dp => a.1.target < b.1.target)).1 h1
  · intro z hz
    have h1 : z.say ∈ ys.map Rw.say := by rw [← h]; exact List.mem_map_of_mem hz
    obtain ⟨y, hy, e⟩ := List.mem_map.1 h1
    have h2 := hr.2 y hy
    have h3 : z.k = y.k := by
      show z.say.1.kind = _
      rw [← e]
      rfl
    rw [h3]
    exact h2
theorem fo_right (xs : List Rw) : RightP (fo Rw.k Rw.t xs) := ⟨fo_up xs, fun _ hx => (fo_mem hx).2⟩
theorem parts_found {xs zs : List Rw} (hs : zs.map Rw.say = (fo Rw.k Rw.t xs).map Rw.say) {i : Nat} {r : Rw} (hx : xs[i]? = some r) (hk : r.k = 1 ∨ r.k = 2) (hl : ∀ y ∈ xs.drop (i + 1), y.t = r.t → y.k ≠ 1 ∧ y.k ≠ 2)
    {rr : Rc} {ll : List Dp} {b : Bool} (ha : FAns zs r.t rr ll b) : b = decide (r.k = 1) ∧ (r.k = 1 → rr = r.r ∧ ll = r.l) := by
  have hsp : xs = xs.take i ++ r :: xs.drop (i + 1) := by
    obtain ⟨h1, h2⟩ := List.getElem?_eq_some_iff.1 hx
    rw [← h2, List.getElem_cons_drop, List.take_append_drop]
  have h1 := look_last (k := Rw.k) (t := Rw.t) (xs.take i) (xs.drop (i + 1)) r hk hl
  rw [← hsp] at h1
  have h2 := look_says hs r.t
  rw [h1] at h2
  unfold FAns at ha
  rw [state_look (right_says hs (fo_right xs))] at ha
  by_cases h3 : r.k = 1
  · rw [if_pos h3] at h2
    cases e : look Rw.t zs r.t with
    | none => rw [e] at h2; cases h2
    | some y =>
      rw [e] at h2 ha
      have h4 : y.say = r.say := by simpa using h2
      refine ⟨by rw [ha.1]; simp [h3], fun _ => ?_⟩
      have h5 : (rr, ll) = r.say := ha.2.trans h4
      exact ⟨congrArg Prod.fst h5, congrArg Prod.snd h5⟩
  · rw [if_neg h3] at h2
    cases e : look Rw.t zs r.t with
    | none =>
      rw [e] at ha
      exact ⟨by rw [ha.1]; simp [h3], fun h => absurd h h3⟩
    | some y => rw [e] at h2; cases h2

end Go.Proofs.Ytbgjlkbfelgglaa
