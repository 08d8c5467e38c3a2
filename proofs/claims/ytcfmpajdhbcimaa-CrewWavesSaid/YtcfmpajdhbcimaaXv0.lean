/- A rising list that grows by insertion; the head of a row of one's own. -/
import Derived.Test.YtcfmpajdhbcimaaGj
import Derived.Test.YtcfmpajdhbcimaaMw
namespace Go.Proofs.Ytcfmpajdhbcimaa
open Go.RowKit

/-- What was sorted so far. -/
def SInv (out : List (List UInt8)) (i : Nat) (S : List (List UInt8)) : Prop := S.Pairwise (fun a b => a < b) ∧ S.length = i ∧ ∀ u, u ∈ S ↔ u ∈ out.take i
theorem sinv_next {out S : List (List UInt8)} {i k : Nat} {x : List UInt8} (h : SInv out i S) (hx : out[i]? = some x) (hk : k ≤ i) (hup : ∀ y ∈ S.drop k, x < y) (hlow : ∀ y ∈ S.take k, y < x) : SInv out (i + 1) (S.take k ++ x :: S.drop k) := by
  refine ⟨List.pairwise_append.2 ⟨h.1.sublist (List.take_sublist _ _), List.pairwise_cons.2 ⟨hup, h.1.sublist (List.drop_sublist _ _)⟩, fun a ha b hb => ?_⟩, ?_, fun u => ?_⟩
  · rcases List.mem_cons.1 hb with rfl | hb
    · exact hlow a ha
    · exact lx_trans (hlow a ha) (hup b hb)
  · have := h.2.1
    simp
    omega
  · rw [List.take_add_one, hx, List.mem_append, List.mem_cons, List.mem_append, ← h.2.2 u]
    conv => rhs; rw [← List.take_append_drop k S, List.mem_append]
    simp
    constructor
    · rintro (h | h | h)
      · exact .inl (.inl h)
      · exact .inr h
      · exact .inl (.inr h)
    · rintro ((h | h) | h)
      · exact .inl h
      · exact .inr (.inr h)
      · exact .inr (.inl h)
theorem sinv_new {out S : List (List UInt8)} {i : Nat} {x : List UInt8} (h : SInv out i S) (hn : out.Nodup) (hx : out[i]? = some x) : x ∉ S := fun hx2 => by
  have h1 := (h.2.2 x).1 hx2
  obtain ⟨j, hj⟩ := List.getElem?_of_mem h1
  rw [List.getElem?_take] at hj
  split at hj
  · rename_i hlt
    obtain ⟨a1, a2⟩ := List.getElem?_eq_some_iff.1 hj
    obtain ⟨b1, b2⟩ := List.getElem?_eq_some_iff.1 hx
    have := (List.getElem_inj hn).1 (a2.trans b2.symm)
    omega
  · cases hj
theorem take_low {S : List (List UInt8)} {k : Nat} {x y : List UInt8} (h : S.Pairwise (fun a b => a < b)) (hy : S[k]? = some y) (hlt : y < x) : ∀ z ∈ S.take (k + 1), z < x := fun z hz => by
  rw [List.take_add_one, hy] at hz
  rcases List.mem_append.1 hz with hz | hz
  · obtain ⟨j, hj⟩ := List.getElem?_of_mem hz
    rw [List.getElem?_take] at hj
    split at hj
    · rename_i hjk
      obtain ⟨a1, a2⟩ := List.getElem?_eq_some_iff.1 hj
      obtain ⟨b1, b2⟩ := List.getElem?_eq_some_iff.1 hy
      have := List.pairwise_iff_getElem.1 h j k a1 b1 hjk
      rw [a2, b2] at this
      exact lx_trans this hlt
    · cases hj
  · have : z = y := by simpa using hz
    rw [this]; exact hlt
theorem drop_up {S : List (List UInt8)} {k : Nat} {x y : List UInt8} (hy : S[k]? = some y) (hlt : x < y) (h : ∀ z ∈ S.drop (k + 1), x < z) : ∀ z ∈ S.drop k, x < z := fun z hz => by
  obtain ⟨h1, h2⟩ := List.getElem?_eq_some_iff.1 hy
  rw [List.drop_eq_getElem_cons h1, h2] at hz
  rcases List.mem_cons.1 hz with rfl | hz
  · exact hlt
  · exact h z hz
theorem own_trunc {w : World} {base size : Nat} {e : TypeId} {A : Option Addr} {n c k : Nat} {xs : List Value} (h : w.ownsRow base e size (.slice A n c) n xs) (hk : k ≤ n) : w.ownsRow base e size (.slice A k c) k (xs.take (k * size)) := by
  obtain ⟨h1, ⟨h2, h3⟩ | ⟨g, cap, cur, hv, hb, hg, hn, hm, hs, hx⟩⟩ := h
  · injection h2 with e1 e2 e3
    subst e1 e2 e3
    obtain rfl : k = 0 := by omega
    exact ⟨by simp, .inl ⟨rfl, rfl⟩⟩
  · injection hv with e1 e2 e3
    subst e1 e3
    refine ⟨by rw [List.length_take, h1, Nat.min_eq_left (Nat.mul_le_mul_right _ hk)], .inr ⟨g, c, cur, rfl, hb, hg, by omega, hm, hs, ?_⟩⟩
    rw [← hx, List.take_take, Nat.min_eq_left (Nat.mul_le_mul_right _ hk)]

end Go.Proofs.Ytcfmpajdhbcimaa
