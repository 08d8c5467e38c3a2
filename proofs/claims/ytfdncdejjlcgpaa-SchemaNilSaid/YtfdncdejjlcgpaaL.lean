/- The plain mathematics of numbers laid one behind the other, and cut off. -/
import Derived.Test.YtfdncdejjlcgpaaN
namespace Go.Proofs.Ytfdncdejjlcgpaa

/-- Numbers' bytes, one behind the other. -/
def lay : List Nat → List UInt8
  | [] => []
  | n :: l => vb n ++ lay l

theorem lay_append (a b : List Nat) : lay (a ++ b) = lay a ++ lay b := by
  induction a with
  | nil => rfl
  | cons n a ih => simp [lay, ih]

theorem lay_len : ∀ ns : List Nat, (∀ n ∈ ns, n < top) → (lay ns).length ≤ 10 * ns.length
  | [], _ => by simp [lay]
  | n :: l, h => by
    have h1 := vb_len n (h n (by simp))
    have h2 := lay_len l (fun m hm => h m (by simp [hm]))
    simp only [lay, List.length_append, List.length_cons]
    omega

theorem lay_succ {ns : List Nat} {i x : Nat} (h : ns[i]? = some x) : lay (ns.take (i + 1)) = lay (ns.take i) ++ vb x := by
  obtain ⟨hlt, rfl⟩ := List.getElem?_eq_some_iff.1 h
  rw [List.take_succ_eq_append_getElem hlt, lay_append]
  simp [lay]

theorem lay_split {ns : List Nat} {i x : Nat} (h : ns[i]? = some x) : lay ns = lay (ns.take i) ++ (vb x ++ lay (ns.drop (i + 1))) := by
  obtain ⟨hlt, rfl⟩ := List.getElem?_eq_some_iff.1 h
  have h1 : lay (ns.take i ++ ns.drop i) = lay (ns.take i) ++ lay (ns.drop i) := lay_append _ _
  rw [List.take_append_drop] at h1
  rw [h1, List.drop_eq_getElem_cons hlt, lay]

theorem cuts_at {ns : List Nat} {i x en : Nat} (h : ns[i]? = some x) :
    ((lay ns).take en).drop (lay (ns.take i)).length = (vb x ++ lay (ns.drop (i + 1))).take (en - (lay (ns.take i)).length) := by
  rw [lay_split h, List.drop_take]
  simp

theorem cuts_in {ns : List Nat} {i x en : Nat} (h : ns[i]? = some x) (hx : x < top) (hen : (lay (ns.take i)).length + (vb x).length ≤ en) :
    gr 0 0 (((lay ns).take en).drop (lay (ns.take i)).length) = (x, (vb x).length, 0) := by
  rw [cuts_at h, List.take_append]
  rw [List.take_of_length_le (by omega)]
  exact gr_laid0 _ x hx

theorem cuts_out {ns : List Nat} {i x en : Nat} (h : ns[i]? = some x) (hx : x < top) (h1 : (lay (ns.take i)).length ≤ en) (h2 : en < (lay (ns.take i)).length + (vb x).length) :
    gr 0 0 (((lay ns).take en).drop (lay (ns.take i)).length) = (0, 0, 2) := by
  rw [cuts_at h, List.take_append_of_le_length (by omega)]
  exact gr_cut0 x _ hx (by omega)

end Go.Proofs.Ytfdncdejjlcgpaa
