/- Values at places in an order, by names. -/
import Derived.Test.YtcfmpajdhbcimaaXx
import Derived.Test.YtcfmpajdhbcimaaXc
namespace Go.Proofs.Ytcfmpajdhbcimaa

/-- Values at places in an order, by names. -/
def atG (g : Nat → Value) (P : List (List UInt8)) (i : Nat) : List UInt8 → Option Value := fun s => if s ∈ P.take i then some (g (P.idxOf s)) else none
theorem atG_step {g : Nat → Value} {P : List (List UInt8)} (hn : P.Nodup) {i : Nat} {a : List UInt8} (h : P[i]? = some a) (u : List UInt8) : fput (atG g P i) a (g i) u = atG g P (i + 1) u := by
  unfold fput atG
  rw [List.take_add_one, h]
  by_cases e : u = a
  · subst e
    rw [if_pos rfl, if_pos (by simp), idx_at hn h]
  · rw [if_neg e]
    have : u ∈ P.take i ++ (some a).toList ↔ u ∈ P.take i := by simp [e]
    simp only [this]
theorem atG_get {g : Nat → Value} {P : List (List UInt8)} (hn : P.Nodup) {i p : Nat} {s : List UInt8} {z : Value} (hp : p < i) (h : P[p]? = some s) : (atG g P i s).getD z = g p := by
  unfold atG
  have hm : s ∈ P.take i := by
    refine List.mem_of_getElem? (i := p) ?_
    rw [List.getElem?_take, if_pos hp]
    exact h
  rw [if_pos hm, idx_at hn h]
  rfl

end Go.Proofs.Ytcfmpajdhbcimaa
