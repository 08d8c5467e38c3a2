/- What FrameTold stands on: how frames lie around the one that is turned. -/
import Derived.Test.YtoanmbhnhofoiaaDoorFo
import Derived.Test.YtoanmbhnhofoiaaDoorFi
import Derived.Test.YtoanmbhnhofoiaaDoorH
import Derived.Test.YtoanmbhnhofoiaaDoorCu
namespace Go.Proofs.YtoanmbhnhofoiaaDoor
open Go.RowKit

theorem frs_split {ps : List (List UInt8)} {k : Nat} {p : List UInt8} (h : ps[k]? = some p) : frs ps = frs (ps.take k) ++ (fr p ++ frs (ps.drop (k + 1))) := by
  have e : ps = ps.take k ++ (p :: ps.drop (k + 1)) := by
    conv => lhs; rw [← List.take_append_drop k ps]
    rw [List.drop_eq_getElem?_toList_append, h]
    rfl
  conv => lhs; rw [e]
  rw [frs_append]
  simp [frs]
theorem fend_at {ps : List (List UInt8)} {k : Nat} {p : List UInt8} (h : ps[k]? = some p) : fend ps k = (frs (ps.take k)).length + (fr p).length := by
  rw [fend, frs_succ h, List.length_append]

/-- One byte within is set. -/
theorem set_mid {pre c tail : List UInt8} {i : Nat} {y : UInt8} (h : i < c.length) : (pre ++ (c ++ tail)).set (pre.length + i) y = pre ++ (c.set i y ++ tail) := by
  rw [List.set_append, if_neg (by omega), Nat.add_sub_cancel_left, List.set_append, if_pos h]

theorem mid_at {pre c tail : List UInt8} {i : Nat} (h : i < c.length) : (pre ++ (c ++ tail))[pre.length + i]? = some c[i] := by
  rw [List.getElem?_append_right (by omega), Nat.add_sub_cancel_left, List.getElem?_append_left h, List.getElem?_eq_getElem h]

theorem take_set {c : List UInt8} {i n : Nat} {y : UInt8} (h : n ≤ i) : (c.set i y).take n = c.take n := by
  rw [List.take_set, List.set_eq_of_length_le (by rw [List.length_take]; omega)]

/-- At the head of a round: so many bits of the window have been gone over. -/
def TRel (n0 : Nat) (w : World) (pre tail p : List UInt8) (f0 first g K cap : Nat) (E : Value) (ends : List Value) (turned idx : Value) (wr : World) : Prop :=
  ∃ (i n : Nat) (c : List UInt8), i ≤ 32 ∧ idx = .int .i64 (i : Int) ∧ turned = .bool (decide (n ≠ 0)) ∧ wr.ownsRow n0 5 1 (.slice (some ⟨g, 0, none⟩) K cap) K ((pre ++ (c ++ tail)).map bv) ∧
    Turned (fr p) c first i n ∧ c.take f0 = vb p.length ∧ (n = 0 → c = fr p) ∧ wr.ownsRow n0 3 1 E ends.length ends ∧ Below n0 w wr

theorem fr_prefix (p : List UInt8) : (fr p).take (vb p.length).length = vb p.length := by
  unfold fr blob
  rw [List.append_assoc]
  exact List.take_left

theorem vb_two {n : Nat} (h1 : 128 ≤ n) (h2 : n ≤ 200) : (vb n).length = 2 := by
  rw [vb_ge h1, List.length_cons, vb_lt (by omega)]; rfl
theorem vb_one {n : Nat} (h1 : n < 128) : (vb n).length = 1 := by rw [vb_lt h1]; rfl

/-- Nothing was turned: all of them are told. -/
theorem run_whole (ps : List (List UInt8)) (h : ∀ q ∈ ps, pay q) : frun ((frs ps).length + 1) 0 (frs ps) = told 0 ps := by
  have h1 := frun_all ps ((frs ps).length + 1) h
  rw [Nat.add_comm ps.length, frun_room _ _ _ _ (by omega) (by omega)] at h1
  exact h1

/-- Something was: those ahead of it. -/
theorem run_turned (ps : List (List UInt8)) (k : Nat) (tail p c : List UInt8) (first m K : Nat) (h : ∀ q ∈ ps, pay q) (hp : pay p) (ht : Turned (fr p) c first 32 m) (hm : m ≠ 0) (hlen : c.take (vb p.length).length = vb p.length)
    (hK : (frs (ps.take k) ++ (c ++ tail)).length = K) : frun (K + 1) 0 (frs (ps.take k) ++ (c ++ tail)) = told 0 (ps.take k) := by
  have h1 := frun_turned (ps.take k) tail p c first m (K + 1) (fun q hq => h q (List.mem_of_mem_take hq)) hp ht hm hlen
  rw [Nat.add_comm (ps.take k).length, frun_room _ _ _ _ (by omega) (by omega)] at h1
  exact h1

end Go.Proofs.YtoanmbhnhofoiaaDoor
