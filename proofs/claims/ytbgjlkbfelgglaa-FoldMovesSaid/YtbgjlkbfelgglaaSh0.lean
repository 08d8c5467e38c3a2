/- migrate.To between any two versions; what is moved. -/
import Derived.Test.YtbgjlkbfelgglaaSx0
namespace Go.Proofs.Ytbgjlkbfelgglaa
open Go.RowKit

theorem way_pairs {v v2 : Int} (h : isWayB v v2 = true) : (v = 1 ∧ v2 = 1) ∨ (v = 1 ∧ v2 = 2) ∨ (v = 1 ∧ v2 = 3) ∨ (v = 2 ∧ v2 = 2) ∨ (v = 2 ∧ v2 = 3) ∨ (v = 3 ∧ v2 = 3) := by
  have := of_decide_eq_true h
  omega

theorem to_pair (v v2 : Int) (hw : isWayB v v2 = true) (r : Rc) (A : Option Addr) (n c : Nat) (l : List Dp) (hn : n ≤ 1000) (hA : A = none → c = 0) (hfit : Fits r l) (hm : MayP v r l) (w : World) (h : Reads w w.heap.size 3 A n (dps l)) :
    Hid (∀ W, Below w.heap.size w W → Calls Try.prog 30 #[.int .i64 v, .int .i64 v2, rcv r A n c] W fun e w' => ∃ A' c', e = .returned (.tuple #[rcv (movedR v v2 r) A' n c', .int .i64 0]) ∧ Deps w' W.heap.size A' n c' l ∧ Below W.heap.size W w') := fun W hb => by
  have hrd : ∀ W2, Below W.heap.size W W2 → Reads W2 W2.heap.size 3 A n (dps l) := fun W2 hb2 => ((h.below hb).below (hb2.mono hb.size)).more (Nat.le_trans hb.size hb2.size)
  have hmay : ∀ W2, Below W.heap.size W W2 → Calls Try.prog 33 #[.int .i64 v, rcv r A n c] W2 fun e w' => e = .returned (.bool true) ∧ Below W2.heap.size W2 w' := fun W2 hb2 =>
    (may_any v r A n c l hn hfit W2 (hrd W2 hb2)).mono fun e w' h => and_mono (by simp [hm]) h
  obtain ⟨k, t, u, o, m, g⟩ := r
  by_cases hk : k = 1
  · subst hk
    rcases way_pairs hw with ⟨rfl, rfl⟩ | ⟨rfl, rfl⟩ | ⟨rfl, rfl⟩ | ⟨rfl, rfl⟩ | ⟨rfl, rfl⟩ | ⟨rfl, rfl⟩
    · rw [show movedR 1 1 ⟨1, t, u, o, m, g⟩ = ⟨1, t, u, o, m, g⟩ from by simp [movedR]]
      exact to_ok 1 1 1 t g g u o m m A n c l hw W hmay (fun W2 hb2 => moved_11 t g u o m A n c l hA (by omega) W2 (hrd W2 hb2))
    · rw [show movedR 1 2 ⟨1, t, u, o, m, g⟩ = ⟨1, t, u, o, 1, g⟩ from by simp [movedR]]
      exact to_ok 1 2 1 t g g u o m 1 A n c l hw W hmay (fun W2 hb2 => moved_12 t g u o m A n c l hA (by omega) W2 (hrd W2 hb2))
    · rw [movedR_one]
      exact to_ok 1 3 1 t g [111, 108, 100] u o m 1 A n c l hw W hmay (fun W2 hb2 => moved_13 t g u o m A n c l hA (by omega) W2 (hrd W2 hb2))
    · rw [show movedR 2 2 ⟨1, t, u, o, m, g⟩ = ⟨1, t, u, o, m, g⟩ from by simp [movedR]]
      exact to_ok 2 2 1 t g g u o m m A n c l hw W hmay (fun W2 hb2 => moved_22 t g u o m A n c l hA (by omega) W2 (hrd W2 hb2))
    · rw [show movedR 2 3 ⟨1, t, u, o, m, g⟩ = ⟨1, t, u, o, m, [111, 108, 100]⟩ from by simp [movedR]]
      exact to_ok 2 3 1 t g [111, 108, 100] u o m m A n c l hw W hmay (fun W2 hb2 => moved_23 t g u o m A n c l hA (by omega) W2 (hrd W2 hb2))
    · rw [show movedR 3 3 ⟨1, t, u, o, m, g⟩ = ⟨1, t, u, o, m, g⟩ from by simp [movedR]]
      exact to_ok 3 3 1 t g g u o m m A n c l hw W hmay (fun W2 hb2 => moved_33 t g u o m A n c l hA (by omega) W2 (hrd W2 hb2))
  · rw [movedR_gone (by exact hk)]
    exact to_ok v v2 k t g g u o m m A n c l hw W hmay (fun W2 hb2 => moved_gone v v2 k t g u o m A n c l hA (by omega) hk W2 (hrd W2 hb2))

/-- What is moved may be where it comes to. -/
theorem moved_may {v v2 : Int} {r : Rc} {l : List Dp} (hw : isWayB v v2 = true) (h : MayP v r l) : MayP v2 (movedR v v2 r) l := by
  have hp := of_decide_eq_true hw
  obtain ⟨k, t, u, o, m, g⟩ := r
  obtain ⟨h1, h2, h3, h4⟩ := h
  rcases h4 with ⟨h5, h6, h7, h8⟩ | ⟨h5, h6⟩
  · simp only at h5
    subst h5
    refine ⟨by omega, by omega, h3, .inl ⟨rfl, ?_, ?_, h8.1, fun d hd => ⟨(h8.2.1 d hd).1, fun ho => by have := (h8.2.1 d hd).2 ho; omega⟩, h8.2.2⟩⟩
    · show (if v ≤ 1 ∧ 2 ≤ v2 then (1 : Int) else m) = 0 ∨ 2 ≤ v2
      by_cases h9 : v ≤ 1 ∧ 2 ≤ v2
      · exact .inr h9.2
      · rw [if_neg h9]
        rcases h6 with h6 | h6
        · exact .inl h6
        · exact .inr (by omega)
    · show (if v ≤ 2 ∧ 3 ≤ v2 then ([111, 108, 100] : List UInt8) else g) = [] ∨ (3 ≤ v2 ∧ (if v ≤ 2 ∧ 3 ≤ v2 then ([111, 108, 100] : List UInt8) else g).length ≤ 64)
      by_cases h9 : v ≤ 2 ∧ 3 ≤ v2
      · rw [if_pos h9]
        exact .inr ⟨h9.2, by simp⟩
      · rw [if_neg h9]
        rcases h7 with h7 | h7
        · exact .inl h7
        · exact .inr ⟨by omega, h7.2⟩
  · simp only at h5
    subst h5
    rw [movedR_gone (by simp)]
    exact ⟨by omega, by omega, h3, .inr ⟨rfl, h6⟩⟩

/-- Two moves, one behind the other, are one. -/
theorem moved_two {v v1 v2 : Int} {r : Rc} (h1 : v ≤ v1) (h2 : v1 ≤ v2) : movedR v1 v2 (movedR v v1 r) = movedR v v2 r := by
  obtain ⟨k, t, u, o, m, g⟩ := r
  by_cases hk : k = 1
  · subst hk
    simp only [movedR, if_true]
    congr 1
    · by_cases a : v ≤ 1 ∧ 2 ≤ v1
      · rw [if_pos a, if_pos (show v ≤ 1 ∧ 2 ≤ v2 by omega)]
        split <;> rfl
      · rw [if_neg a]
        by_cases b : v1 ≤ 1 ∧ 2 ≤ v2
        · rw [if_pos b, if_pos (by omega)]
        · rw [if_neg b, if_neg (by omega)]
    · by_cases a : v ≤ 2 ∧ 3 ≤ v1
      · rw [if_pos a, if_pos (show v ≤ 2 ∧ 3 ≤ v2 by omega)]
        split <;> rfl
      · rw [if_neg a]
        by_cases b : v1 ≤ 2 ∧ 3 ≤ v2
        · rw [if_pos b, if_pos (by omega)]
        · rw [if_neg b, if_neg (by omega)]
  · rw [movedR_gone (v := v) (v2 := v1) (by exact hk), movedR_gone (by exact hk), movedR_gone (by exact hk)]

/-- What is moved is the same but for When and Tag. -/
theorem moved_same {v v2 : Int} {r : Rc} : (⟨(movedR v v2 r).kind, (movedR v v2 r).target, (movedR v v2 r).rule, (movedR v v2 r).out, r.time, r.tag⟩ : Rc) = r := by
  unfold movedR
  split <;> rfl
theorem moved_none {v : Int} {r : Rc} : movedR v v r = r := by
  unfold movedR
  split
  · rw [if_neg (by omega), if_neg (by omega)]
  · rfl

end Go.Proofs.Ytbgjlkbfelgglaa
