/- The walk of VarintOrder: it returns true at any two numbers. -/
import Derived.Test.YtclceinoekebcaaF
namespace Go.Proofs.Ytclceinoekebcaa
open Go.RowKit Go.Shelf

/-- At the head of a round: the counter. -/
def ORel (n : Nat) (idx : Value) : Prop := ∃ i : Nat, i ≤ n ∧ idx = .int .i64 (i : Int)

set_option maxRecDepth 100000 in
set_option maxHeartbeats 1000000 in
theorem order_core (a b lo hi : Nat) (hlo : lo < top) (hhi : hi < top) (hc : (a < b ∧ lo = a ∧ hi = b) ∨ (a = b ∧ lo = a ∧ hi = a) ∨ (b < a ∧ lo = b ∧ hi = a)) (w : World) :
    Calls Try.prog 5 #[.int .u64 (a : Int), .int .u64 (b : Int)] w fun e w' => e = .returned (.bool true) ∧ Below w.heap.size w w' := by
  have HLO := Lib.hid hlo
  have HHI := Lib.hid hhi
  have hle : lo ≤ hi := by omega
  have hm := vb_mono lo hi hle
  have hp := vb_pos lo
  have hl := vb_len hi hhi
  have heq : ((vb lo == vb hi) = ((a : Int) == (b : Int))) := by
    rw [Bool.eq_iff_iff, beq_iff_eq, beq_iff_eq]
    constructor
    · intro h
      have := vb_inj h
      omega
    · intro h
      have : lo = hi := by omega
      rw [this]
  have HEQ := Lib.hid heq
  clear hlo hhi heq hle
  obtain ⟨n1, hn1⟩ : ∃ n1, n1 = (vb lo).length := ⟨_, rfl⟩
  obtain ⟨n2, hn2⟩ : ∃ n2, n2 = (vb hi).length := ⟨_, rfl⟩
  rw [← hn1] at hm hp
  rw [← hn2] at hm hl
  have HN1 := Lib.hid hn1
  have HN2 := Lib.hid hn2
  clear hn1 hn2
  rcases hc with ⟨h, rfl, rfl⟩ | ⟨rfl, rfl, rfl⟩ | ⟨h, rfl, rfl⟩
  all_goals
    go_enter Try.func5, Try.ntmps5
    go_wp2_with fail
    refine (put_nil _ (by first | exact HLO.out | exact HHI.out) _).mono ?_
    rintro e w1 ⟨v1, rfl, ho1, hb1⟩
    rw [← HN1.out] at ho1
    obtain ⟨A1, c1, rfl, _, hr1⟩ := own_reads ho1
    go_wp2_with fail
    refine (put_nil _ (by first | exact HHI.out | exact HLO.out) _).mono ?_
    rintro e w2 ⟨v2, rfl, ho2, hb2⟩
    rw [← HN2.out] at ho2
    obtain ⟨A2, c2, rfl, _, hr2⟩ := own_reads ho2
    have hd1 : decide (n2 < n1) = false := decide_eq_false (by omega)
    have hd2 : decide ((n1 : Int) < 1) = false := decide_eq_false (by omega)
    have hd3 : decide ((10 : Int) < n2) = false := decide_eq_false (by omega)
    clear ho1 ho2
    have hbw2 : Below w.heap.size w w2 := hb1.trans (hb2.mono hb1.size)
    replace hr1 := (hr1.below hb2).more hb2.size
    clear hb1 hb2
    go_wp2_with fail
    go_loop [34] (fun idx => ORel n2 idx) (fun idx => n2 - (intOf idx).toNat)
    case atStart => exact ⟨0, by omega, rfl⟩
    case round =>
      obtain ⟨i, hi, rfl⟩ := hrel
      by_cases hlt : i < n2
      · obtain ⟨ad, u, rfl, _, hx, hcell⟩ := hr2.at_ hlt
        obtain ⟨x, rfl, hxi⟩ := byte_get hx
        have hgo := vb_goes _ i x hxi
        rw [← HN2.out] at hgo
        obtain ⟨y, hy⟩ : ∃ y, y = x.toNat := ⟨_, rfl⟩
        rw [← hy] at hcell hgo
        clear hx hxi hy
        by_cases hg : i + 1 < n2
        · have h128 : 128 ≤ y := hgo.2 hg
          have hg' : (i : Int) < (n2 : Int) - 1 := by omega
          have hbd : decide ((128 : Int) ≤ (y : Int)) = true := decide_eq_true (by omega)
          clear hgo hg
          go_wp2
          exact ⟨⟨i + 1, by omega, by go_num⟩, by simp [intOf]; omega⟩
        · have h128 : y < 128 := by
            rcases Nat.lt_or_ge y 128 with h | h
            · exact h
            · exact absurd (hgo.1 h) hg
          have hg' : ¬ ((i : Int) < (n2 : Int) - 1) := by omega
          have hbd : decide ((128 : Int) ≤ (y : Int)) = false := decide_eq_false (by omega)
          clear hgo hg
          go_wp2
          exact ⟨⟨i + 1, by omega, by go_num⟩, by simp [intOf]; omega⟩
      · obtain rfl : i = n2 := by omega
        clear hlt hi
        have htl := tx_toList
        go_wp2_with (go_at_call 7; refine (fixed_any _).mono ?_; rintro e w3 ⟨rfl, hb3⟩; have hcv1 := conv_reads (P := Try.prog) (src := 22) (dst := 9) (c := c1) Try.underlying22 Try.underlying5 Try.underlying9 (hr1.below hb3); have hcv2 := conv_reads (P := Try.prog) (src := 22) (dst := 9) (c := c2) Try.underlying22 Try.underlying5 Try.underlying9 (hr2.below hb3))
        try rw [HEQ.out, beq_self_eq_true]
        go_ret
        exact ⟨rfl, hbw2.trans (hb3.mono hbw2.size)⟩

theorem order_any (a b : Nat) (ha : a < top) (hb : b < top) (w : World) :
    Calls Try.prog 5 #[.int .u64 (a : Int), .int .u64 (b : Int)] w fun e w' => e = .returned (.bool true) ∧ Below w.heap.size w w' := by
  rcases Nat.lt_trichotomy a b with h | h | h
  · exact order_core a b a b ha hb (.inl ⟨h, rfl, rfl⟩) w
  · exact order_core a b a a ha ha (.inr (.inl ⟨h, rfl, rfl⟩)) w
  · exact order_core a b b a hb ha (.inr (.inr ⟨h, rfl, rfl⟩)) w

end Go.Proofs.Ytclceinoekebcaa
