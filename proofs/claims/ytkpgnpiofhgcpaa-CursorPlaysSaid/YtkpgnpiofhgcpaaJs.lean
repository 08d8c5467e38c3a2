/- The walk of New again: what it answers lies in memory of its own, said outright. -/
import Derived.Test.YtkpgnpiofhgcpaaJf
namespace Go.Proofs.Ytkpgnpiofhgcpaa
open Go.RowKit

theorem fail_new (w1 : World) (A : Option Addr) (n c : Nat) :
    Calls Try.prog 22 #[.pointer (some ⟨w1.heap.size, 0, none⟩), .int .i64 1] (w1.alloc (.cells #[.slice A n c, .int .i64 0, .int .i64 0] 54)) fun e w' => e = .returned (.tuple #[]) ∧ w' = w1.alloc (.cells #[.slice A n c, .int .i64 0, .int .i64 1] 54) := by
  go_enter Try.func22, Try.ntmps22
  go_wp2
  go_end0
  exact ⟨rfl, rfl⟩

set_option maxRecDepth 100000 in
set_option maxHeartbeats 400000 in
theorem new_own (A : Option Addr) (n cap : Nat) (at_ : Int) (bs : List UInt8) (hn : n ≤ 1000000) (w : World) (hr : Reads w w.heap.size 1 A n (bs.map bv)) :
    Calls Try.prog 7 #[.slice A n cap, .int .i64 at_] w fun e w' => ∃ (w1 : World) (A1 : Option Addr) (c1 : Nat), e = .returned (.pointer (some ⟨w1.heap.size, 0, none⟩)) ∧ w1.ownsRow w.heap.size 5 1 (.slice A1 n c1) n (bs.map bv) ∧ n ≤ c1 ∧ Below w.heap.size w w1 ∧
      w' = w1.alloc (.cells (cuCells A1 n c1 (Cu.new bs at_)) 54) := by
  have hl : bs.length = n := by have := hr.1; simpa using this
  have HC := Lib.hid (clone_any A n cap w.heap.size bs (by omega) w (Nat.le_refl _) hr)
  have HN : Hid (Cu.new bs at_ = if at_ < 0 ∨ (n : Int) < at_ then ⟨bs, 0, 1⟩ else ⟨bs, at_.toNat, 0⟩) := by rw [← hl]; rfl
  clear hr hl
  go_enter Try.func7, Try.ntmps7
  go_wp2_with fail
  refine HC.out.mono ?_
  rintro e w1 ⟨v, rfl, ho, hb⟩
  obtain ⟨A1, c1, rfl, hc1, _⟩ := own_reads ho
  have HO := Lib.hid ho
  have HB := Lib.hid hb
  have HC1 := Lib.hid hc1
  clear ho hb HC hc1
  by_cases h1 : at_ < 0
  · have hn1 : Cu.new bs at_ = ⟨bs, 0, 1⟩ := by rw [HN.out, if_pos (.inl h1)]
    have HN1 := Lib.hid hn1
    clear hn1
    go_wp2_with fail
    refine (fail_new w1 A1 n c1).mono ?_
    rintro e w3 ⟨rfl, rfl⟩
    go_wp2
    go_ret
    exact ⟨w1, A1, c1, rfl, HO.out, HC1.out, HB.out, by rw [HN1.out]; rfl⟩
  · by_cases h2 : (n : Int) < at_
    · have hn1 : Cu.new bs at_ = ⟨bs, 0, 1⟩ := by rw [HN.out, if_pos (.inr h2)]
      have HN1 := Lib.hid hn1
      clear hn1
      go_wp2_with fail
      refine (fail_new w1 A1 n c1).mono ?_
      rintro e w3 ⟨rfl, rfl⟩
      go_wp2
      go_ret
      exact ⟨w1, A1, c1, rfl, HO.out, HC1.out, HB.out, by rw [HN1.out]; rfl⟩
    · have hn1 : Cu.new bs at_ = ⟨bs, at_.toNat, 0⟩ := by rw [HN.out, if_neg (by omega)]
      obtain ⟨k, hk⟩ : ∃ k : Nat, at_ = (k : Int) := ⟨at_.toNat, by omega⟩
      have hkk : at_.toNat = k := by omega
      rw [hkk] at hn1
      have HN1 := Lib.hid hn1
      subst hk
      clear hn1 hkk
      go_wp2
      go_ret
      exact ⟨w1, A1, c1, rfl, HO.out, HC1.out, HB.out, by rw [HN1.out]; rfl⟩

end Go.Proofs.Ytkpgnpiofhgcpaa
