/- The walks of New, and of the document's own New and Fail. -/
import Derived.Handy
import Derived.Test.YtkpgnpiofhgcpaaJe
namespace Go.Proofs.Ytkpgnpiofhgcpaa
open Go.RowKit

def Cu.new (bs : List UInt8) (at_ : Int) : Cu := if at_ < 0 ∨ (bs.length : Int) < at_ then ⟨bs, 0, 1⟩ else ⟨bs, at_.toNat, 0⟩

theorem Cu.new_ok (bs : List UInt8) (at_ : Int) : (Cu.new bs at_).ok := by
  unfold Cu.new Cu.ok
  split
  · exact Nat.zero_le _
  · simp only; omega
theorem Cu.new_bs (bs : List UInt8) (at_ : Int) : (Cu.new bs at_).bs = bs := by unfold Cu.new; split <;> rfl

set_option maxRecDepth 100000 in
set_option maxHeartbeats 400000 in
theorem new_any (A : Option Addr) (n cap : Nat) (at_ : Int) (bs : List UInt8) (hn : n ≤ 1000000) (w : World) (hr : Reads w w.heap.size 1 A n (bs.map bv)) :
    Calls Try.prog 7 #[.slice A n cap, .int .i64 at_] w fun e w' => ∃ b, e = .returned (.pointer (some ⟨b, 0, none⟩)) ∧ w.heap.size ≤ b ∧ CurIn w' b b (Cu.new bs at_) ∧ Below w.heap.size w w' := by
  have hl : bs.length = n := by have := hr.1; simpa using this
  have HC := Lib.hid (clone_any A n cap w.heap.size bs (by omega) w (Nat.le_refl _) hr)
  have HN : Hid (Cu.new bs at_ = if at_ < 0 ∨ (n : Int) < at_ then ⟨bs, 0, 1⟩ else ⟨bs, at_.toNat, 0⟩) := by rw [← hl]; rfl
  have HRM : Hid (bs.length ≤ 1000000) := by rw [hl]; exact hn
  have HLEN := Lib.hid hl
  clear hr hl
  go_enter Try.func7, Try.ntmps7
  go_wp2_with fail
  refine HC.out.mono ?_
  rintro e w1 ⟨v, rfl, ho, hb⟩
  obtain ⟨A1, c1, rfl, hc1, hr1⟩ := own_reads ho
  obtain ⟨w2, hw2⟩ : ∃ w2, w2 = w1.alloc (.cells #[.slice A1 n c1, .int .i64 0, .int .i64 0] 54) := ⟨_, rfl⟩
  have hcur : CurIn w2 w1.heap.size w1.heap.size ⟨bs, 0, 0⟩ := by
    rw [hw2]
    exact ⟨Nat.zero_le _, HRM.out, Nat.le_refl _, A1, n, c1, hc1, hr1.alloc (Nat.le_refl _) _, by show (w1.heap.push _)[w1.heap.size]? = _; simp [cuCells]⟩
  have hb2 : Below w.heap.size w w2 := by rw [hw2]; exact hb.alloc hb.size _
  have hf := fail_any w1.heap.size w1.heap.size ⟨bs, 0, 0⟩ 1 w2 hcur
  have hlt := hb.size
  have hlt2 := hcur.lt
  have HCUR := Lib.hid hcur
  have HB2 := Lib.hid hb2
  have HLT := Lib.hid hlt
  rw [hw2] at hf
  have HF := Lib.hid hf
  have HW := Lib.hid hw2
  have HC1 := Lib.hid hc1
  have HR1 := Lib.hid hr1
  have HB1 := Lib.hid hb
  clear hc1 hcur hb2 hf hw2 ho hb hr1 HC hlt hlt2
  by_cases h1 : at_ < 0
  · have hn1 : Cu.new bs at_ = ⟨bs, 0, 1⟩ := by rw [HN.out, if_pos (.inl h1)]
    have HN1 := Lib.hid hn1
    clear hn1
    go_wp2_with fail
    refine HF.out.mono ?_
    rintro e w3 ⟨rfl, hc3, ho3⟩
    rw [← HW.out] at ho3
    go_wp2
    go_ret
    exact ⟨_, rfl, HLT.out, by rw [HN1.out]; exact hc3, HB2.out.trans (ho3.below HLT.out HB2.out.size)⟩
  · by_cases h2 : (n : Int) < at_
    · have hn1 : Cu.new bs at_ = ⟨bs, 0, 1⟩ := by rw [HN.out, if_pos (.inr h2)]
      have HN1 := Lib.hid hn1
      clear hn1
      go_wp2_with fail
      refine HF.out.mono ?_
      rintro e w3 ⟨rfl, hc3, ho3⟩
      rw [← HW.out] at ho3
      go_wp2
      go_ret
      exact ⟨_, rfl, HLT.out, by rw [HN1.out]; exact hc3, HB2.out.trans (ho3.below HLT.out HB2.out.size)⟩
    · have hn1 : Cu.new bs at_ = ⟨bs, at_.toNat, 0⟩ := by rw [HN.out, if_neg (by omega)]
      obtain ⟨k, hk⟩ : ∃ k : Nat, at_ = (k : Int) := ⟨at_.toNat, by omega⟩
      obtain ⟨w3, hw3⟩ : ∃ w3, w3 = w1.alloc (.cells #[.slice A1 n c1, .int .i64 (k : Int), .int .i64 0] 54) := ⟨_, rfl⟩
      have hset : CurIn w3 w1.heap.size w1.heap.size ⟨bs, k, 0⟩ := by
        rw [hw3]
        exact ⟨by show k ≤ bs.length; rw [HLEN.out]; omega, HRM.out, Nat.le_refl _, A1, n, c1, HC1.out, HR1.out.alloc (Nat.le_refl _) _, by show (w1.heap.push _)[w1.heap.size]? = _; simp [cuCells]⟩
      have hbs : Below w.heap.size w w3 := by rw [hw3]; exact HB1.out.alloc HB1.out.size _
      rw [hw3] at hset hbs
      have HSET := Lib.hid hset
      have HBS := Lib.hid hbs
      have hkk : at_.toNat = k := by omega
      rw [hkk] at hn1
      have HN1 := Lib.hid hn1
      subst hk
      clear hn1 hset hbs hkk hw3
      go_wp2
      go_ret
      exact ⟨_, rfl, HLT.out, by rw [HN1.out]; exact HSET.out, HBS.out⟩

/-- The document's cursor as a value of Go. -/
def cuv (c : Cu) : Value := .agg #[.string (tx c.bs), .int .i64 (c.at_ : Int), .int .i64 c.e]

set_option maxRecDepth 100000 in
theorem refnew_any (bs : List UInt8) (at_ : Int) (w : World) :
    Calls Try.prog 8 #[.string (tx bs), .int .i64 at_] w fun e w' => e = .returned (cuv (Cu.new bs at_)) ∧ Below w.heap.size w w' := by
  have HN : Hid (Cu.new bs at_ = if at_ < 0 ∨ (bs.length : Int) < at_ then ⟨bs, 0, 1⟩ else ⟨bs, at_.toNat, 0⟩) := rfl
  have hsz := tx_size bs
  obtain ⟨n, hnn⟩ : ∃ n, n = bs.length := ⟨_, rfl⟩
  rw [← hnn] at hsz HN
  by_cases h1 : at_ < 0
  · have hn1 : cuv (Cu.new bs at_) = .agg #[.string (tx bs), .int .i64 0, .int .i64 1] := by rw [HN.out, if_pos (.inl h1)]; rfl
    rw [hn1]
    generalize tx bs = s at *
    clear hn1 hnn
    go_enter Try.func8, Try.ntmps8
    go_wp2
    go_returns
    exact ⟨rfl, (Below.refl _ w).alloc (Nat.le_refl _) _⟩
  · by_cases h2 : (n : Int) < at_
    · have hn1 : cuv (Cu.new bs at_) = .agg #[.string (tx bs), .int .i64 0, .int .i64 1] := by rw [HN.out, if_pos (.inr h2)]; rfl
      rw [hn1]
      generalize tx bs = s at *
      clear hn1 hnn
      go_enter Try.func8, Try.ntmps8
      go_wp2
      go_returns
      exact ⟨rfl, (Below.refl _ w).alloc (Nat.le_refl _) _⟩
    · obtain ⟨k, hk⟩ : ∃ k : Nat, at_ = (k : Int) := ⟨at_.toNat, by omega⟩
      have hn1 : cuv (Cu.new bs at_) = .agg #[.string (tx bs), .int .i64 (k : Int), .int .i64 0] := by
        rw [HN.out, if_neg (by omega), show at_.toNat = k by omega]
        rfl
      rw [hn1]
      subst hk
      generalize tx bs = s at *
      clear hn1 hnn
      go_enter Try.func8, Try.ntmps8
      go_wp2
      go_returns
      exact ⟨rfl, (Below.refl _ w).alloc (Nat.le_refl _) _⟩

set_option maxRecDepth 100000 in
theorem reffail_any (c : Cu) (e0 : Int) (w : World) :
    Calls Try.prog 29 #[cuv c, .int .i64 e0] w fun e w' => e = .returned (cuv (c.fail e0)) ∧ Below w.heap.size w w' := by
  unfold cuv Cu.fail
  by_cases h0 : c.e = 0
  · rw [if_pos h0, h0]
    generalize tx c.bs = s at *
    generalize (c.at_ : Int) = x at *
    clear h0
    go_enter Try.func29, Try.ntmps29
    go_wp2
    go_returns
    exact ⟨rfl, ((Below.refl _ w).alloc (Nat.le_refl _) _).alloc (by simp) _⟩
  · rw [if_neg h0]
    generalize tx c.bs = s at *
    generalize (c.at_ : Int) = x at *
    generalize c.e = y at *
    go_enter Try.func29, Try.ntmps29
    go_wp2
    go_returns
    exact ⟨rfl, ((Below.refl _ w).alloc (Nat.le_refl _) _).alloc (by simp) _⟩

end Go.Proofs.Ytkpgnpiofhgcpaa
