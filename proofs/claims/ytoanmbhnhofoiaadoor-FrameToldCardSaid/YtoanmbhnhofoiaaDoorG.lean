/- The walks of varint.mayStand and of varint.Get: at every list of bytes and every place. -/
import Derived.WalkKit
import Derived.Lib.Hide
import Derived.Shelf.Abstract
import Derived.Test.YtoanmbhnhofoiaaDoorProg
import Derived.Test.YtoanmbhnhofoiaaDoorK
import Derived.Test.YtoanmbhnhofoiaaDoorN
import Derived.Outline
import Derived.Laws.Bits64b
namespace Go.Proofs.YtoanmbhnhofoiaaDoor
open Go.RowKit Go.Shelf

set_option maxHeartbeats 400000 in
theorem may_any (i x : Nat) (hi : i ≤ 9) (w : World) :
    Calls Tryd.prog 43 #[.int .i64 (i : Int), .int .u8 (x : Int)] w fun e w' => e = .returned (.bool (decide (¬ (i = 9 ∧ 1 < x) ∧ (i = 0 ∨ x ≠ 0)))) ∧ w = w' := by
  by_cases h1 : i = 9
  · subst h1
    by_cases h2 : 1 < x
    · go_enter Tryd.func43, Tryd.ntmps43
      go_wp2
      go_ret
      exact ⟨by simp [h2], rfl⟩
    · have h3 : ¬ (1 < (x : Int)) := by omega
      by_cases h0 : x = 0
      · subst h0
        go_enter Tryd.func43, Tryd.ntmps43
        go_wp2
        go_ret
        exact ⟨by simp, rfl⟩
      · have h4 : ((x : Int) == 0) = false := by simpa using h0
        have h5 : ((x : Int) != 0) = true := by simpa using h0
        go_enter Tryd.func43, Tryd.ntmps43
        go_wp2
        go_ret
        exact ⟨by simp, rfl⟩
  · have h9 : ((i : Int) == 9) = false := by simpa using (by omega : ¬ (i : Int) = 9)
    by_cases hi0 : i = 0
    · subst hi0
      go_enter Tryd.func43, Tryd.ntmps43
      go_wp2
      go_ret
      exact ⟨by simp, rfl⟩
    · have hz : ((i : Int) == 0) = false := by simpa using hi0
      by_cases h0 : x = 0
      · subst h0
        go_enter Tryd.func43, Tryd.ntmps43
        go_wp2
        go_ret
        exact ⟨by simp [h1, hi0], rfl⟩
      · have h5 : ((x : Int) != 0) = true := by simpa using h0
        go_enter Tryd.func43, Tryd.ntmps43
        go_wp2
        go_ret
        exact ⟨by simp [h1, h0], rfl⟩

theorem may_yes (i x : Nat) (hi : i ≤ 9) (h : ¬ (i = 9 ∧ 1 < x) ∧ (i = 0 ∨ x ≠ 0)) (w : World) :
    Calls Tryd.prog 43 #[.int .i64 (i : Int), .int .u8 (x : Int)] w fun e w' => e = .returned (.bool true) ∧ w = w' :=
  (may_any i x hi w).mono fun _ _ ⟨he, hw⟩ => ⟨by rw [he, decide_eq_true h], hw⟩
theorem may_no (i x : Nat) (hi : i ≤ 9) (h : ¬ (¬ (i = 9 ∧ 1 < x) ∧ (i = 0 ∨ x ≠ 0))) (w : World) :
    Calls Tryd.prog 43 #[.int .i64 (i : Int), .int .u8 (x : Int)] w fun e w' => e = .returned (.bool false) ∧ w = w' :=
  (may_any i x hi w).mono fun _ _ ⟨he, hw⟩ => ⟨by rw [he, decide_eq_false h], hw⟩

theorem or_add (a x k : Nat) (ha : a < 2 ^ k) : a ||| (x * 2 ^ k) = a + x * 2 ^ k := by
  have := Nat.two_pow_add_eq_or_of_lt ha x
  rw [Nat.or_comm, Nat.mul_comm, ← this, Nat.add_comm]

/-- 'n |= uint64(c%128) << (7*i)', n below what the bits reach: a sum. -/
theorem or_shift (a v i : Nat) (hi : i ≤ 9) (ha : a < 128 ^ i) (hv : i = 9 → v ≤ 1) :
    bits BinOp.or IntKind.u64 (a : Int) (IntKind.u64.wrap ((v : Int) % 128 * 2 ^ (7 * i))) = ((a + v % 128 * 128 ^ i : Nat) : Int) := by
  have e : (128 : Nat) ^ i = 2 ^ (7 * i) := by rw [show (128 : Nat) = 2 ^ 7 by rfl, ← Nat.pow_mul]
  rw [e] at ha ⊢
  have hx : v % 128 * 2 ^ (7 * i) < 18446744073709551616 := by
    by_cases h9 : i = 9
    · subst h9
      have := hv rfl
      have : v % 128 ≤ 1 := by omega
      have h2 : v % 128 * 2 ^ (7 * 9) ≤ 1 * 2 ^ (7 * 9) := Nat.mul_le_mul_right _ this
      omega
    · have h1 : 2 ^ (7 * i) ≤ 2 ^ 56 := Nat.pow_le_pow_right (by omega) (by omega)
      have h2 : v % 128 * 2 ^ (7 * i) ≤ 127 * 2 ^ 56 := Nat.mul_le_mul (by omega) h1
      omega
  have ha2 : a < 18446744073709551616 := by
    have h1 : 2 ^ (7 * i) ≤ 2 ^ 63 := Nat.pow_le_pow_right (by omega) (by omega)
    omega
  have ew : IntKind.u64.wrap ((v : Int) % 128 * 2 ^ (7 * i)) = ((v % 128 * 2 ^ (7 * i) : Nat) : Int) := by
    have e1 : ((v : Int) % 128 * 2 ^ (7 * i)) = ((v % 128 * 2 ^ (7 * i) : Nat) : Int) := by push_cast; rfl
    rw [e1, IntKind.wrap_u64]
    omega
  rw [ew, bits_or_u64_nat _ _ ha2 hx, or_add _ _ _ ha]

theorem byte_get {ys : List UInt8} {i : Nat} {u : Value} (h : (ys.map bv)[i]? = some u) : ∃ x : UInt8, u = .int .u8 (x.toNat : Int) ∧ ys[i]? = some x := by
  rw [List.getElem?_map] at h
  obtain ⟨x, hx, rfl⟩ := Option.map_eq_some_iff.1 h
  exact ⟨_, rfl, hx⟩

/-- The place behind what was read. -/
def gnext (at_ : Nat) (r : Nat × Nat × Nat) : Nat := if r.2.2 = 0 then at_ + r.2.1 else 0
/-- What Get answers. -/
def gres (at_ : Nat) (r : Nat × Nat × Nat) : Value := .tuple #[.int .u64 (r.1 : Int), .int .i64 (gnext at_ r : Int), .int .i64 (r.2.2 : Int)]

/-- A byte of a slice of bytes, and what stands from there on. -/
theorem byte_at {ys : List UInt8} {i : Nat} {u : Value} (h : (ys.map bv)[i]? = some u) : ∃ x : UInt8, u = .int .u8 (x.toNat : Int) ∧ ys.drop i = x :: ys.drop (i + 1) := by
  rw [List.getElem?_map] at h
  obtain ⟨x, hx, rfl⟩ := Option.map_eq_some_iff.1 h
  obtain ⟨hlt, rfl⟩ := List.getElem?_eq_some_iff.1 hx
  exact ⟨_, rfl, List.drop_eq_getElem_cons hlt⟩

set_option maxRecDepth 100000 in
set_option maxHeartbeats 400000 in
theorem get_bad (A : Option Addr) (n c : Nat) (at_ : Int) (h : at_ < 0 ∨ (n : Int) < at_) (w : World) :
    Calls Tryd.prog 38 #[.slice A n c, .int .i64 at_] w fun e w' => e = .returned (.tuple #[.int .u64 0, .int .i64 0, .int .i64 1]) ∧ w = w' := by
  by_cases h0 : at_ < 0
  · go_enter Tryd.func38, Tryd.ntmps38
    go_wp2
    go_ret3
    exact ⟨rfl, rfl⟩
  · have h1 : (n : Int) < at_ := by omega
    clear h
    go_enter Tryd.func38, Tryd.ntmps38
    go_wp2
    go_ret3
    exact ⟨rfl, rfl⟩

/-- At the head of a round of Get's loop. -/
def GRel (m : Nat) (r : Nat × Nat × Nat) (ys : List UInt8) (acc idx : Value) : Prop :=
  ∃ i a : Nat, i ≤ m ∧ i ≤ 9 ∧ idx = .int .i64 (i : Int) ∧ acc = .int .u64 (a : Int) ∧ r = gr i a (ys.drop i) ∧ a < 128 ^ i

set_option maxRecDepth 100000 in
set_option maxHeartbeats 400000 in
theorem get_on (A : Option Addr) (n c at_ B : Nat) (ys : List UInt8) (hc : ¬ c = at_) (hn : n ≤ 1073741824) (hat : at_ ≤ n) (w : World) (hr : Reads w B 1 (A.map (fun x => x.add at_)) (n - at_) (ys.map bv)) :
    Calls Tryd.prog 38 #[.slice A n c, .int .i64 (at_ : Int)] w fun e w' => e = .returned (gres at_ (gr 0 0 ys)) ∧ w = w' := by
  obtain ⟨A', hA⟩ : ∃ A', A' = A.map (fun x => x.add at_) := ⟨_, rfl⟩
  rw [← hA] at hr
  have HA := Lib.hid hA
  clear hA
  obtain ⟨m, hm⟩ : ∃ m, m = n - at_ := ⟨_, rfl⟩
  rw [← hm] at hr
  have HM := Lib.hid hm
  clear hm
  obtain ⟨r, hr0⟩ : ∃ r, r = gr 0 0 ys := ⟨_, rfl⟩
  rw [← hr0]
  have HR := Lib.hid hr0
  clear hr0
  have hd1 : decide ((at_ : Int) < 0) = false := decide_eq_false (by omega)
  have hd2 : decide (n < at_) = false := decide_eq_false (by omega)
  go_enter Tryd.func38, Tryd.ntmps38
  go_wp2
  rw [← HA.out, ← HM.out]
  go_loop [4, 21] (fun acc idx => GRel m r ys acc idx) (fun _ idx => m - (intOf idx).toNat)
  case atStart => exact ⟨0, 0, by omega, by omega, rfl, rfl, HR.out, by simp⟩
  case round =>
    obtain ⟨i, a, him, hi9, rfl, rfl, hG, hL⟩ := hrel
    have HG := Lib.hid hG
    have HL := Lib.hid hL
    clear hG hL
    by_cases hlt : i < m
    · obtain ⟨ad, u, rfl, _, hx, hcell⟩ := hr.at_ hlt
      obtain ⟨x, rfl, hd⟩ := byte_at hx
      obtain ⟨v, hv⟩ : ∃ v, v = x.toNat := ⟨_, rfl⟩
      have hv256 : v < 256 := by rw [hv]; exact x.toNat_lt
      have HG' : Hid (r = gr i a (x :: ys.drop (i + 1))) := by rw [← hd]; exact HG.out
      clear HG hd hx
      rw [← hv] at hcell
      have HV := Lib.hid hv
      clear hv
      by_cases hb : ¬ (i = 9 ∧ 1 < v) ∧ (i = 0 ∨ v ≠ 0)
      · have HB := Lib.hid hb
        clear hb
        by_cases h128 : v < 128
        · go_wp2_with (go_at_call 43; refine (may_yes i v hi9 HB.out _).mono ?_; rintro e w' ⟨rfl, rfl⟩)
          go_ret3
          have hr' : r = (a + v * 128 ^ i, i + 1, 0) := by rw [HG'.out, HV.out, gr_last (by rw [← HV.out]; exact HB.out) (by rw [← HV.out]; exact h128)]
          have hor := or_shift a v i hi9 HL.out (fun h9 => by have := HB.out.1; omega)
          rw [Nat.mod_eq_of_lt h128] at hor
          exact ⟨by rw [hor, hr', gres, gnext]; simp [Int.add_assoc], rfl⟩
        · have hor := or_shift a v i hi9 HL.out (fun h9 => by have := HB.out.1; omega)
          have HOR := Lib.hid hor
          clear hor
          have hi8 : i ≤ 8 := by have := HB.out.1; omega
          have HG2 : Hid (r = gr (i + 1) (a + v % 128 * 128 ^ i) (ys.drop (i + 1))) := by
            show r = _
            rw [HG'.out, HV.out, gr_on (by rw [← HV.out]; exact HB.out) (by rw [← HV.out]; exact h128)]
          have HL2 : Hid (a + v % 128 * 128 ^ i < 128 ^ (i + 1)) := by
            show _ < _
            have h1 := HL.out
            have h2 : v % 128 * 128 ^ i ≤ 127 * 128 ^ i := Nat.mul_le_mul_right _ (by omega)
            rw [Nat.pow_succ]; omega
          go_wp2_with (go_at_call 43; refine (may_yes i v hi9 HB.out _).mono ?_; rintro e w' ⟨rfl, rfl⟩)
          rw [HOR.out]
          go_round
          case rel => exact ⟨i + 1, _, by omega, by omega, by go_num, rfl, HG2.out, HL2.out⟩
          case measure => simp [intOf]; omega
      · have hr' : Hid (r = (0, 0, 3)) := by
          show r = _
          rw [HG'.out, gr_bad (by rw [← HV.out]; exact hb)]
        have HB := Lib.hid hb
        clear hb
        go_wp2_with (go_at_call 43; refine (may_no i v hi9 HB.out _).mono ?_; rintro e w' ⟨rfl, rfl⟩)
        go_ret3
        exact ⟨by rw [hr'.out]; rfl, rfl⟩
    · obtain rfl : i = m := by omega
      have hd : ys.drop i = [] := List.drop_eq_nil_of_le (by have := hr.1; simp at this; omega)
      have hr' : Hid (r = (0, 0, 2)) := by
        show r = _
        rw [HG.out, hd, gr]
      clear hd HG
      go_wp2
      go_ret3
      exact ⟨by rw [hr'.out]; rfl, rfl⟩

set_option maxRecDepth 100000 in
set_option maxHeartbeats 400000 in
theorem get_end (A : Option Addr) (n : Nat) (hn : n ≤ 1073741824) (w : World) :
    Calls Tryd.prog 38 #[.slice A n n, .int .i64 (n : Int)] w fun e w' => e = .returned (gres n (gr 0 0 [])) ∧ w = w' := by
  have hd1 : decide ((n : Int) < 0) = false := decide_eq_false (by omega)
  have hd2 : decide (n < n) = false := decide_eq_false (by omega)
  go_enter Tryd.func38, Tryd.ntmps38
  go_wp2
  go_loop [21] (fun idx => idx = .int .i64 0) (fun idx => 0)
  case atStart => rfl
  case round =>
    obtain rfl := hrel
    go_wp2
    go_ret3
    exact ⟨rfl, rfl⟩

/-- **Get, at every list of bytes and every place of it.** -/
theorem get_any (A : Option Addr) (n c at_ B : Nat) (bs : List UInt8) (hc : n ≤ c) (hn : n ≤ 1073741824) (hat : at_ ≤ n) (w : World) (hr : Reads w B 1 A n (bs.map bv)) :
    Calls Tryd.prog 38 #[.slice A n c, .int .i64 (at_ : Int)] w fun e w' => e = .returned (gres at_ (gr 0 0 (bs.drop at_))) ∧ w = w' := by
  by_cases h : c = at_
  · obtain rfl : c = n := by omega
    obtain rfl : at_ = c := h.symm
    have : bs.drop at_ = [] := List.drop_eq_nil_of_le (by have := hr.1; simp at this; omega)
    rw [this]
    exact get_end A at_ hn w
  · refine get_on A n c at_ B (bs.drop at_) h hn hat w ?_
    have := hr.cut (cap := c) hat hc
    rw [if_neg h, Nat.mul_one, ← List.map_drop] at this
    exact this

end Go.Proofs.YtoanmbhnhofoiaaDoor
