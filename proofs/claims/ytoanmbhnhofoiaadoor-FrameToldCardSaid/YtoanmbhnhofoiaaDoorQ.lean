/- The walk of the document's Get: at every text and every place. -/
import Derived.Test.YtoanmbhnhofoiaaDoorR
namespace Go.Proofs.YtoanmbhnhofoiaaDoor
open Go.RowKit Go.Shelf

/-- At the head of a round of the document's loop. -/
def QRel (at_ : Nat) (r : Nat × Nat × Nat) (bs : List UInt8) (acc times idx : Value) : Prop :=
  ∃ i a t : Nat, at_ + i ≤ bs.length ∧ i ≤ 9 ∧ idx = .int .i64 (i : Int) ∧ acc = .int .u64 (a : Int) ∧ times = .int .u64 (t : Int) ∧ t = 128 ^ i ∧ r = gr i a (bs.drop (at_ + i)) ∧ a < 128 ^ i

theorem acc_ok (a t v i : Nat) (hi : i ≤ 9) (ht : t = 128 ^ i) (ha : a < 128 ^ i) (hv : i = 9 → v ≤ 1) :
    IntKind.u64.wrap ((a : Int) + IntKind.u64.wrap ((t : Int) * ((v : Int) % 128))) = ((a + v % 128 * 128 ^ i : Nat) : Int) := by
  have hx : v % 128 * 128 ^ i < 9223372036854775809 := by
    by_cases h9 : i = 9
    · subst h9
      have := hv rfl
      have h2 : v % 128 * 128 ^ 9 ≤ 1 * 128 ^ 9 := Nat.mul_le_mul_right _ (by omega)
      omega
    · have h1 : 128 ^ i ≤ 128 ^ 8 := Nat.pow_le_pow_right (by omega) (by omega)
      have h2 : v % 128 * 128 ^ i ≤ 127 * 128 ^ 8 := Nat.mul_le_mul (by omega) h1
      omega
  have ha2 : a < 9223372036854775808 := by
    have h1 : 128 ^ i ≤ 128 ^ 9 := Nat.pow_le_pow_right (by omega) (by omega)
    omega
  have e1 : ((t : Int) * ((v : Int) % 128)) = ((v % 128 * 128 ^ i : Nat) : Int) := by
    rw [ht]; push_cast; rw [Int.mul_comm]
  rw [e1]
  have e2 : IntKind.u64.wrap ((v % 128 * 128 ^ i : Nat) : Int) = ((v % 128 * 128 ^ i : Nat) : Int) := by
    rw [IntKind.wrap_u64]; omega
  rw [e2, IntKind.wrap_u64]
  omega

theorem times_ok (t i : Nat) (hi : i ≤ 8) (ht : t = 128 ^ i) : IntKind.u64.wrap ((t : Int) * 128) = ((128 ^ (i + 1) : Nat) : Int) := by
  have h1 : 128 ^ i ≤ 128 ^ 8 := Nat.pow_le_pow_right (by omega) (by omega)
  rw [Nat.pow_succ, ← ht]
  rw [← ht] at h1
  rw [IntKind.wrap_u64]
  omega

theorem drop_at {bs : List UInt8} {s : ByteArray} (hs : s = tx bs) (k : Nat) (h : k < s.size) : ∃ x : UInt8, x.toNat = s[k].toNat ∧ bs.drop k = x :: bs.drop (k + 1) := by
  subst hs
  have hk : k < bs.length := by rw [tx_size] at h; exact h
  exact ⟨bs[k], rfl, List.drop_eq_getElem_cons hk⟩

set_option maxRecDepth 100000 in
set_option maxHeartbeats 400000 in
theorem refget_on (at_ : Nat) (bs : List UInt8) (hn : bs.length ≤ 1073741824) (hat : at_ ≤ bs.length) (w : World) :
    Calls Tryd.prog 39 #[.string (tx bs), .int .i64 (at_ : Int)] w fun e w' => e = .returned (gres at_ (gr 0 0 (bs.drop at_))) ∧ w = w' := by
  obtain ⟨s, hs⟩ : ∃ s, s = tx bs := ⟨_, rfl⟩
  have hsz : s.size = bs.length := by rw [hs, tx_size]
  rw [← hs]
  obtain ⟨r, hr0⟩ : ∃ r, r = gr 0 0 (bs.drop at_) := ⟨_, rfl⟩
  rw [← hr0]
  have hn' : s.size ≤ 1073741824 := by omega
  have hat' : at_ ≤ s.size := by omega
  have hd1 : decide ((at_ : Int) < 0) = false := decide_eq_false (by omega)
  have hd2 : decide (s.size < at_) = false := decide_eq_false (by omega)
  have HR := Lib.hid hr0
  have HS := Lib.hid hs
  have HSZ := Lib.hid hsz
  clear hr0 hs hsz hn hat
  go_enter Tryd.func39, Tryd.ntmps39
  go_wp2
  go_loop [7, 8, 9] (fun acc times idx => QRel at_ r bs acc times idx) (fun _ _ idx => 10 - (intOf idx).toNat)
  case atStart => exact ⟨0, 0, 1, by have := HSZ.out; omega, by omega, rfl, rfl, rfl, rfl, HR.out, by simp⟩
  case round =>
    obtain ⟨i, a, t, hib, hi9, rfl, rfl, rfl, hT, hG, hL⟩ := hrel
    have HG := Lib.hid hG
    have HL := Lib.hid hL
    have HT := Lib.hid hT
    clear hG hL hT
    have hib' : at_ + i ≤ s.size := by have := HSZ.out; omega
    clear hib
    by_cases hlt : at_ + i < s.size
    · obtain ⟨x, hx, hd⟩ := drop_at HS.out (at_ + i) hlt
      obtain ⟨v, hv⟩ : ∃ v, s[at_ + i].toNat = v := ⟨_, rfl⟩
      have hv256 : v < 256 := by rw [← hv]; exact s[at_ + i].toNat_lt
      have HG' : Hid (r = gr i a (x :: bs.drop (at_ + (i + 1)))) := by
        show r = _
        rw [HG.out, hd]; rfl
      have HX : Hid (x.toNat = v) := hx.trans hv
      clear HG hx hd
      have hw1 : IntKind.u64.wrap (v : Int) = (v : Int) := by rw [IntKind.wrap_u64]; omega
      by_cases hA : i = 9 ∧ 1 < v
      · obtain ⟨rfl, h1v⟩ := hA
        have b1 : decide ((1 : Int) < (v : Int)) = true := decide_eq_true (by omega)
        have hr' : Hid (r = (0, 0, 3)) := by
          show r = _
          rw [HG'.out, gr_bad (by rw [HX.out]; omega)]
        clear HG' HX
        go_wp2
        go_ret3
        exact ⟨by rw [hr'.out]; rfl, rfl⟩
      · by_cases hB : v = 0 ∧ 0 < i
        · obtain ⟨rfl, h0i⟩ := hB
          have hr' : Hid (r = (0, 0, 3)) := by
            show r = _
            rw [HG'.out, gr_bad (by rw [HX.out]; omega)]
          clear HG' HX hA
          go_wp2
          all_goals go_ret3
          all_goals exact ⟨by rw [hr'.out]; rfl, rfl⟩
        · have hok : ¬ (i = 9 ∧ 1 < v) ∧ (i = 0 ∨ v ≠ 0) := ⟨hA, by omega⟩
          by_cases h128 : v < 128
          · have hr' : Hid (r = (a + v * 128 ^ i, i + 1, 0)) := by
              show r = _
              rw [HG'.out, gr_last (by rw [HX.out]; exact hok) (by rw [HX.out]; exact h128), HX.out]
            clear HG' HX
            have HOK := Lib.hid hok
            clear hok hA hB
            by_cases h9 : i = 9
            · subst h9
              have h1v : v ≤ 1 := by have := HOK.out.1; omega
              have hv0 : 0 < v := by have := HOK.out.2; omega
              have b1 : decide ((1 : Int) < (v : Int)) = false := decide_eq_false (by omega)
              have b2 : ((v : Int) == 0) = false := by simp; omega
              go_wp2
              go_ret3
              have hacc := acc_ok a t v 9 (by omega) HT.out HL.out (fun h9 => by have := HOK.out.1; omega)
              rw [Nat.mod_eq_of_lt h128] at hacc
              exact ⟨by rw [hacc, hr'.out, gres, gnext]; simp [Int.add_assoc], rfl⟩
            · have b9 : ((i : Int) == 9) = false := by simp; omega
              by_cases h0 : i = 0
              · subst h0
                have hv' : s[at_].toNat = v := hv
                go_wp2
                go_ret3
                have hacc := acc_ok a t v 0 (by omega) HT.out HL.out (fun h9 => by have := HOK.out.1; omega)
                rw [Nat.mod_eq_of_lt h128] at hacc
                exact ⟨by rw [hacc, hr'.out, gres, gnext]; simp, rfl⟩
              · have b2 : ((v : Int) == 0) = false := by have := HOK.out.2; simp; omega
                have h0i : 0 < i := by omega
                go_wp2
                go_ret3
                have hacc := acc_ok a t v i (by omega) HT.out HL.out (fun h9 => by have := HOK.out.1; omega)
                rw [Nat.mod_eq_of_lt h128] at hacc
                exact ⟨by rw [hacc, hr'.out, gres, gnext]; simp [Int.add_assoc], rfl⟩
          · have h0v : 0 < v := by omega
            have hi8 : i ≤ 8 := by have := hok.1; omega
            have b9 : ((i : Int) == 9) = false := by simp; omega
            have HOK := Lib.hid hok
            clear hok hA hB
            have hacc := acc_ok a t v i hi9 HT.out HL.out (fun h9 => by omega)
            have htim := times_ok t i hi8 HT.out
            have HACC := Lib.hid hacc
            have HTIM := Lib.hid htim
            clear hacc htim
            have HG2 : Hid (r = gr (i + 1) (a + v % 128 * 128 ^ i) (bs.drop (at_ + (i + 1)))) := by
              show r = _
              rw [HG'.out, gr_on (by rw [HX.out]; exact HOK.out) (by rw [HX.out]; exact h128), HX.out]
            have HL2 : Hid (a + v % 128 * 128 ^ i < 128 ^ (i + 1)) := by
              show _ < _
              have h1 := HL.out
              have h2 : v % 128 * 128 ^ i ≤ 127 * 128 ^ i := Nat.mul_le_mul_right _ (by omega)
              rw [Nat.pow_succ]; omega
            clear HG' HX
            go_wp2
            rw [HACC.out, HTIM.out]
            exact ⟨⟨i + 1, _, _, by have := HSZ.out; omega, by omega, by go_num, rfl, rfl, rfl, HG2.out, HL2.out⟩, by simp [intOf]; omega⟩
    · have hEnd : at_ + i = s.size := by omega
      have hd : bs.drop (at_ + i) = [] := List.drop_eq_nil_of_le (by have := HSZ.out; omega)
      have hr' : Hid (r = (0, 0, 2)) := by
        show r = _
        rw [HG.out, hd, gr]
      clear hd HG
      have bE : ((at_ : Int) + (i : Int) == (s.size : Int)) = true := by simp; omega
      have HE := Lib.hid hEnd
      clear hEnd hlt
      go_wp2
      go_ret3
      exact ⟨by rw [hr'.out]; rfl, rfl⟩

set_option maxRecDepth 100000 in
set_option maxHeartbeats 400000 in
theorem refget_bad (s : ByteArray) (at_ : Int) (h : at_ < 0 ∨ (s.size : Int) < at_) (w : World) :
    Calls Tryd.prog 39 #[.string s, .int .i64 at_] w fun e w' => e = .returned (.tuple #[.int .u64 0, .int .i64 0, .int .i64 1]) ∧ w = w' := by
  by_cases h0 : at_ < 0
  · go_enter Tryd.func39, Tryd.ntmps39
    go_wp2
    go_ret3
    exact ⟨rfl, rfl⟩
  · have h1 : (s.size : Int) < at_ := by omega
    clear h
    go_enter Tryd.func39, Tryd.ntmps39
    go_wp2
    go_ret3
    exact ⟨rfl, rfl⟩

end Go.Proofs.YtoanmbhnhofoiaaDoor
