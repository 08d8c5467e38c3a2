/- escape.ahead. -/
import Derived.Deep.QuietTactic
import Derived.BigQuiet
import Derived.Laws.BitsLemmas
import Derived.Test.YtjjhbcijonjlhaaEe
namespace Go.Proofs.Ytjjhbcijonjlhaa
open Go.RowKit

def hixb (c : UInt8) : Int := match hval c with | some d => (d : Int) | none => -1

theorem ixh_any (c : UInt8) (w : World) :
    Calls Try.prog 9 #[.string { data := #[48, 49, 50, 51, 52, 53, 54, 55, 56, 57, 97, 98, 99, 100, 101, 102] }, .int .u8 (c.toNat : Int)] w fun e w' => e = .returned (.int .i64 (hixb c)) ∧ w' = w := by
  have hf : firstIdx { data := #[48, 49, 50, 51, 52, 53, 54, 55, 56, 57, 97, 98, 99, 100, 101, 102] } c = hixb c := by
    have := first_hex ⟨c.toNat, c.toNat_lt⟩
    have e : UInt8.ofNat c.toNat = c := by simp
    simp only [e] at this
    exact this
  refine (ixb_any _ c w).mono fun e w' h => ⟨?_, h.2.symm⟩
  rw [← hf]
  exact h.1

/-- What ahead answers, as values of Go. -/
def ahv (c : UInt8) (l : List UInt8) : Value := .tuple #[.int .u8 ((ahd c l).1.toNat : Int), .int .i64 ((ahd c l).2 : Int)]

theorem ahd_other {c : UInt8} {l : List UInt8} (h : c ≠ 92) : ahd c l = (c, 1) := by
  unfold ahd
  split
  · rw [if_neg h]
  · rfl
theorem ahd_short {c : UInt8} {l : List UInt8} (h : l.length < 2) : ahd c l = (c, 1) := by
  unfold ahd
  split
  · simp at h; omega
  · rfl

theorem tx_at (l : List UInt8) (i : Nat) (x : UInt8) (h : l[i]? = some x) (hp : i < (tx l).size) : ((tx l)[i]'hp).toNat = x.toNat := by
  obtain ⟨h1, h2⟩ := List.getElem?_eq_some_iff.1 h
  rw [← h2]
  rfl

theorem or_i64 (xa xb : Int) (h0 : 0 ≤ xa) (h1 : xa < 16) (h2 : 0 ≤ xb) (h3 : xb < 16) : bits .or .i64 (xa * 16) xb = 16 * xa + xb := by
  have h4 := bits_join .i64 62 (by decide) (fun n h1 h2 => by rw [IntKind.wrap_i64]; omega) 4 (xa * 16) xb (by omega) (by omega) (by omega) h2 (by omega) (by omega)
  rw [h4]; omega

set_option maxRecDepth 100000 in
set_option maxHeartbeats 1000000 in
theorem ahead_no (s : ByteArray) (a b xa xb : Int) (k0 : 0 < s.size) (k1 : 1 < s.size) (k2 : 2 < s.size) (hle : s.size ≤ 6000) (HS0 : s[0].toNat = 92) (HS1 : (s[1].toNat : Int) = a) (HS2 : (s[2].toNat : Int) = b)
    (HA : Hid (∀ W, Calls Try.prog 9 #[.string { data := #[48, 49, 50, 51, 52, 53, 54, 55, 56, 57, 97, 98, 99, 100, 101, 102] }, .int .u8 a] W fun e w' => e = .returned (.int .i64 xa) ∧ w' = W))
    (HB : Hid (∀ W, Calls Try.prog 9 #[.string { data := #[48, 49, 50, 51, 52, 53, 54, 55, 56, 57, 97, 98, 99, 100, 101, 102] }, .int .u8 b] W fun e w' => e = .returned (.int .i64 xb) ∧ w' = W))
    (hc : xa < 0 ∨ (0 ≤ xa ∧ xb < 0)) (w : World) :
    Calls Try.prog 19 #[.string s] w fun e w' => e = .returned (.tuple #[.int .u8 92, .int .i64 1]) ∧ Below w.heap.size w w' := by
  rcases hc with hc | ⟨hc0, hc⟩
  all_goals
    go_enter Try.func19, Try.ntmps19
    go_wp2
    go_quiet ((first | (go_at_call 9; exact Calls.quiet_of_same (HA.out _)) | (go_at_call 9; exact Calls.quiet_of_same (HB.out _))))
    go_wp2
    go_ret2
    exact ⟨rfl, below_drewN _ w _⟩

set_option maxRecDepth 100000 in
set_option maxHeartbeats 1000000 in
theorem ahead_yes (s : ByteArray) (a b xa xb : Int) (k0 : 0 < s.size) (k1 : 1 < s.size) (k2 : 2 < s.size) (hle : s.size ≤ 6000) (HS0 : s[0].toNat = 92) (HS1 : (s[1].toNat : Int) = a) (HS2 : (s[2].toNat : Int) = b)
    (HA : Hid (∀ W, Calls Try.prog 9 #[.string { data := #[48, 49, 50, 51, 52, 53, 54, 55, 56, 57, 97, 98, 99, 100, 101, 102] }, .int .u8 a] W fun e w' => e = .returned (.int .i64 xa) ∧ w' = W))
    (HB : Hid (∀ W, Calls Try.prog 9 #[.string { data := #[48, 49, 50, 51, 52, 53, 54, 55, 56, 57, 97, 98, 99, 100, 101, 102] }, .int .u8 b] W fun e w' => e = .returned (.int .i64 xb) ∧ w' = W))
    (h0 : 0 ≤ xa) (h1 : xa < 16) (h2 : 0 ≤ xb) (h3 : xb < 16) (w : World) :
    Calls Try.prog 19 #[.string s] w fun e w' => e = .returned (.tuple #[.int .u8 (16 * xa + xb), .int .i64 3]) ∧ Below w.heap.size w w' := by
  have hor := or_i64 xa xb h0 h1 h2 h3
  go_enter Try.func19, Try.ntmps19
  go_wp2
  go_quiet ((first | (go_at_call 9; exact Calls.quiet_of_same (HA.out _)) | (go_at_call 9; exact Calls.quiet_of_same (HB.out _))))
  go_wp2
  go_ret2
  exact ⟨rfl, below_drewN _ w _⟩

set_option maxRecDepth 100000 in
set_option maxHeartbeats 1000000 in
theorem ahead_any (c : UInt8) (l : List UInt8) (hl : l.length ≤ 5000) (w : World) :
    Calls Try.prog 19 #[.string (tx (c :: l))] w fun e w' => e = .returned (ahv c l) ∧ Below w.heap.size w w' := by
  have hs0 := tx_at (c :: l) 0 c rfl
  have hsz : (tx (c :: l)).size = l.length + 1 := by rw [tx_size]; rfl
  by_cases hc : c = 92
  · subst hc
    by_cases h2 : l.length < 2
    · have hv : ahv 92 l = .tuple #[.int .u8 92, .int .i64 1] := by unfold ahv; rw [ahd_short h2]; rfl
      rw [hv]
      clear hv
      obtain ⟨n, hn⟩ : ∃ n, n = l.length := ⟨_, rfl⟩
      rw [← hn] at hsz h2
      generalize tx (92 :: l) = s at *
      have h92 : (92 : UInt8).toNat = 92 := rfl
      rw [h92] at hs0
      have k0 : 0 < s.size := by omega
      have HS := hs0 k0
      clear hn hs0 h92
      go_enter Try.func19, Try.ntmps19
      go_wp2
      go_ret2
      exact ⟨rfl, Below.refl _ _⟩
    · obtain ⟨a, b, m, rfl⟩ : ∃ a b m, l = a :: b :: m := by
        match l, h2 with
        | a :: b :: m, _ => exact ⟨a, b, m, rfl⟩
        | [_], h => simp at h
        | [], h => simp at h
      have hs1 := tx_at (92 :: a :: b :: m) 1 a rfl
      have hs2 := tx_at (92 :: a :: b :: m) 2 b rfl
      have hsz2 : (tx (92 :: a :: b :: m)).size = m.length + 3 := by rw [tx_size]; rfl
      have hml : m.length ≤ 5000 := by simp at hl; omega
      have hv : ahv 92 (a :: b :: m) = match hval a, hval b with | some h, some k => .tuple #[.int .u8 (16 * (h : Int) + (k : Int)), .int .i64 3] | _, _ => .tuple #[.int .u8 92, .int .i64 1] := by
        unfold ahv ahd
        simp only [if_true]
        cases ha : hval a with
        | none => rfl
        | some h =>
          cases hb : hval b with
          | none => rfl
          | some k =>
            have h1 := hval_lt ha
            have h2 := hval_lt hb
            have h3 : (UInt8.ofNat (16 * h + k)).toNat = 16 * h + k := by simp; omega
            simp only [h3]
            rfl
      rw [hv]
      have HA := Lib.hid (fun W => ixh_any a W)
      have HB := Lib.hid (fun W => ixh_any b W)
      have h92 : ((tx (92 :: a :: b :: m))[0]'(by omega)).toNat = 92 := hs0 (by omega)
      cases ha : hval a with
      | none =>
        have e1 : hixb a = -1 := by unfold hixb; rw [ha]
        exact ahead_no _ _ _ (hixb a) (hixb b) (by omega) (by omega) (by omega) (by omega) h92 (congrArg Int.ofNat (hs1 (by omega))) (congrArg Int.ofNat (hs2 (by omega))) HA HB (.inl (by omega)) w
      | some h =>
        have e1 : hixb a = (h : Int) := by unfold hixb; rw [ha]
        have g1 := hval_lt ha
        cases hb : hval b with
        | none =>
          have e2 : hixb b = -1 := by unfold hixb; rw [hb]
          exact ahead_no _ _ _ (hixb a) (hixb b) (by omega) (by omega) (by omega) (by omega) h92 (congrArg Int.ofNat (hs1 (by omega))) (congrArg Int.ofNat (hs2 (by omega))) HA HB (.inr ⟨by omega, by omega⟩) w
        | some k =>
          have e2 : hixb b = (k : Int) := by unfold hixb; rw [hb]
          have g2 := hval_lt hb
          have := ahead_yes _ _ _ (hixb a) (hixb b) (by omega) (by omega) (by omega) (by omega) h92 (congrArg Int.ofNat (hs1 (by omega))) (congrArg Int.ofNat (hs2 (by omega))) HA HB (by omega) (by omega) (by omega) (by omega) w
          rw [e1, e2] at this
          exact this
  · have hv : ahv c l = .tuple #[.int .u8 (c.toNat : Int), .int .i64 1] := by unfold ahv; rw [ahd_other hc]; rfl
    rw [hv]
    clear hv
    have hc2 : ((c.toNat : Int) == 92) = false := by
      rw [beq_eq_false_iff_ne]
      intro h
      apply hc
      apply UInt8.toNat_inj.1
      show c.toNat = 92
      omega
    have hc3 : ((c.toNat : Int) != 92) = true := by rw [bne, hc2]; rfl
    obtain ⟨n, hn⟩ : ∃ n, n = l.length := ⟨_, rfl⟩
    rw [← hn] at hsz
    generalize tx (c :: l) = s at *
    have k0 : 0 < s.size := by omega
    have HS := hs0 k0
    generalize c.toNat = cn at *
    clear hn hs0 hc
    go_enter Try.func19, Try.ntmps19
    go_wp2
    go_ret2
    exact ⟨rfl, Below.refl _ _⟩

end Go.Proofs.Ytjjhbcijonjlhaa
