/- The document's Less. -/
import Derived.WalkKit
import Derived.BigQuiet
import Derived.Deep.QuietTactic
import Derived.RegionTactic
import Derived.Test.YtcfmpajdhbcimaaGa
import Derived.Test.YtcfmpajdhbcimaaRb00
namespace Go.Proofs.Ytcfmpajdhbcimaa
open Go.RowKit

theorem lx_pre : ∀ (p a b : List UInt8), p ++ a < p ++ b ↔ a < b
  | [], _, _ => Iff.rfl
  | x :: p, a, b => by
    rw [List.cons_append, List.cons_append, List.cons_lt_cons_iff, lx_pre p]
    simp [UInt8.lt_irrefl]
theorem lx_split {a : List UInt8} {i : Nat} {x : UInt8} (h : a[i]? = some x) : a = a.take i ++ x :: a.drop (i + 1) := by
  obtain ⟨h1, h2⟩ := List.getElem?_eq_some_iff.1 h
  rw [← h2, List.getElem_cons_drop, List.take_append_drop]
theorem lx_at {a b : List UInt8} {i : Nat} {x y : UInt8} (h : a.take i = b.take i) (ha : a[i]? = some x) (hb : b[i]? = some y) (hne : x ≠ y) : a < b ↔ x < y := by
  rw [lx_split ha, lx_split hb, h, lx_pre, List.cons_lt_cons_iff]
  simp [hne]
theorem lx_end {a b : List UInt8} {i : Nat} (h : a.take i = b.take i) (hi : a.length ≤ i ∨ b.length ≤ i) (ha : i ≤ a.length) (hb : i ≤ b.length) : a < b ↔ a.length < b.length := by
  have e1 : a = a.take i ++ a.drop i := (List.take_append_drop i a).symm
  have e2 : b = a.take i ++ b.drop i := by rw [h]; exact (List.take_append_drop i b).symm
  have e3 : a < b ↔ a.drop i < b.drop i := by
    conv => lhs; rw [e1, e2]
    exact lx_pre _ _ _
  rw [e3]
  rcases Nat.lt_or_ge i a.length with h1 | h1
  · have : b.drop i = [] := List.drop_of_length_le (by omega)
    rw [this]
    constructor
    · intro h2; exact absurd h2 (List.not_lt_nil _)
    · intro h2; omega
  · have e4 : a.drop i = [] := List.drop_of_length_le (by omega)
    rw [e4]
    rcases Nat.lt_or_ge i b.length with h2 | h2
    · obtain ⟨y, hy⟩ : ∃ y, b[i]? = some y := ⟨_, List.getElem?_eq_getElem h2⟩
      have : b.drop i = y :: b.drop (i + 1) := by
        obtain ⟨h3, h4⟩ := List.getElem?_eq_some_iff.1 hy
        rw [← h4, List.getElem_cons_drop]
      rw [this]
      constructor
      · intro _; omega
      · intro _; exact List.nil_lt_cons _ _
    · have : b.drop i = [] := List.drop_of_length_le (by omega)
      rw [this]
      constructor
      · intro h3; exact absurd h3 (lx_irr _)
      · intro h3; omega
theorem ltx_at (l : List UInt8) (i : Nat) (x : UInt8) (h : l[i]? = some x) (hp : i < (tx l).size) : (((tx l)[i]'hp).toNat : Int) = (x.toNat : Int) := by
  obtain ⟨h1, h2⟩ := List.getElem?_eq_some_iff.1 h
  rw [← h2]
  rfl

theorem lret_bool {a b : Bool} (h : a = b) : Ending.returned (.bool a) = .returned (.bool b) := by rw [h]

set_option maxRecDepth 100000 in
set_option maxHeartbeats 1000000 in
theorem less_any (a b : List UInt8) (ha : a.length ≤ maxLen) (hb : b.length ≤ maxLen) (w : World) :
    Calls Try.prog 15 #[rsv a, rsv b] w fun e w' => e = .returned (.bool (decide (a < b))) ∧ ∃ q, w' = w.drewN q := by
  unfold rsv
  obtain ⟨n, hn⟩ : ∃ n, n = a.length := ⟨_, rfl⟩
  obtain ⟨m, hm⟩ : ∃ m, m = b.length := ⟨_, rfl⟩
  have hs1 : (tx a).size = n := by rw [tx_size0, hn]
  have hs2 : (tx b).size = m := by rw [tx_size0, hm]
  have HN := Lib.hid hn
  have HM := Lib.hid hm
  have HA1 := Lib.hid (fun i x h hp => ltx_at a i x h hp)
  have HA2 := Lib.hid (fun i x h hp => ltx_at b i x h hp)
  rw [← hn] at ha
  rw [← hm] at hb
  unfold maxLen at ha hb
  generalize tx a = s at *
  generalize tx b = t at *
  clear hn hm
  go_enter Try.func15, Try.ntmps15
  go_wp2
  go_loopw [5] (fun v5 wr => ∃ k : Nat, v5 = .int .i64 (k : Int) ∧ k ≤ n ∧ k ≤ m ∧ a.take k = b.take k ∧ ∃ q, wr = w.drewN q) (fun v5 _ => n - (intOf v5).toNat)
  case atStart => exact ⟨0, rfl, by omega, by omega, rfl, 0, rfl⟩
  case round =>
    obtain ⟨k, rfl, hk1, hk2, htk, q, rfl⟩ := hrel
    have HTK := Lib.hid htk
    clear htk
    have hi0 : (0 : Int) ≤ (k : Int) := by omega
    by_cases h1 : k < n
    · by_cases h2 : k < m
      · obtain ⟨x, hx⟩ : ∃ x, a[k]? = some x := ⟨_, List.getElem?_eq_getElem (by rw [← HN.out]; exact h1)⟩
        obtain ⟨y, hy⟩ : ∃ y, b[k]? = some y := ⟨_, List.getElem?_eq_getElem (by rw [← HM.out]; exact h2)⟩
        have hp1 : k < s.size := by omega
        have hp2 : k < t.size := by omega
        have X := Lib.hid (HA1.out k x hx hp1)
        have Y := Lib.hid (HA2.out k y hy hp2)
        by_cases e : x = y
        · have HT2 : Hid (a.take (k + 1) = b.take (k + 1)) := by
            show _ = _
            rw [List.take_add_one, List.take_add_one, hx, hy, HTK.out, e]
          have hc : ((s[k].toNat : Int) != (t[k].toNat : Int)) = false := by rw [X.out, Y.out, e]; simp
          clear hx hy
          go_wp2
          go_region
          go_wp2
          exact ⟨⟨k + 1, by go_num, by omega, by omega, HT2.out, _, by first | rfl | exact (World.drewN_drewN ..)⟩, by simp [intOf]; omega⟩
        · have hc : ((s[k].toNat : Int) != (t[k].toNat : Int)) = true := by
            rw [X.out, Y.out, bne_iff_ne]
            intro h
            exact e (UInt8.toNat_inj.1 (by omega))
          have HE : Hid (decide (s[k].toNat < t[k].toNat) = decide (a < b)) := by
            have hX := X.out
            have hY := Y.out
            show _ = _
            rw [decide_eq_decide, lx_at HTK.out hx hy e, UInt8.lt_iff_toNat_lt]
            omega
          clear hx hy
          go_wp2
          go_region
          go_wp2
          go_region
          go_wp2
          go_ret
          exact ⟨lret_bool HE.out, _, by first | rfl | exact World.drewN_drewN ..⟩
      · have HE : Hid (decide (n < m) = decide (a < b)) := by
          show _ = _
          rw [decide_eq_decide, lx_end HTK.out (.inr (by rw [← HM.out]; omega)) (by rw [← HN.out]; exact hk1) (by rw [← HM.out]; exact hk2), ← HN.out, ← HM.out]
        go_wp2
        go_ret
        exact ⟨lret_bool HE.out, _, rfl⟩
    · have HE : Hid (decide (n < m) = decide (a < b)) := by
        show _ = _
        rw [decide_eq_decide, lx_end HTK.out (.inl (by rw [← HN.out]; omega)) (by rw [← HN.out]; exact hk1) (by rw [← HM.out]; exact hk2), ← HN.out, ← HM.out]
      go_wp2
      go_ret
      exact ⟨lret_bool HE.out, _, rfl⟩

end Go.Proofs.Ytcfmpajdhbcimaa
