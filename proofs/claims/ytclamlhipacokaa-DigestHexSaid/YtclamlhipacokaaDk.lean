/- The walk of the document's Read. -/
import Derived.Test.YtclamlhipacokaaDj
namespace Go.Proofs.Ytclamlhipacokaa
open Go.RowKit

theorem hval_low {x : UInt8} (h1 : 48 ≤ x.toNat) (h2 : x.toNat ≤ 57) : hval x = some (x.toNat - 48) := by rw [hval, if_pos ⟨h1, h2⟩]
theorem hval_high {x : UInt8} (h1 : 97 ≤ x.toNat) (h2 : x.toNat ≤ 102) : hval x = some (x.toNat - 87) := by rw [hval, if_neg (by omega), if_pos ⟨h1, h2⟩]
theorem hval_none {x : UInt8} (h1 : ¬ (48 ≤ x.toNat ∧ x.toNat ≤ 57)) (h2 : ¬ (97 ≤ x.toNat ∧ x.toNat ≤ 102)) : hval x = none := by rw [hval, if_neg h1, if_neg h2]

set_option maxRecDepth 100000 in
set_option maxHeartbeats 800000 in
theorem refread_any (bs : List UInt8) (hn : bs.length ≤ 1073741824) (w : World) :
    Calls Try.prog 14 #[.string (tx bs)] w fun e w' => e = .returned (rav (rans bs).1 (rans bs).2) ∧ w = w' := by
  obtain ⟨s, hs⟩ : ∃ s, s = tx bs := ⟨_, rfl⟩
  have hsz : s.size = bs.length := by rw [hs, tx_size]
  rw [← hs]
  by_cases h16 : bs.length = 16
  · have hsz16 : s.size = 16 := by omega
    have HR : Hid (rans bs = rof (rd 0 bs)) := by rw [rans, if_pos h16]; rfl
    have HS := Lib.hid hs
    have H0 : DRel bs w (.int .u64 0) (.int .i64 0) w := ⟨0, 0, by omega, rfl, by decide, rfl, rfl, rfl⟩
    have HL := Lib.hid h16
    clear hs hsz hn h16
    go_enter Try.func14, Try.ntmps14
    go_wp2
    go_loopw [4, 5] (fun v idx wr => DRel bs w v idx wr) (fun v idx wr => 16 - (intOf idx).toNat)
    case atStart => exact H0
    case round =>
      obtain ⟨i, acc, hi, rfl, hacc, rfl, hrd, rfl⟩ := hrel
      clear H0
      by_cases hlt : i < 16
      · obtain ⟨x, hx, hd⟩ := drop_at HS.out i (by omega)
        have hroom := pow_room hlt hacc
        rw [hd] at hrd
        have hv256 := x.toNat_lt
        by_cases hA : 48 ≤ x.toNat ∧ x.toNat ≤ 57
        · have hv := hval_low hA.1 hA.2
          have hnx := hrd
          rw [rd_on hv] at hnx
          have hpn := pow_next hacc (hval_lt hv)
          obtain ⟨d, hdd⟩ : ∃ d, d = x.toNat - 48 := ⟨_, rfl⟩
          rw [← hdd] at hnx hpn
          have hd16 : d ≤ 9 := by omega
          obtain ⟨z, hz⟩ : ∃ z, z = 16 * acc + d := ⟨_, rfl⟩
          rw [← hz] at hnx hpn
          have HP := Lib.hid hpn
          have hv1 : 48 ≤ x.toNat := hA.1
          have hv2 : x.toNat ≤ 57 := hA.2
          rw [hx] at hdd hv1 hv2
          have k1 : IntKind.u8.wrap ((s[i].toNat : Int) - 48) = (d : Int) := by rw [IntKind.wrap_u8']; omega
          have k2 : IntKind.u64.wrap (16 * (acc : Int)) = 16 * (acc : Int) := by rw [IntKind.wrap_u64]; omega
          have k3 : IntKind.u64.wrap (16 * (acc : Int) + (d : Int)) = (z : Int) := by rw [IntKind.wrap_u64]; omega
          have k4 : IntKind.u64.wrap (d : Int) = (d : Int) := wrap_n d (by omega)
          have k5 : decide ((97 : Int) ≤ (s[i].toNat : Int)) = false := decide_eq_false (by omega)
          have k6 : ((d : Int) == 99) = false := beq_false_of_ne (by omega)
          clear hA hv hrd hpn hdd hz hd hx hacc hroom hv256
          obtain ⟨v, hv⟩ : ∃ v, s[i].toNat = v := ⟨_, rfl⟩
          rw [hv] at k1 k5 hv1 hv2
          go_wp2
          exact ⟨⟨i + 1, z, by omega, rfl, HP.out, by go_num, hnx, rfl⟩, by simp [intOf]; omega⟩
        · by_cases hB : 97 ≤ x.toNat ∧ x.toNat ≤ 102
          · have hv := hval_high hB.1 hB.2
            have hnx := hrd
            rw [rd_on hv] at hnx
            have hpn := pow_next hacc (hval_lt hv)
            obtain ⟨d, hdd⟩ : ∃ d, d = x.toNat - 97 := ⟨_, rfl⟩
            rw [show x.toNat - 87 = d + 10 by omega] at hnx hpn
            have hd16 : d ≤ 5 := by omega
            obtain ⟨z, hz⟩ : ∃ z, z = 16 * acc + (d + 10) := ⟨_, rfl⟩
            rw [← hz] at hnx hpn
            have HP := Lib.hid hpn
            have hv1 : 97 ≤ x.toNat := hB.1
            have hv2 : x.toNat ≤ 102 := hB.2
            rw [hx] at hdd hv1 hv2
            have k1 : IntKind.u8.wrap ((s[i].toNat : Int) - 97) = (d : Int) := by rw [IntKind.wrap_u8']; omega
            have k2 : IntKind.u64.wrap (16 * (acc : Int)) = 16 * (acc : Int) := by rw [IntKind.wrap_u64]; omega
            have k3 : IntKind.u64.wrap (16 * (acc : Int) + ((d : Int) + 10)) = (z : Int) := by rw [IntKind.wrap_u64]; omega
            have k4 : IntKind.u64.wrap (d : Int) = (d : Int) := wrap_n d (by omega)
            have k5 : IntKind.u64.wrap ((d : Int) + 10) = (d : Int) + 10 := by rw [IntKind.wrap_u64]; omega
            have k6 : (((d : Int) + 10) == 99) = false := beq_false_of_ne (by omega)
            clear hA hB hv hrd hpn hdd hz hd hx hacc hroom hv256
            obtain ⟨v, hv⟩ : ∃ v, s[i].toNat = v := ⟨_, rfl⟩
            rw [hv] at k1 hv1 hv2
            go_wp2
            exact ⟨⟨i + 1, z, by omega, rfl, HP.out, by go_num, hnx, rfl⟩, by simp [intOf]; omega⟩
          · have hz : rans bs = (0, false) := by rw [HR.out, hrd.out, rd_bad (hval_none hA hB), rof]
            have HZ := Lib.hid hz
            rw [hx] at hA hB
            clear hz hrd hd hx hacc hroom hv256
            obtain ⟨v, hv⟩ : ∃ v, s[i].toNat = v := ⟨_, rfl⟩
            rw [hv] at hA hB
            have hways : v < 48 ∨ (57 < v ∧ v < 97) ∨ 102 < v := by omega
            clear hA hB
            rcases hways with h | ⟨h, h'⟩ | h
            all_goals
              go_wp2
              go_ret2
              exact ⟨by rw [HZ.out]; rfl, rfl⟩
      · obtain rfl : i = 16 := by omega
        have hz : rans bs = (acc, true) := by rw [HR.out, hrd.out, List.drop_eq_nil_of_le (by rw [HL.out]; omega), rd, rof]
        have HZ := Lib.hid hz
        clear hz hrd
        go_wp2
        go_ret2
        exact ⟨by rw [HZ.out]; rfl, rfl⟩
  · have hsz16 : ¬ s.size = 16 := by omega
    have hz : rans bs = (0, false) := by rw [rans, if_neg h16]
    have HZ := Lib.hid hz
    have hs2 : s.size ≤ 1073741824 := by omega
    clear hs hsz hn hz h16
    go_enter Try.func14, Try.ntmps14
    go_wp2
    go_ret2
    exact ⟨by rw [HZ.out]; rfl, rfl⟩

end Go.Proofs.Ytclamlhipacokaa
