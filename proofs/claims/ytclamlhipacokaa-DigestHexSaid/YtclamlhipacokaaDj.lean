/- The walks of Read, and of the document's. -/
import Derived.Test.YtclamlhipacokaaDi
namespace Go.Proofs.Ytclamlhipacokaa
open Go.RowKit

def hix (c : UInt8) : Int := match hval c with | some d => (d : Int) | none => -1

theorem idx_any (c : UInt8) (w : World) :
    Calls Try.prog 22 #[.string { data := #[48, 49, 50, 51, 52, 53, 54, 55, 56, 57, 97, 98, 99, 100, 101, 102] }, .int .u8 (c.toNat : Int)] w fun e w' => e = .returned (.int .i64 (hix c)) ∧ w = w' := by
  have hf : firstIdx { data := #[48, 49, 50, 51, 52, 53, 54, 55, 56, 57, 97, 98, 99, 100, 101, 102] } c = hix c := by
    have := first_hex ⟨c.toNat, c.toNat_lt⟩
    have e : UInt8.ofNat c.toNat = c := by simp
    simp only [e] at this
    exact this
  have he := fun W => (run_callFunc_extern (P := Try.prog) (f := 28) (e := Extern.BytealgIndexByte.indexByte) Try.func28 (by kernel_rfl) (by kernel_rfl) (by kernel_rfl) (by kernel_rfl)
    #[.string { data := #[48, 49, 50, 51, 52, 53, 54, 55, 56, 57, 97, 98, 99, 100, 101, 102] }, .int .u8 (c.toNat : Int)] W).trans (by rw [run_indexByte_string])
  have hc : ((c.toNat : Int)).toNat.toUInt8 = c := by simp
  rw [hc, hf] at he
  clear hc hf
  generalize hix c = r at *
  generalize (c.toNat : Int) = v at *
  go_enter Try.func22, Try.ntmps22
  go_wp2
  go_ret
  exact ⟨rfl, rfl⟩

def rav (n : Nat) (ok : Bool) : Value := .tuple #[.int .u64 (n : Int), .bool ok]

theorem drop_at {bs : List UInt8} {s : ByteArray} (hs : s = tx bs) (k : Nat) (h : k < s.size) : ∃ x : UInt8, x.toNat = s[k].toNat ∧ bs.drop k = x :: bs.drop (k + 1) := by
  subst hs
  have hk : k < bs.length := by rw [tx_size] at h; exact h
  exact ⟨bs[k], rfl, List.drop_eq_getElem_cons hk⟩

/-- At the head of a round of Read: what is read so far. -/
def DRel (bs : List UInt8) (w : World) (v idx : Value) (wr : World) : Prop := ∃ i acc : Nat, i ≤ 16 ∧ v = .int .u64 (acc : Int) ∧ acc < 16 ^ i ∧ idx = .int .i64 (i : Int) ∧ Hid (rd 0 bs = rd acc (bs.drop i)) ∧ w = wr

theorem pow_room {i acc : Nat} (hi : i < 16) (h : acc < 16 ^ i) : 16 * acc + 16 ≤ 18446744073709551616 := by
  have h1 : 16 ^ i ≤ 16 ^ 15 := Nat.pow_le_pow_right (by omega) (by omega)
  have h2 : (16 : Nat) ^ 15 = 1152921504606846976 := by decide
  omega
theorem pow_next {i acc d : Nat} (h : acc < 16 ^ i) (hd : d < 16) : 16 * acc + d < 16 ^ (i + 1) := by
  rw [Nat.pow_succ]
  omega

set_option maxRecDepth 100000 in
set_option maxHeartbeats 400000 in
theorem read_any (bs : List UInt8) (hn : bs.length ≤ 1073741824) (w : World) :
    Calls Try.prog 13 #[.string (tx bs)] w fun e w' => e = .returned (rav (rans bs).1 (rans bs).2) ∧ w = w' := by
  obtain ⟨s, hs⟩ : ∃ s, s = tx bs := ⟨_, rfl⟩
  have hsz : s.size = bs.length := by rw [hs, tx_size]
  rw [← hs]
  by_cases h16 : bs.length = 16
  · have hsz16 : s.size = 16 := by omega
    have HR : Hid (rans bs = rof (rd 0 bs)) := by rw [rans, if_pos h16]; rfl
    have HS := Lib.hid hs
    have H0 : DRel bs w (.int .u64 0) (.int .i64 0) w := ⟨0, 0, by omega, rfl, by decide, rfl, rfl, rfl⟩
    have HL := Lib.hid h16
    clear hs hsz hn h16
    go_enter Try.func13, Try.ntmps13
    go_wp2
    go_loopw [4, 12] (fun v idx wr => DRel bs w v idx wr) (fun v idx wr => 16 - (intOf idx).toNat)
    case atStart => exact H0
    case round =>
      obtain ⟨i, acc, hi, rfl, hacc, rfl, hrd, rfl⟩ := hrel
      clear H0
      by_cases hlt : i < 16
      · obtain ⟨x, hx, hd⟩ := drop_at HS.out i (by omega)
        have hroom := pow_room hlt hacc
        have hidx := idx_any x w
        rw [hd] at hrd
        cases hv : hval x with
        | none =>
          have hz : rans bs = (0, false) := by rw [HR.out, hrd.out, rd_bad hv, rof]
          have hh : hix x = -1 := by rw [hix, hv]
          have HZ := Lib.hid hz
          rw [hh, hx] at hidx
          have HI := Lib.hid hidx
          clear hz hh hd hrd hacc hroom hidx hv
          obtain ⟨v, hv⟩ : ∃ v, s[i].toNat = v := ⟨_, rfl⟩
          rw [hv] at HI
          go_wp2_with fail
          refine HI.out.mono ?_
          rintro e w1 ⟨rfl, rfl⟩
          go_wp2
          go_ret2
          exact ⟨by rw [HZ.out]; rfl, rfl⟩
        | some d =>
          have hd16 := hval_lt hv
          have hh : hix x = (d : Int) := by rw [hix, hv]
          have hnx := hrd
          rw [rd_on hv] at hnx
          have hpn := pow_next hacc hd16
          rw [hh, hx] at hidx
          have HI := Lib.hid hidx
          have HP := Lib.hid hpn
          have k1 := or_u64 acc d hd16 hroom
          obtain ⟨z, hz⟩ : ∃ z, z = 16 * acc + d := ⟨_, rfl⟩
          rw [← hz] at k1 hnx HP
          clear hh hd hrd hidx hpn hacc hz
          obtain ⟨v, hv⟩ : ∃ v, s[i].toNat = v := ⟨_, rfl⟩
          rw [hv] at HI
          go_wp2_with fail
          refine HI.out.mono ?_
          rintro e w1 ⟨rfl, rfl⟩
          go_wp2
          exact ⟨⟨i + 1, z, by omega, rfl, HP.out, by go_num, hnx, rfl⟩, by simp [intOf]; omega⟩
      · obtain rfl : i = 16 := by omega
        have hz : rans bs = (acc, true) := by rw [HR.out, hrd.out, List.drop_eq_nil_of_le (by rw [HL.out]; omega), rd, rof]
        have HZ := Lib.hid hz
        clear hz hrd
        go_wp2
        go_ret2
        exact ⟨by rw [HZ.out]; rfl, rfl⟩
  · have hsz16 : ¬ s.size = 16 := by omega
    have hz : rans bs = (0, false) := by rw [rans, if_neg h16]
    have HZ := Lib.hid hz
    have hs2 : s.size ≤ 1073741824 := by omega
    clear hs hsz hn hz h16
    go_enter Try.func13, Try.ntmps13
    go_wp2
    go_ret2
    exact ⟨by rw [HZ.out]; rfl, rfl⟩

end Go.Proofs.Ytclamlhipacokaa
