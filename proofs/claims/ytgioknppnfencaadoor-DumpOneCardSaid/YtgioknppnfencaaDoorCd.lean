/- The walks of the document's own answers: Sum, Bytes and Read of tephraref03. -/
import Derived.Test.YtgioknppnfencaaDoorCs
import Derived.Test.YtgioknppnfencaaDoorH
import Derived.RegionTactic
namespace Go.Proofs.YtgioknppnfencaaDoor
open Go.RowKit

theorem crc_drop_at {bs : List UInt8} {s : ByteArray} (hs : s = tx bs) (k : Nat) (h : k < s.size) : ∃ x : UInt8, x.toNat = s[k].toNat ∧ bs.drop k = x :: bs.drop (k + 1) := by
  subst hs
  have hk : k < bs.length := by rw [tx_size] at h; exact h
  exact ⟨bs[k], rfl, List.drop_eq_getElem_cons hk⟩

theorem unlike_bit (r : W32) (x : UInt8) (k : Nat) : (r ^^^ (x32 x >>> k)).getLsbD 0 = (((r.toNat : Int) % 2) != ((x.toNat : Int) / 2 ^ k % 2)) := by
  have h1 : r.getLsbD 0 = decide (r.toNat % 2 = 1) := by rw [BitVec.getLsbD, Nat.testBit_zero]
  have h2 : (x32 x >>> k).getLsbD 0 = decide (x.toNat / 2 ^ k % 2 = 1) := by
    rw [BitVec.getLsbD_ushiftRight, BitVec.getLsbD, x32_toNat, Nat.add_zero, Nat.testBit_eq_decide_div_mod_eq]
  have e1 : ((x.toNat : Int) / 2 ^ k % 2) = ((x.toNat / 2 ^ k % 2 : Nat) : Int) := by simp
  have e2 : ((r.toNat : Int) % 2) = ((r.toNat % 2 : Nat) : Int) := by simp
  rw [BitVec.getLsbD_xor, h1, h2, e1, e2]
  generalize x.toNat / 2 ^ k = q
  obtain h | h : r.toNat % 2 = 0 ∨ r.toNat % 2 = 1 := by omega
  all_goals obtain g | g : q % 2 = 0 ∨ q % 2 = 1 := by omega
  all_goals rw [h, g]; rfl

theorem step_like {s0 r : W32} {x : UInt8} {k : Nat} (hk : k < 8) (h : stn (8 - k) (r ^^^ (x32 x >>> k)) = up s0 x) (hu : (((r.toNat : Int) % 2) != ((x.toNat : Int) / 2 ^ k % 2)) = false) :
    stn (8 - (k + 1)) ((r >>> 1) ^^^ (x32 x >>> (k + 1))) = up s0 x := by
  rw [← unlike_bit] at hu
  rw [← h, show 8 - k = (8 - (k + 1)) + 1 by omega, stn, st, if_neg (by rw [hu]; decide), BitVec.ushiftRight_xor_distrib, BitVec.shiftRight_add]
theorem step_unlike {s0 r : W32} {x : UInt8} {k : Nat} (hk : k < 8) (h : stn (8 - k) (r ^^^ (x32 x >>> k)) = up s0 x) (hu : (((r.toNat : Int) % 2) != ((x.toNat : Int) / 2 ^ k % 2)) = true) :
    stn (8 - (k + 1)) ((r >>> 1 ^^^ poly) ^^^ (x32 x >>> (k + 1))) = up s0 x := by
  rw [← unlike_bit] at hu
  rw [← h, show 8 - k = (8 - (k + 1)) + 1 by omega, stn, st, if_pos hu, BitVec.ushiftRight_xor_distrib, BitVec.shiftRight_add]
  congr 1
  ac_rfl
theorem step_end {s0 r : W32} {x : UInt8} (h : stn (8 - 8) (r ^^^ (x32 x >>> 8)) = up s0 x) : r = up s0 x := by
  have e : x32 x >>> 8 = 0#32 := by
    apply BitVec.eq_of_toNat_eq
    rw [BitVec.toNat_ushiftRight, x32_toNat, Nat.shiftRight_eq_div_pow]
    have := x.toNat_lt
    simp
    omega
  rw [e] at h
  simpa [stn] using h
theorem wv_half (r : W32) : wv (r >>> 1) = .int .u32 ((r.toNat : Int) / 2) := by
  rw [wv, BitVec.toNat_ushiftRight, Nat.shiftRight_eq_div_pow]
  simp
theorem wv_turn (r : W32) : wv (r >>> 1 ^^^ poly) = .int .u32 (bits .xor .u32 ((r.toNat : Int) / 2) 3988292384) := by
  have hr := r.isLt
  have e : ((r.toNat : Int) / 2) = ((r.toNat / 2 : Nat) : Int) := by simp
  rw [e, wv, BitVec.toNat_xor, BitVec.toNat_ushiftRight, Nat.shiftRight_eq_div_pow]
  exact congrArg (Value.int .u32) (u32_xor_nat (r.toNat / 2) 3988292384 (by omega) (by omega)).symm

/-- Inside a byte: so many of its bits have been gone over. -/
def KRel (s0 : W32) (x : UInt8) (w : World) (v idx : Value) (wr : World) : Prop :=
  ∃ (k : Nat) (r : W32), k ≤ 8 ∧ idx = .int .u64 (k : Int) ∧ v = wv r ∧ stn (8 - k) (r ^^^ (x32 x >>> k)) = up s0 x ∧ w = wr
def JRel (bs : List UInt8) (w : World) (v idx : Value) (wr : World) : Prop := ∃ j : Nat, j ≤ bs.length ∧ idx = .int .i64 (j : Int) ∧ v = wv (ups ones (bs.take j)) ∧ w = wr

set_option maxRecDepth 100000 in
set_option maxHeartbeats 400000 in
theorem refsum_any (bs : List UInt8) (hn : bs.length ≤ 1073741824) (w : World) :
    Calls Tryd.prog 41 #[.string (tx bs)] w fun e w' => e = .returned (wv (crc bs)) ∧ w = w' := by
  obtain ⟨s, hs⟩ : ∃ s, s = tx bs := ⟨_, rfl⟩
  have hsz : s.size = bs.length := by rw [hs, tx_size]
  rw [← hs]
  have hn' : s.size ≤ 1073741824 := by omega
  have HS := Lib.hid hs
  have HSZ := Lib.hid hsz
  clear hs hsz hn
  go_enter Tryd.func41, Tryd.ntmps41
  go_wp2
  go_loopw [3, 4] (fun v idx wr => JRel bs w v idx wr) (fun v idx wr => s.size - (intOf idx).toNat)
  case atStart => exact ⟨0, by omega, rfl, rfl, rfl⟩
  case round =>
    obtain ⟨i, hi, rfl, rfl, rfl⟩ := hrel
    rw [← HSZ.out] at hi
    by_cases hlt : i < s.size
    · obtain ⟨x, hx, hd⟩ := crc_drop_at HS.out i hlt
      obtain ⟨v, hv⟩ : ∃ v, s[i].toNat = v := ⟨_, rfl⟩
      have hv256 : v < 256 := by rw [← hv]; exact s[i].toNat_lt
      obtain ⟨s0, hs0⟩ : ∃ s0, s0 = ups ones (bs.take i) := ⟨_, rfl⟩
      rw [← hs0]
      have HS0 := Lib.hid hs0
      have HX := Lib.hid (hx.trans hv)
      have HD := Lib.hid hd
      clear hs0 hx hd
      go_wp2
      go_loopw [3, 5] (fun v idx wr => KRel s0 x w v idx wr) (fun v idx wr => 8 - (intOf idx).toNat)
      case atStart => exact ⟨0, s0, by omega, rfl, rfl, rfl, rfl⟩
      case round =>
        obtain ⟨k, r, hk, rfl, rfl, hst, rfl⟩ := hrel
        have HST := Lib.hid hst
        clear hst
        by_cases hk8 : k < 8
        · have hv : wv r = .int .u32 (r.toNat : Int) := rfl
          obtain ⟨c, hc⟩ : ∃ c, c = r.toNat := ⟨_, rfl⟩
          rw [hv, ← hc]
          have hc32 : c < 4294967296 := by rw [hc]; exact r.isLt
          have HC := Lib.hid hc
          clear hv hc
          go_wp2
          · rename_i h1 h2
            rw [HC.out, ← HX.out] at h2
            exact ⟨⟨k + 1, _, by omega, by go_num, by rw [HC.out, ← wv_turn], step_unlike hk8 HST.out h2, rfl⟩, by simp [intOf]; omega⟩
          · rename_i h1 h2
            rw [HC.out, ← HX.out] at h2
            exact ⟨⟨k + 1, _, by omega, by go_num, by rw [HC.out, ← wv_half], step_like hk8 HST.out h2, rfl⟩, by simp [intOf]; omega⟩
        · obtain rfl : k = 8 := by omega
          have he := step_end HST.out
          have e1 : up s0 x = ups ones (bs.take (i + 1)) := by
            have hb : bs[i]? = some x := by
              have := congrArg List.head? HD.out
              simpa using this
            rw [List.take_add_one, hb, HS0.out, ups_append]; rfl
          rw [e1] at he
          rw [he]
          clear hk hk8 e1 he
          generalize hq : wv (ups ones (bs.take (i + 1))) = q
          have HQ := Lib.hid hq
          clear hq
          go_wp2
          exact ⟨⟨i + 1, by have := HSZ.out; omega, by go_num, HQ.out.symm, rfl⟩, by simp [intOf]; omega⟩
    · obtain rfl : i = s.size := by omega
      have hall : bs.take s.size = bs := List.take_of_length_le (by rw [HSZ.out]; omega)
      rw [hall]
      have hv : wv (ups ones bs) = .int .u32 ((ups ones bs).toNat : Int) := rfl
      obtain ⟨a, ha⟩ : ∃ a, a = (ups ones bs).toNat := ⟨_, rfl⟩
      have ha32 : a < 4294967296 := by rw [ha]; exact (ups ones bs).isLt
      have k1 : IntKind.u32.wrap (4294967295 - (a : Int)) = ((4294967295 - a : Nat) : Int) := by rw [IntKind.wrap_u32']; omega
      have hcr : wv (crc bs) = .int .u32 ((4294967295 - a : Nat) : Int) := by rw [wv, crc, BitVec.toNat_not, ha]
      obtain ⟨z, hz⟩ : ∃ z, z = 4294967295 - a := ⟨_, rfl⟩
      rw [← hz] at k1 hcr
      rw [hv, ← ha]
      have HCR := Lib.hid hcr
      clear hv ha hz hcr hall hi hlt
      go_wp2
      go_ret
      exact ⟨by rw [HCR.out]; rfl, rfl⟩

end Go.Proofs.YtgioknppnfencaaDoor
