/- The walk of crc.Sum: at any parts. -/
import Derived.WalkKit
import Derived.Outline
import Derived.Laws.Bits64b
import Derived.Lib.Hide
import Derived.Test.YtgioknppnfencaaDoorProg
import Derived.Test.YtgioknppnfencaaDoorS
import Derived.Test.YtgioknppnfencaaDoorCa
namespace Go.Proofs.YtgioknppnfencaaDoor
open Go.RowKit

/-- A sum as a value of Go. -/
def wv (s : W32) : Value := .int .u32 (s.toNat : Int)

/-- The table stands where the program laid it. -/
def Laid (w : World) : Prop := ∀ i, i < 16 → w.cell? ⟨0, i, none⟩ = some (.int .u32 (tabN i : Int))

theorem half_nat (s : W32) (c d i r : Nat) (hc : c = s.toNat) (hd : d = c / 16) (hi : i = c % 16) (hr : r = (half s).toNat) :
    bits .xor .u32 (d : Int) (tabN i : Int) = (r : Int) := by
  have hs := s.isLt
  have ht : tabN i < 4294967296 := by
    have : ∀ j : Fin 16, tabN j.val < 4294967296 := by decide
    exact this ⟨i, by omega⟩
  rw [u32_xor_nat d (tabN i) (by omega) ht, hr, half, BitVec.toNat_xor, BitVec.toNat_ushiftRight, BitVec.toNat_ofNat, Nat.shiftRight_eq_div_pow, hd, hc, hi, hc]
  rw [hi, hc] at ht
  rw [Nat.mod_eq_of_lt (a := tabN (s.toNat % 16)) ht]

theorem and15 (c : Nat) (hc : c < 4294967296) : bits .and .u32 (c : Int) 15 = ((c % 16 : Nat) : Int) := by
  refine (u32_and_nat c 15 hc (by omega)).trans ?_
  congr 1
  exact Nat.and_two_pow_sub_one_eq_mod c 4

theorem turn_all (s : W32) : bits .xor .u32 IntKind.u32.max ((s.toNat : Nat) : Int) = (((~~~ s).toNat : Nat) : Int) := by
  refine (u32_xor_nat 4294967295 s.toNat (by omega) s.isLt).trans ?_
  have : (BitVec.allOnes 32 ^^^ s).toNat = 4294967295 ^^^ s.toNat := by rw [BitVec.toNat_xor]; rfl
  rw [← this, BitVec.allOnes_xor]

/-- A row of bytes that a value of Go holds. -/
def PRow (w : World) (B : Nat) (v : Value) (bs : List UInt8) : Prop := ∃ A n c, v = .slice A n c ∧ n ≤ c ∧ n ≤ 1073741824 ∧ Reads w B 1 A n (bs.map bv)

/-- PRows of bytes that values of Go hold. -/
def PRows (w : World) (B : Nat) (vs : List Value) (ps : List (List UInt8)) : Prop := vs.length = ps.length ∧ ∀ (i : Nat) (v : Value), vs[i]? = some v → ∃ bs : List UInt8, ps[i]? = some bs ∧ PRow w B v bs

def IRel (s : W32) (bs : List UInt8) (w : World) (v idx : Value) (wr : World) : Prop := ∃ j, j ≤ bs.length ∧ idx = .int .i64 (j : Int) ∧ v = wv (ups s (bs.take j)) ∧ w = wr
def ORel (ps : List (List UInt8)) (w : World) (v idx : Value) (wr : World) : Prop := ∃ j, j ≤ ps.length ∧ idx = .int .i64 (j : Int) ∧ v = wv (ups ones (ps.take j).flatten) ∧ w = wr

theorem bs_at {bs : List UInt8} {i : Nat} {u : Value} (h : (bs.map bv)[i]? = some u) : ∃ x, u = .int .u8 (x.toNat : Int) ∧ bs[i]? = some x := by
  rw [List.getElem?_map] at h
  obtain ⟨x, hx, rfl⟩ := Option.map_eq_some_iff.1 h
  exact ⟨x, rfl, hx⟩

set_option maxRecDepth 100000 in
set_option maxHeartbeats 400000 in
theorem sum_any (L : Option Addr) (m d : Nat) (vs : List Value) (ps : List (List UInt8)) (hm : m ≤ 1073741824) (w : World) (hl : Laid w) (hr : Reads w w.heap.size 1 L m vs) (hp : PRows w w.heap.size vs ps) :
    Calls Tryd.prog 36 #[.slice L m d] w fun e w' => e = .returned (wv (crc ps.flatten)) ∧ w = w' := by
  have hml : ps.length = m := by have := hr.1; have := hp.1; omega
  have HML := Lib.hid hml
  have HP := Lib.hid hp
  have HL := Lib.hid hl
  clear hml hp hl
  go_enter Tryd.func36, Tryd.ntmps36
  go_wp2
  go_loopw [3, 10] (fun v idx wr => ORel ps w v idx wr) (fun v idx wr => m - (intOf idx).toNat)
  case atStart => exact ⟨0, by omega, rfl, rfl, rfl⟩
  case round =>
    obtain ⟨i, hi, rfl, rfl, rfl⟩ := hrel
    rw [HML.out] at hi
    by_cases hlt : i < m
    · obtain ⟨ad, u, rfl, hadb, hx, hcell⟩ := hr.at_ hlt
      obtain ⟨bs, hbs, A, n, c, rfl, hnc, hnb, hrb⟩ := HP.out.2 i u hx
      have hbn : bs.length = n := by have := hrb.1; simpa using this
      have HBS := Lib.hid hbs
      have HX := Lib.hid hx
      clear hbs hx
      go_wp2
      obtain ⟨s0, hs0⟩ : ∃ s0, s0 = ups ones (ps.take i).flatten := ⟨_, rfl⟩
      rw [← hs0]
      have HS0 := Lib.hid hs0
      clear hs0
      go_loopw [3, 16] (fun v idx wr => IRel s0 bs w v idx wr) (fun v idx wr => n - (intOf idx).toNat)
      case atStart => exact ⟨0, by omega, rfl, rfl, rfl⟩
      case round =>
        obtain ⟨j, hj, rfl, rfl, rfl⟩ := hrel
        by_cases hjn : j < n
        · obtain ⟨adx, u, rfl, hadx, hy, hcx⟩ := hrb.at_ hjn
          obtain ⟨x, rfl, hxj⟩ := bs_at hy
          obtain ⟨s1, hs1⟩ : ∃ s1, s1 = ups s0 (bs.take j) := ⟨_, rfl⟩
          have e1 : up s1 x = ups s0 (bs.take (j + 1)) := by rw [hs1, List.take_add_one, hxj, ups_append]; rfl
          rw [← hs1]
          have E1 := Lib.hid e1
          clear hs1 hxj hy e1
          obtain ⟨a, ha⟩ : ∃ a, a = s1.toNat := ⟨_, rfl⟩
          obtain ⟨c1, hc1⟩ : ∃ c1, c1 = (s1 ^^^ x32 x).toNat := ⟨_, rfl⟩
          obtain ⟨c2, hc2⟩ : ∃ c2, c2 = (half (s1 ^^^ x32 x)).toNat := ⟨_, rfl⟩
          obtain ⟨c3, hc3⟩ : ∃ c3, c3 = (half (half (s1 ^^^ x32 x))).toNat := ⟨_, rfl⟩
          obtain ⟨b, hb⟩ : ∃ b, b = x.toNat := ⟨_, rfl⟩
          have hb256 : b < 256 := by rw [hb]; exact x.toNat_lt
          have ha32 : a < 4294967296 := by rw [ha]; exact s1.isLt
          have hc132 : c1 < 4294967296 := by rw [hc1]; exact (s1 ^^^ x32 x).isLt
          have hc232 : c2 < 4294967296 := by rw [hc2]; exact (half (s1 ^^^ x32 x)).isLt
          have k1 : IntKind.u32.wrap (b : Int) = (b : Int) := by rw [IntKind.wrap_u32']; omega
          have k2 : bits .xor .u32 (a : Int) (b : Int) = (c1 : Int) := by rw [u32_xor_nat a b ha32 (by omega), hc1, BitVec.toNat_xor, x32_toNat, ha, hb]
          obtain ⟨d1, hd1⟩ : ∃ d1, d1 = c1 / 16 := ⟨_, rfl⟩
          obtain ⟨i1, hi1⟩ : ∃ i1, i1 = c1 % 16 := ⟨_, rfl⟩
          obtain ⟨d2, hd2⟩ : ∃ d2, d2 = c2 / 16 := ⟨_, rfl⟩
          obtain ⟨i2, hi2⟩ : ∃ i2, i2 = c2 % 16 := ⟨_, rfl⟩
          have k3 : (c1 : Int) / 16 = (d1 : Int) := by omega
          have k4 : bits .and .u32 (c1 : Int) 15 = (i1 : Int) := by rw [and15 c1 hc132, hi1]
          have k5 : bits .xor .u32 (d1 : Int) (tabN i1 : Int) = (c2 : Int) := half_nat _ c1 d1 i1 c2 hc1 hd1 hi1 hc2
          have k6 : (c2 : Int) / 16 = (d2 : Int) := by omega
          have k7 : bits .and .u32 (c2 : Int) 15 = (i2 : Int) := by rw [and15 c2 hc232, hi2]
          have k8 : bits .xor .u32 (d2 : Int) (tabN i2 : Int) = (c3 : Int) := half_nat _ c2 d2 i2 c3 hc2 hd2 hi2 hc3
          have l1 := HL.out i1 (by omega)
          have l2 := HL.out i2 (by omega)
          have hi116 : i1 < 16 := by omega
          have hi216 : i2 < 16 := by omega
          have hv : wv s1 = .int .u32 (a : Int) := by rw [wv, ha]
          have hv3 : wv (up s1 x) = .int .u32 (c3 : Int) := by rw [wv, ← up_halves, hc3]
          rw [hv]
          have HV3 := Lib.hid hv3
          rw [← hb] at hcx
          clear hv hv3 ha hc1 hc2 hc3 hb hd1 hd2 hi1 hi2 ha32 hc132 hc232
          generalize tabN i1 = t1 at k5 l1
          generalize tabN i2 = t2 at k8 l2
          go_wp2
          clear k1 k2 k3 k4 k5 k6 k7 k8 l1 l2
          exact ⟨⟨j + 1, by omega, by go_num, by rw [← E1.out, HV3.out], rfl⟩, by simp [intOf]; omega⟩
        · obtain rfl : j = n := by omega
          have hall : bs.take j = bs := List.take_of_length_le (by omega)
          have e1 : ups s0 (bs.take j) = ups ones (ps.take (i + 1)).flatten := by
            rw [hall, HS0.out, ← ups_append, List.take_add_one, HBS.out]
            simp
          rw [e1]
          have HN := Lib.hid hbn
          clear e1 hall hbn
          generalize hq : wv (ups ones (ps.take (i + 1)).flatten) = q
          have HQ := Lib.hid hq
          clear hq
          go_wp2
          exact ⟨⟨i + 1, by rw [HML.out]; omega, by go_num, HQ.out.symm, rfl⟩, by simp [intOf]; omega⟩
    · obtain rfl : i = m := by omega
      have hall : ps.take i = ps := List.take_of_length_le (by rw [HML.out]; omega)
      rw [hall]
      have hf : bits .xor .u32 IntKind.u32.max ((ups ones ps.flatten).toNat : Int) = ((crc ps.flatten).toNat : Int) := turn_all _
      clear hall
      obtain ⟨a, ha⟩ : ∃ a, a = (ups ones ps.flatten).toNat := ⟨_, rfl⟩
      rw [← ha] at hf
      have hv : wv (ups ones ps.flatten) = .int .u32 (a : Int) := by rw [wv, ha]
      rw [hv]
      have HV : Hid (wv (crc ps.flatten) = .int .u32 ((crc ps.flatten).toNat : Int)) := Lib.hid rfl
      obtain ⟨z, hz⟩ : ∃ z, z = (crc ps.flatten).toNat := ⟨_, rfl⟩
      rw [← hz] at hf HV
      clear hv ha hz
      go_wp2
      go_ret
      exact ⟨HV.out.symm ▸ rfl, rfl⟩
end Go.Proofs.YtgioknppnfencaaDoor
