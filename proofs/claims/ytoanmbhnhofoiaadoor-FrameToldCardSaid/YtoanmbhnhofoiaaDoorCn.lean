/- A sum's four bytes, and the sum that four bytes are: no program is named here. -/
import Derived.Test.YtoanmbhnhofoiaaDoorCa
namespace Go.Proofs.YtoanmbhnhofoiaaDoor

theorem xor_add (a x k : Nat) (ha : a < 2 ^ k) : a ^^^ (x * 2 ^ k) = a + x * 2 ^ k := by
  apply Nat.eq_of_testBit_eq
  intro i
  have h := Nat.testBit_two_pow_mul_add x ha i
  rw [Nat.add_comm a, Nat.mul_comm x, h, Nat.testBit_xor, Nat.mul_comm, Nat.testBit_mul_two_pow]
  by_cases hlt : i < k
  · simp [hlt, show ¬ k ≤ i by omega]
  · have : a.testBit i = false := Nat.testBit_lt_two_pow (Nat.lt_of_lt_of_le ha (Nat.pow_le_pow_right (by omega) (by omega)))
    simp [hlt, this, show k ≤ i by omega]

theorem le4_cons (x : UInt8) (q : List UInt8) (h : q.length ≤ 3) : (le4 (x :: q)).toNat = x.toNat + (le4 q).toNat * 256 := by
  have h1 := le4_lt q (by omega)
  have h2 : (le4 q).toNat < 2 ^ 24 := Nat.lt_of_lt_of_le h1 (Nat.pow_le_pow_right (by omega) (by omega))
  have hx := x.toNat_lt
  rw [le4, BitVec.toNat_xor, x32_toNat, BitVec.toNat_shiftLeft, Nat.shiftLeft_eq, Nat.mod_eq_of_lt (by omega)]
  exact xor_add x.toNat (le4 q).toNat 8 (by omega)

/-- A sum's four bytes, the lowest first. -/
def nth (s : W32) (i : Nat) : UInt8 := UInt8.ofNat (s.toNat / 2 ^ (8 * i) % 256)
def lb (s : W32) : List UInt8 := [nth s 0, nth s 1, nth s 2, nth s 3]

theorem le4_lb (s : W32) : le4 (lb s) = s := by
  apply BitVec.eq_of_toNat_eq
  have hs := s.isLt
  have e : ∀ j, (nth s j).toNat = s.toNat / 2 ^ (8 * j) % 256 := fun j => by simp [nth]
  rw [lb, le4_cons _ _ (by simp), le4_cons _ _ (by simp), le4_cons _ _ (by simp), le4_cons _ _ (by simp), e, e, e, e]
  simp [le4]
  omega

theorem lb_inj {s t : W32} (h : lb s = lb t) : s = t := by rw [← le4_lb s, h, le4_lb]
theorem lb_len (s : W32) : (lb s).length = 4 := rfl

theorem x32_byte (x : UInt8) : UInt8.ofNat x.toNat = x := by simp

/-- Four bytes are the bytes of the sum that they are. -/
theorem lb_le4 (a b c d : UInt8) : lb (le4 [a, b, c, d]) = [a, b, c, d] := by
  have ha := a.toNat_lt
  have hb := b.toNat_lt
  have hc := c.toNat_lt
  have hd := d.toNat_lt
  have h : (le4 [a, b, c, d]).toNat = a.toNat + 256 * b.toNat + 65536 * c.toNat + 16777216 * d.toNat := by
    rw [le4_cons _ _ (by simp), le4_cons _ _ (by simp), le4_cons _ _ (by simp), le4_cons _ _ (by simp)]
    simp [le4]
    omega
  have e : ∀ (i : Nat) (x : UInt8), (le4 [a, b, c, d]).toNat / 2 ^ (8 * i) % 256 = x.toNat → nth (le4 [a, b, c, d]) i = x := fun i x hx => by rw [nth, hx, x32_byte]
  rw [lb, e 0 a (by rw [h]; simp; omega), e 1 b (by rw [h]; simp; omega), e 2 c (by rw [h]; simp; omega), e 3 d (by rw [h]; simp; omega)]

theorem lb_of {t : List UInt8} (ht : t.length = 4) : lb (le4 t) = t := by
  match t, ht with
  | [a, b, c, d], _ => exact lb_le4 a b c d

end Go.Proofs.YtoanmbhnhofoiaaDoor
