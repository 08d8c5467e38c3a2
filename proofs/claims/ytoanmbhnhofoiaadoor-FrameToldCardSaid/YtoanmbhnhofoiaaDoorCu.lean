/- Bits that are turned, as the walks spell them. -/
import Derived.Test.YtoanmbhnhofoiaaDoorCs
namespace Go.Proofs.YtoanmbhnhofoiaaDoor
open Go.RowKit

theorem and_one (y k t : Nat) (hy : y < 4294967296) (ht : t = y / 2 ^ k % 2) : bits .and .u32 ((y : Int) / 2 ^ k) 1 = (t : Int) := by
  have e : ((y : Int) / 2 ^ k) = ((y / 2 ^ k : Nat) : Int) := by simp
  have hlt : y / 2 ^ k < 4294967296 := Nat.lt_of_le_of_lt (Nat.div_le_self _ _) hy
  rw [e]
  refine (u32_and_nat (y / 2 ^ k) 1 hlt (by omega)).trans ?_
  rw [Nat.and_one_is_mod, ht]

theorem flip_val (x : UInt8) (b : Nat) (hb : b < 8) : bv (x ^^^ UInt8.ofNat (2 ^ b)) = .int .u8 (bits .xor .u8 (x.toNat : Int) (2 ^ b % 256)) := by
  have h1 : 2 ^ b < 256 := Nat.lt_of_lt_of_le (Nat.pow_lt_pow_right (by omega) hb) (by decide)
  have h2 : (UInt8.ofNat (2 ^ b)).toNat = 2 ^ b := by simp; omega
  have h3 : ((2 : Int) ^ b % 256) = ((2 ^ b : Nat) : Int) := by
    have : ((2 : Int) ^ b) = ((2 ^ b : Nat) : Int) := by simp
    rw [this]
    omega
  rw [h3, u8_xor_nat _ _ x.toNat_lt h1, bv, UInt8.toNat_xor, h2]

theorem x32_flip (x : UInt8) (b : Nat) (hb : b < 8) : x32 (x ^^^ UInt8.ofNat (2 ^ b)) = x32 x ^^^ (1#32 <<< b) := by
  rw [x32_xor]
  congr 1
  have : ∀ j : Fin 8, x32 (UInt8.ofNat (2 ^ j.val)) = 1#32 <<< j.val := by decide
  exact this ⟨b, hb⟩

end Go.Proofs.YtoanmbhnhofoiaaDoor
