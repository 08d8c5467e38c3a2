/- The small walks of words: which signs stand for themselves; a sign; IndexByte. -/
import Derived.WalkKit
import Derived.Outline
import Derived.RegionTactic
import Derived.ChangeAlike
import Derived.Lib.Hide
import Derived.Laws.Bits64b
import Derived.Laws.Externs
import Derived.Laws.Runes
import Derived.Test.YthpnfdnhaphfgaaDoorProg
import Derived.Test.YthpnfdnhaphfgaaDoorK2
import Derived.Test.YthpnfdnhaphfgaaDoorH
import Derived.Test.YthpnfdnhaphfgaaDoorEa
namespace Go.Proofs.YthpnfdnhaphfgaaDoor
open Go.RowKit

/-- The value of the function that tells which bytes stand for themselves. -/
def itv (all : Bool) : Value := .func (.func (if all then 61 else 62)) #[] #[]

theorem itself_h (w : World) : Calls Tryd.prog 48 #[.string { data := #[45] }] w fun e w' => e = .returned (.func (.func 61) #[] #[]) ∧ w = w' := by
  go_enter Tryd.func48, Tryd.ntmps48
  go_wp2
  go_ret
  exact ⟨rfl, rfl⟩

theorem eq_bytes (l k : List UInt8) : ((tx l).toList == k) = decide (l = k) := by rw [tx_toList, Bool.eq_iff_iff]; simp

theorem itself_o (l : List UInt8) (hs : l ≠ [45]) (w : World) : Calls Tryd.prog 48 #[.string (tx l)] w fun e w' => e = .returned (.func (.func 62) #[] #[]) ∧ w = w' := by
  have h1 : ((tx l).toList == [45]) = false := by rw [eq_bytes, decide_eq_false hs]
  go_enter Tryd.func48, Tryd.ntmps48
  go_wp2
  go_ret
  exact ⟨rfl, rfl⟩

theorem self1_any (b : UInt8) (w : World) : Calls Tryd.prog 61 #[.int .u8 (b.toNat : Int)] w fun e w' => e = .returned (.bool false) ∧ w = w' := by
  go_enter Tryd.func61, Tryd.ntmps61
  go_wp2
  go_ret
  exact ⟨rfl, rfl⟩

theorem self2_any (b : UInt8) (w : World) : Calls Tryd.prog 62 #[.int .u8 (b.toNat : Int)] w fun e w' => e = .returned (.bool (okb b)) ∧ w = w' := by
  have hb := b.toNat_lt
  unfold okb
  generalize b.toNat = n at *
  by_cases h : 33 ≤ n ∧ n ≤ 126 ∧ n ≠ 92
  · rw [decide_eq_true h]
    obtain ⟨h1, h2, h3⟩ := h
    have k3 : ((n : Int) == 92) = false := by simp; omega
    have k4 : ((n : Int) != 92) = true := by simp; omega
    go_enter Tryd.func62, Tryd.ntmps62
    go_wp2
    go_ret
    exact ⟨rfl, rfl⟩
  · rw [decide_eq_false h]
    by_cases h1 : 33 ≤ n
    · by_cases h2 : n ≤ 126
      · obtain rfl : n = 92 := by omega
        go_enter Tryd.func62, Tryd.ntmps62
        go_wp2
        go_ret
        exact ⟨rfl, rfl⟩
      · go_enter Tryd.func62, Tryd.ntmps62
        go_wp2
        go_ret
        exact ⟨rfl, rfl⟩
    · go_enter Tryd.func62, Tryd.ntmps62
      go_wp2
      go_ret
      exact ⟨rfl, rfl⟩

theorem digs_at (m : Nat) (hm : m < 16) (hp : m < ({ data := #[48, 49, 50, 51, 52, 53, 54, 55, 56, 57, 97, 98, 99, 100, 101, 102] } : ByteArray).size) :
    Value.int .u8 (((({ data := #[48, 49, 50, 51, 52, 53, 54, 55, 56, 57, 97, 98, 99, 100, 101, 102] } : ByteArray)[m]'hp).toNat : Nat) : Int) = bv (dig m) := by
  have h : ∀ k : Fin 16, ((({ data := #[48, 49, 50, 51, 52, 53, 54, 55, 56, 57, 97, 98, 99, 100, 101, 102] } : ByteArray)[k.val]'(by have := k.isLt; exact this)).toNat : Nat) = (dig k.val).toNat := by decide
  exact congrArg (fun x : Nat => Value.int .u8 (x : Int)) (h ⟨m, hm⟩)

theorem digs_ix (z : Int) (m : Nat) (hz : z = (m : Int)) (hm : m < 16) (v : World) (B : Result Value) (hp : ∀ _ : 0 ≤ z ∧ z < 16, z.toNat < ({ data := #[48, 49, 50, 51, 52, 53, 54, 55, 56, 57, 97, 98, 99, 100, 101, 102] } : ByteArray).size) :
    ((if h : 0 ≤ z ∧ z < 16 then Result.ok (Value.int .u8 (((({ data := #[48, 49, 50, 51, 52, 53, 54, 55, 56, 57, 97, 98, 99, 100, 101, 102] } : ByteArray)[z.toNat]'(hp h)).toNat : Nat) : Int)) v else B).andThen fun a w' => Result.ok (Next.value a) w') = Result.ok (Next.value (bv (dig m))) v := by
  subst hz
  rw [dif_pos ⟨by omega, by omega⟩]
  have h1 := digs_at m hm (by simp [ByteArray.size]; omega)
  simp only [Int.toNat_natCast, h1, Result.andThen]

theorem reads_three (W : World) (e : TypeId) (x y z : UInt8) : Reads (W.alloc (.cells #[bv x, bv y, bv z] e)) (W.heap.size + 1) 1 (some ⟨W.heap.size, 0, none⟩) 3 ([x, y, z].map bv) :=
  ⟨rfl, fun _ => ⟨_, rfl, by simp, fun j u hu => by
    match j with
    | 0 =>
      have hu' : bv x = u := by simpa using hu
      subst hu'
      simp [Addr.add]
    | 1 =>
      have hu' : bv y = u := by simpa using hu
      subst hu'
      simp [Addr.add]
    | 2 =>
      have hu' : bv z = u := by simpa using hu
      subst hu'
      simp [Addr.add]
    | j + 3 => simp at hu⟩⟩

end Go.Proofs.YthpnfdnhaphfgaaDoor
