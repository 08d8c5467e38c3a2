/- Same, at the same lists of texts. -/
import Derived.WalkKit
import Derived.RegionTactic
import Derived.ChangeAlike
import Derived.Test.YtcfmpajdhbcimaaProg
import Derived.Test.YtcfmpajdhbcimaaMw
namespace Go.Proofs.Ytcfmpajdhbcimaa
open Go.RowKit

def SRel4 (n : Nat) (w : World) (idx : Value) (wr : World) : Prop := ∃ i : Nat, i ≤ n ∧ idx = .int .i64 (i : Int) ∧ Below w.heap.size w wr

set_option maxRecDepth 100000 in
set_option maxHeartbeats 800000 in
theorem texts_same (A A' : Option Addr) (n c c' B B' : Nat) (xs : List (List UInt8)) (hn : n ≤ 1073741824) (w : World) (hB : B ≤ w.heap.size) (hB' : B' ≤ w.heap.size) (hr : Reads w B 1 A n (xs.map tsv)) (hr' : Reads w B' 1 A' n (xs.map tsv)) :
    Calls Try.prog 8 #[.slice A n c, .slice A' n c'] w fun e w' => e = .returned (.bool true) ∧ Below w.heap.size w w' := by
  have HR := Lib.hid hr
  have HR' := Lib.hid hr'
  clear hr hr'
  go_enter Try.func8, Try.ntmps8
  go_wp2
  go_loopw [5] (fun idx wr => SRel4 n w idx wr) (fun idx _ => n - (intOf idx).toNat)
  case atStart => exact ⟨0, by omega, rfl, Below.refl _ _⟩
  case round =>
    obtain ⟨i, hi, rfl, hb⟩ := hrel
    by_cases hlt : i < n
    · obtain ⟨ad, u, rfl, _, hx, hcell⟩ := (HR.out.below (hb.mono hB)).at_ hlt
      obtain ⟨ad', u', rfl, _, hx', hcell'⟩ := (HR'.out.below (hb.mono hB')).at_ hlt
      obtain rfl : u = u' := by rw [hx] at hx'; exact Option.some.inj hx'
      obtain ⟨x, rfl⟩ : ∃ x, u = .string (tx x) := by
        rw [List.getElem?_map] at hx
        obtain ⟨x, _, rfl⟩ := Option.map_eq_some_iff.1 hx
        exact ⟨x, rfl⟩
      clear hx hx'
      have HB := Lib.hid hb
      clear hb
      go_wp2
      go_region
      all_goals (try go_wp2)
      all_goals exact ⟨⟨i + 1, by omega, by go_num, HB.out.drew⟩, by simp [intOf]; omega⟩
    · obtain rfl : i = n := by omega
      go_wp2
      go_ret
      exact ⟨rfl, hb⟩

end Go.Proofs.Ytcfmpajdhbcimaa
