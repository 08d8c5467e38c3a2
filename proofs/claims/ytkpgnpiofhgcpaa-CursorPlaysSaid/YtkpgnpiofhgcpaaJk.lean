/- The walks of Same and SameNumbers: at the same lists; and of the example. -/
import Derived.Test.YtkpgnpiofhgcpaaJj
namespace Go.Proofs.Ytkpgnpiofhgcpaa
open Go.RowKit

theorem nv_at {xs : List Nat} {i : Nat} {u : Value} (h : (xs.map nv)[i]? = some u) : ∃ x : Nat, u = .int .u64 (x : Int) ∧ xs[i]? = some x := by
  rw [List.getElem?_map] at h
  obtain ⟨x, hx, rfl⟩ := Option.map_eq_some_iff.1 h
  exact ⟨x, rfl, hx⟩

def SRel4 (n : Nat) (w : World) (idx : Value) (wr : World) : Prop := ∃ i : Nat, i ≤ n ∧ idx = .int .i64 (i : Int) ∧ Below w.heap.size w wr

set_option maxRecDepth 100000 in
set_option maxHeartbeats 800000 in
theorem same_any (A A' : Option Addr) (n c c' B B' : Nat) (xs : List (List UInt8)) (hn : n ≤ 1073741824) (w : World) (hB : B ≤ w.heap.size) (hB' : B' ≤ w.heap.size) (hr : Reads w B 1 A n (xs.map sv)) (hr' : Reads w B' 1 A' n (xs.map sv)) :
    Calls Try.prog 19 #[.slice A n c, .slice A' n c'] w fun e w' => e = .returned (.bool true) ∧ Below w.heap.size w w' := by
  have HR := Lib.hid hr
  have HR' := Lib.hid hr'
  clear hr hr'
  go_enter Try.func19, Try.ntmps19
  go_wp2
  go_loopw [5] (fun idx wr => SRel4 n w idx wr) (fun idx _ => n - (intOf idx).toNat)
  case atStart => exact ⟨0, by omega, rfl, Below.refl _ _⟩
  case round =>
    obtain ⟨i, hi, rfl, hb⟩ := hrel
    by_cases hlt : i < n
    · obtain ⟨ad, u, rfl, _, hx, hcell⟩ := (HR.out.below (hb.mono hB)).at_ hlt
      obtain ⟨ad', u', rfl, _, hx', hcell'⟩ := (HR'.out.below (hb.mono hB')).at_ hlt
      obtain rfl : u = u' := by rw [hx] at hx'; exact Option.some.inj hx'
      obtain ⟨x, rfl, _⟩ := text_at hx
      clear hx hx'
      have HB := Lib.hid hb
      clear hb
      go_wp2
      go_region
      all_goals (try go_wp2)
      all_goals exact ⟨⟨i + 1, by omega, by go_num, HB.out.drew⟩, by simp [intOf]; omega⟩
    · obtain rfl : i = n := by omega
      go_wp2
      go_ret
      exact ⟨rfl, hb⟩

def SNRel4 (n : Nat) (w : World) (idx : Value) (wr : World) : Prop := ∃ i : Nat, i ≤ n ∧ idx = .int .i64 (i : Int) ∧ Below w.heap.size w wr

set_option maxRecDepth 100000 in
set_option maxHeartbeats 800000 in
theorem samenum_any (A A' : Option Addr) (n c c' B B' : Nat) (xs : List Nat) (hn : n ≤ 1073741824) (w : World) (hB : B ≤ w.heap.size) (hB' : B' ≤ w.heap.size) (hr : Reads w B 1 A n (xs.map nv)) (hr' : Reads w B' 1 A' n (xs.map nv)) :
    Calls Try.prog 27 #[.slice A n c, .slice A' n c'] w fun e w' => e = .returned (.bool true) ∧ Below w.heap.size w w' := by
  have HR := Lib.hid hr
  have HR' := Lib.hid hr'
  clear hr hr'
  go_enter Try.func27, Try.ntmps27
  go_wp2
  go_loopw [5] (fun idx wr => SNRel4 n w idx wr) (fun idx _ => n - (intOf idx).toNat)
  case atStart => exact ⟨0, by omega, rfl, Below.refl _ _⟩
  case round =>
    obtain ⟨i, hi, rfl, hb⟩ := hrel
    by_cases hlt : i < n
    · obtain ⟨ad, u, rfl, _, hx, hcell⟩ := (HR.out.below (hb.mono hB)).at_ hlt
      obtain ⟨ad', u', rfl, _, hx', hcell'⟩ := (HR'.out.below (hb.mono hB')).at_ hlt
      obtain rfl : u = u' := by rw [hx] at hx'; exact Option.some.inj hx'
      obtain ⟨x, rfl, _⟩ := nv_at hx
      clear hx hx'
      have HB := Lib.hid hb
      clear hb
      go_wp2
      go_region
      all_goals (try go_wp2)
      all_goals exact ⟨⟨i + 1, by omega, by go_num, HB.out.drew⟩, by simp [intOf]; omega⟩
    · obtain rfl : i = n := by omega
      go_wp2
      go_ret
      exact ⟨rfl, hb⟩

end Go.Proofs.Ytkpgnpiofhgcpaa
