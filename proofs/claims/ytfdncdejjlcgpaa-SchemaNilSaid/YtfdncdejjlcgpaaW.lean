/- The walks of varint.laid, and of what it hands on: at every number of 64 bits. -/
import Derived.RangeFuncNested
import Derived.RangeFuncBound
import Derived.RangeFuncCalls
import Derived.RangeFuncLeaves
import Derived.RangeFuncBox
import Derived.Shelf.Abstract
import Derived.Shelf.RegionOpen
import Derived.WalkKit
import Derived.OwnWalkIn
import Derived.TacticsInMore
import Derived.LoopNIn
import Derived.LoopIn
import Derived.Maps.AppendAt
import Derived.Lib.Hide
import Derived.Test.YtfdncdejjlcgpaaProg
import Derived.Test.YtfdncdejjlcgpaaM
namespace Go.Proofs.Ytfdncdejjlcgpaa
open Go.RowKit Go.Shelf
attribute [local go_sem] Oper.semAt_some

theorem laid_in (F : Fence) (n : Nat) (h13 : F.fn 93) (hro : F.round = none) (k : Int) (w : World) :
    CallsIn F n Try.prog 93 #[.int .u64 k] w fun e w' => e = .returned (.func (.func 99) #[] #[.pointer (some ⟨w.heap.size, 0, none⟩)]) ∧ w' = w.alloc (.cells #[.int .u64 k] 23) := by
  refine callsIn_of_wp Try.func93 rfl h13 ?_ hro
  simp only [Try.ntmps93, List.size_toArray, List.length_cons, List.length_nil, Nat.reduceAdd, Nat.reduceSub, Array.replicate_succ, Array.replicate_zero, List.push_toArray, List.append_toArray, List.nil_append, List.cons_append]
  gi_wp2
  go_ret
  exact ⟨rfl, rfl⟩

theorem or128 : ∀ x : Fin 256, bits BinOp.or IntKind.u8 ((x : Nat) : Int) 128 = (((x : Nat) % 128 + 128 : Nat) : Int) := by decide +kernel
theorem or128' (m : Nat) : bits BinOp.or IntKind.u8 ((m : Int) % 256) 128 = (((UInt8.ofNat (m % 128 + 128)).toNat : Nat) : Int) := by
  have h := or128 ⟨m % 256, Nat.mod_lt _ (by omega)⟩
  rw [u8_cont]
  have e : ((m : Int) % 256) = ((m % 256 : Nat) : Int) := by omega
  rw [e, h]
  have : m % 256 % 128 = m % 128 := by omega
  show ((m % 256 % 128 + 128 : Nat) : Int) = _
  rw [this]

set_option maxRecDepth 100000 in
set_option maxHeartbeats 400000 in
theorem it_in (F : Fence) (n : Nat) (h15 : F.fn 99) (hro : F.round = none) (hn : 1 ≤ n) (l Bn : Nat) (k : Nat) (Kp : World → World → Prop) (J Jx : List UInt8 → World → Prop)
    (hY : ∀ pre x W, J pre W → pre.length < (vb k).length → YieldAt F (n - 1) Try.prog l #[.int .u8 ((x : UInt8).toNat : Int)] W fun e W' =>
      (e = .returned (.bool true) ∧ J (pre ++ [x]) W' ∧ Kp W W') ∨ (e = .returned (.bool false) ∧ Jx (pre ++ [x]) W'))
    (W : World) (hBn : W.cell? ⟨Bn, 0, none⟩ = some (.int .u64 (k : Int))) (h0 : J [] W) :
    CallsIn F n Try.prog 99 #[.func (.yield l) #[] #[], .pointer (some ⟨Bn, 0, none⟩)] W fun e W' => (∃ v, e = .returned v) ∧
      ((∃ ys, ys = vb k ∧ J ys W') ∨ (∃ pre, pre <+: vb k ∧ Jx pre W')) := by
  refine callsIn_of_wp Try.func99 rfl h15 ?_ hro
  simp only [Try.ntmps99, List.size_toArray, List.length_cons, List.length_nil, Nat.reduceAdd, Nat.reduceSub, Array.replicate_succ, Array.replicate_zero, List.push_toArray, List.append_toArray, List.nil_append, List.cons_append]
  obtain ⟨L, hL⟩ : ∃ L, L = vb k := ⟨_, rfl⟩
  rw [← hL] at hY ⊢
  have HL := Lib.hid hL
  clear hL
  gi_wp2
  gi_loopw [3] (fun p wr => ∃ (pre : List UInt8) (m : Nat), p = .int .u64 (m : Int) ∧ Hid (L = pre ++ vb m) ∧ J pre wr)
    (fun p wr => (intOf p).toNat)
  case atStart =>
    exact ⟨[], k, rfl, HL.out, h0⟩
  case round =>
    obtain ⟨pre, m, rfl, hx, hJs⟩ := hrel
    by_cases h : m < 128
    · have hlen : pre.length < L.length := by rw [hx.out]; have := vb_pos m; simp; omega
      obtain ⟨fn, tmps, assign, body, hy, hR⟩ := hY pre (UInt8.ofNat m) wr hJs hlen
      rw [u8_ofNat m (by omega)] at hy
      have hx' : Hid (L = pre ++ [UInt8.ofNat m]) := by have := hx.out; rwa [vb_lt h] at this
      gi_wp2
      refine hR.mono ?_
      rintro e W3 (⟨rfl, hJ3, hk3⟩ | ⟨rfl, hJx3⟩)
      · gi_wp2
        go_end0
        exact ⟨⟨_, rfl⟩, .inl ⟨_, hx'.out.symm, hJ3⟩⟩
      · gi_wp2
        go_end0
        exact ⟨⟨_, rfl⟩, .inr ⟨_, by rw [hx'.out]; exact List.prefix_refl _, hJx3⟩⟩
    · have hlen : pre.length < L.length := by rw [hx.out]; have := vb_pos m; simp; omega
      obtain ⟨fn, tmps, assign, body, hy, hR⟩ := hY pre (UInt8.ofNat (m % 128 + 128)) wr hJs hlen
      rw [← or128' m] at hy
      have hx' : Hid (L = (pre ++ [UInt8.ofNat (m % 128 + 128)]) ++ vb (m / 128)) := by have := hx.out; rw [vb_ge (by omega)] at this; rw [this]; simp [Hid]
      clear hlen hx
      gi_wp2
      refine hR.mono ?_
      rintro e W3 (⟨rfl, hJ3, hk3⟩ | ⟨rfl, hJx3⟩)
      · gi_wp2
        go_roundw
        case rel => exact ⟨pre ++ [UInt8.ofNat (m % 128 + 128)], m / 128, by go_num, hx', hJ3⟩
        case measure => simp [intOf]; omega
      · gi_wp2
        refine bodyPost_ret (results_none rfl _ _ _) rfl ?_
        exact ⟨⟨_, rfl⟩, .inr ⟨_, by rw [hx'.out]; exact ⟨_, rfl⟩, hJx3⟩⟩

/-- What is handed on: all of a number's bytes, in their order; or some first ones, where a round has said that it wants no more. -/
theorem it_stops (F : Fence) (n : Nat) (h15 : F.fn 99) (hro : F.round = none) (hn : 1 ≤ n) (Bn k : Nat) (w : World) (hBn : Bn < w.heap.size) (hc : w.cell? ⟨Bn, 0, none⟩ = some (.int .u64 (k : Int))) :
    SeqStopsK F n Try.prog 99 #[.pointer (some ⟨Bn, 0, none⟩)] (fun x : UInt8 => #[Value.int .u8 (x.toNat : Int)]) (fun _ _ => True) (fun ys => ys = vb k) (fun pre => pre <+: vb k) (vb k).length w := fun l J Jx W hW _ _ hY h0 =>
  it_in F n h15 hro hn l Bn k (fun _ _ => True) J Jx hY W ((hW.cell (p := ⟨Bn, 0, none⟩) hBn).trans hc) h0

theorem laid_any (k : Int) (w : World) :
    Calls Try.prog 93 #[.int .u64 k] w fun e w' => e = .returned (.func (.func 99) #[] #[.pointer (some ⟨w.heap.size, 0, none⟩)]) ∧ w' = w.alloc (.cells #[.int .u64 k] 23) :=
  (callsIn_wide (n := 1)).1 (laid_in Fence.wide 1 trivial rfl k w)

end Go.Proofs.Ytfdncdejjlcgpaa
