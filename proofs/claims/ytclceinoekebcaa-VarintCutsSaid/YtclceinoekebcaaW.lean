/- The walks of varint.laid, of what it hands on, of varint.Put and of varint.Size: at every number of 64 bits. -/
import Derived.RangeFuncNested
import Derived.RangeFuncBound
import Derived.RangeFuncCalls
import Derived.RangeFuncLeaves
import Derived.RangeFuncBox
import Derived.Shelf.Abstract
import Derived.Shelf.RegionOpen
import Derived.WalkKit
import Derived.OwnWalkIn
import Derived.TacticsInMore
import Derived.LoopNIn
import Derived.LoopIn
import Derived.Maps.AppendAt
import Derived.Lib.Hide
import Derived.Test.YtclceinoekebcaaProg
import Derived.Test.YtclceinoekebcaaM
namespace Go.Proofs.Ytclceinoekebcaa
open Go.RowKit Go.Shelf
attribute [local go_sem] Oper.semAt_some

theorem laid_in (F : Fence) (n : Nat) (h13 : F.fn 13) (hro : F.round = none) (k : Int) (w : World) :
    CallsIn F n Try.prog 13 #[.int .u64 k] w fun e w' => e = .returned (.func (.func 15) #[] #[.pointer (some ⟨w.heap.size, 0, none⟩)]) ∧ w' = w.alloc (.cells #[.int .u64 k] 23) := by
  refine callsIn_of_wp Try.func13 rfl h13 ?_ hro
  simp only [Try.ntmps13, List.size_toArray, List.length_cons, List.length_nil, Nat.reduceAdd, Nat.reduceSub, Array.replicate_succ, Array.replicate_zero, List.push_toArray, List.append_toArray, List.nil_append, List.cons_append]
  gi_wp2
  go_ret
  exact ⟨rfl, rfl⟩

theorem or128 : ∀ x : Fin 256, bits BinOp.or IntKind.u8 ((x : Nat) : Int) 128 = (((x : Nat) % 128 + 128 : Nat) : Int) := by decide +kernel
theorem or128' (m : Nat) : bits BinOp.or IntKind.u8 ((m : Int) % 256) 128 = (((UInt8.ofNat (m % 128 + 128)).toNat : Nat) : Int) := by
  have h := or128 ⟨m % 256, Nat.mod_lt _ (by omega)⟩
  rw [u8_cont]
  have e : ((m : Int) % 256) = ((m % 256 : Nat) : Int) := by omega
  rw [e, h]
  have : m % 256 % 128 = m % 128 := by omega
  show ((m % 256 % 128 + 128 : Nat) : Int) = _
  rw [this]

set_option maxRecDepth 100000 in
set_option maxHeartbeats 400000 in
theorem it_in (F : Fence) (n : Nat) (h15 : F.fn 15) (hro : F.round = none) (hn : 1 ≤ n) (l Bn : Nat) (k : Nat) (Kp : World → World → Prop) (J Jx : List UInt8 → World → Prop)
    (hY : ∀ pre x W, J pre W → pre.length < (vb k).length → YieldAt F (n - 1) Try.prog l #[.int .u8 ((x : UInt8).toNat : Int)] W fun e W' =>
      (e = .returned (.bool true) ∧ J (pre ++ [x]) W' ∧ Kp W W') ∨ (e = .returned (.bool false) ∧ Jx (pre ++ [x]) W'))
    (W : World) (hBn : W.cell? ⟨Bn, 0, none⟩ = some (.int .u64 (k : Int))) (h0 : J [] W) :
    CallsIn F n Try.prog 15 #[.func (.yield l) #[] #[], .pointer (some ⟨Bn, 0, none⟩)] W fun e W' => (∃ v, e = .returned v) ∧
      ((∃ ys, ys = vb k ∧ J ys W') ∨ (∃ pre, pre <+: vb k ∧ Jx pre W')) := by
  refine callsIn_of_wp Try.func15 rfl h15 ?_ hro
  simp only [Try.ntmps15, List.size_toArray, List.length_cons, List.length_nil, Nat.reduceAdd, Nat.reduceSub, Array.replicate_succ, Array.replicate_zero, List.push_toArray, List.append_toArray, List.nil_append, List.cons_append]
  obtain ⟨L, hL⟩ : ∃ L, L = vb k := ⟨_, rfl⟩
  rw [← hL] at hY ⊢
  have HL := Lib.hid hL
  clear hL
  gi_wp2
  gi_loopw [3] (fun p wr => ∃ (pre : List UInt8) (m : Nat), p = .int .u64 (m : Int) ∧ Hid (L = pre ++ vb m) ∧ J pre wr)
    (fun p wr => (intOf p).toNat)
  case atStart =>
    exact ⟨[], k, rfl, HL.out, h0⟩
  case round =>
    obtain ⟨pre, m, rfl, hx, hJs⟩ := hrel
    by_cases h : m < 128
    · have hlen : pre.length < L.length := by rw [hx.out]; have := vb_pos m; simp; omega
      obtain ⟨fn, tmps, assign, body, hy, hR⟩ := hY pre (UInt8.ofNat m) wr hJs hlen
      rw [u8_ofNat m (by omega)] at hy
      have hx' : Hid (L = pre ++ [UInt8.ofNat m]) := by have := hx.out; rwa [vb_lt h] at this
      gi_wp2
      refine hR.mono ?_
      rintro e W3 (⟨rfl, hJ3, hk3⟩ | ⟨rfl, hJx3⟩)
      · gi_wp2
        go_end0
        exact ⟨⟨_, rfl⟩, .inl ⟨_, hx'.out.symm, hJ3⟩⟩
      · gi_wp2
        go_end0
        exact ⟨⟨_, rfl⟩, .inr ⟨_, by rw [hx'.out]; exact List.prefix_refl _, hJx3⟩⟩
    · have hlen : pre.length < L.length := by rw [hx.out]; have := vb_pos m; simp; omega
      obtain ⟨fn, tmps, assign, body, hy, hR⟩ := hY pre (UInt8.ofNat (m % 128 + 128)) wr hJs hlen
      rw [← or128' m] at hy
      have hx' : Hid (L = (pre ++ [UInt8.ofNat (m % 128 + 128)]) ++ vb (m / 128)) := by have := hx.out; rw [vb_ge (by omega)] at this; rw [this]; simp [Hid]
      clear hlen hx
      gi_wp2
      refine hR.mono ?_
      rintro e W3 (⟨rfl, hJ3, hk3⟩ | ⟨rfl, hJx3⟩)
      · gi_wp2
        go_roundw
        case rel => exact ⟨pre ++ [UInt8.ofNat (m % 128 + 128)], m / 128, by go_num, hx', hJ3⟩
        case measure => simp [intOf]; omega
      · gi_wp2
        refine bodyPost_ret (results_none rfl _ _ _) rfl ?_
        exact ⟨⟨_, rfl⟩, .inr ⟨_, by rw [hx'.out]; exact ⟨_, rfl⟩, hJx3⟩⟩

/-- What is handed on: all of a number's bytes, in their order; or some first ones, where a round has said that it wants no more. -/
theorem it_stops (F : Fence) (n : Nat) (h15 : F.fn 15) (hro : F.round = none) (hn : 1 ≤ n) (Bn k : Nat) (w : World) (hBn : Bn < w.heap.size) (hc : w.cell? ⟨Bn, 0, none⟩ = some (.int .u64 (k : Int))) :
    SeqStopsK F n Try.prog 15 #[.pointer (some ⟨Bn, 0, none⟩)] (fun x : UInt8 => #[Value.int .u8 (x.toNat : Int)]) (fun _ _ => True) (fun ys => ys = vb k) (fun pre => pre <+: vb k) (vb k).length w := fun l J Jx W hW _ _ hY h0 =>
  it_in F n h15 hro hn l Bn k (fun _ _ => True) J Jx hY W ((hW.cell (p := ⟨Bn, 0, none⟩) hBn).trans hc) h0

theorem laid_any (k : Int) (w : World) :
    Calls Try.prog 13 #[.int .u64 k] w fun e w' => e = .returned (.func (.func 15) #[] #[.pointer (some ⟨w.heap.size, 0, none⟩)]) ∧ w' = w.alloc (.cells #[.int .u64 k] 23) :=
  (callsIn_wide (n := 1)).1 (laid_in Fence.wide 1 trivial rfl k w)

set_option maxRecDepth 100000 in
set_option maxHeartbeats 400000 in
/-- Size: how many bytes a number has. -/
theorem size_any (k : Nat) (hk : k < top) (w : World) :
    Calls Try.prog 11 #[.int .u64 (k : Int)] w fun e w' => e = .returned (.int .i64 ((vb k).length : Int)) ∧ Below w.heap.size w w' := by
  have hlen := vb_len k hk
  clear hk
  refine (callsIn_wide (n := 4)).1 ?_
  refine callsIn_of_wp_marks Try.func11 rfl trivial ?_ rfl
  refine wpIn_wide.2 ?_
  simp only [Try.ntmps11, List.size_toArray, List.length_cons, List.length_nil, Nat.reduceAdd, Nat.reduceSub, Array.replicate_succ, Array.replicate_zero, List.push_toArray, List.append_toArray, List.nil_append, List.cons_append]
  go_wp2_with (go_at_call 13; refine (laid_any _ _).mono ?_; rintro e w' ⟨rfl, rfl⟩)
  have bS := Boxed.new w 3 (.int .i64 0)
  have bN := Boxed.new (w.alloc (.cells #[.int .i64 0] 3)) 23 (.int .u64 (k : Int))
  rw [World.size_alloc] at bN
  have hB0 : Below w.heap.size w ((w.alloc (.cells #[.int .i64 0] 3)).alloc (.cells #[.int .u64 (k : Int)] 23)) := ((Below.refl _ w).alloc (Nat.le_refl _) _).alloc (by simp) _
  refine (wpIn_wide (n := 4)).1 ?_
  refine wpIn_rangeFunc_ownG rfl (by omega) (gf := 15) (lb := #[.pointer (some ⟨w.heap.size + 1, 0, none⟩)]) rfl trivial (enters_of Try.func15 (by kernel_rfl) rfl)
    (it_stops Fence.wide 3 trivial rfl (by omega) (w.heap.size + 1) k _ (by simp) bN.cell) (fun _ _ => trivial) (fun _ _ _ _ _ _ _ _ => trivial) (Below.refl _ _) (fun _ => rfl)
    (fun pre W => Boxed W w.heap.size 3 (.int .i64 (pre.length : Int)) ∧ Below w.heap.size w W)
    (fun _ _ _ => False)
    (OwnFrom.and (Own.from (fun s A B row hs hg hr => hs.kept hg (fun e => by
        obtain ⟨o, ho, hc⟩ := hr _ e.symm
        rw [show A.heap[w.heap.size]? = _ from hs] at ho; cases ho; cases hc)) _) (ownFrom_below (Nat.le_refl _) (by simp; omega)))
    (fun _ _ _ _ _ hs _ _ => hs)
    ⟨bS.alloc _, hB0⟩
    (fun x => { tmps := #[.int .u64 (k : Int), undef, .int .i64 0, .pointer (some ⟨w.heap.size, 0, none⟩), .int .u64 (k : Int), .func (.func 15) #[] #[.pointer (some ⟨w.heap.size + 1, 0, none⟩)], .int .u8 (x.toNat : Int), undef, undef, undef], defers := [] }) ?assign ?body ?done ?stop
  case assign =>
    intro l x W K hK
    gi_wp2
    simpa using hK
  case body =>
    rintro l pre x W ⟨hb, hB⟩ hlt
    have hc := hb.cell
    have hf := hb.frozen
    gi_wp2
    refine ⟨(KeepsOthers.setCell _ _ _).from _, trivial, ?_, hB.setCell (p := ⟨w.heap.size, 0, none⟩) (Nat.le_refl _) _⟩
    have := hb.set (.int .i64 ((pre ++ [x]).length : Int))
    simpa using this
  case done =>
    rintro D ys W hD rfl ⟨hb, hB⟩ hK
    have hc := hb.cell
    go_wp2
    refine ⟨by simp, .inl ⟨_, _, rfl, run_takeDeferred hK, ?_⟩⟩
    exact ⟨_, results_tmp rfl _ _ _, rfl, hB.trans (belowK_b (w := w) (Nat.le_refl _) W D _ _ (by simp at hD; omega) hK rfl rfl)⟩
  case stop =>
    rintro D c pre W _ _ h _
    exact h.elim

end Go.Proofs.Ytclceinoekebcaa
