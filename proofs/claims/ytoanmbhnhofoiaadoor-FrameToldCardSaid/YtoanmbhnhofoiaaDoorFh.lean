/- The walks of frame.frames, and of what it hands on. -/
import Derived.RangeFuncBound
import Derived.RangeFuncCalls
import Derived.RangeFuncBox
import Derived.Shelf.RegionOpen
import Derived.OwnWalkIn
import Derived.TacticsInMore
import Derived.LoopNIn
import Derived.LoopIn
import Derived.Test.YtoanmbhnhofoiaaDoorIt
import Derived.Test.YtoanmbhnhofoiaaDoorFg
import Derived.Test.YtoanmbhnhofoiaaDoorFd
namespace Go.Proofs.YtoanmbhnhofoiaaDoor
open Go.RowKit Go.Shelf
attribute [local go_sem] Oper.semAt_some

/-- What a round keeps: what lay below n0, the two variables of the closure, and all bytes. -/
def Kp (n0 : Nat) (V V' : World) : Prop :=
  Below n0 V V' ∧ ∀ (k : Nat) (o : Obj), V.heap[k]? = some o → (k < n0 ∨ k = n0 + 2 ∨ k = n0 + 3 ∨ ∃ (cs : Array Value) (f : Nat × Nat), o = .cells cs 5 f) → V'.heap[k]? = some o

theorem Kp.trans {n0 : Nat} {A B C : World} (h : Kp n0 A B) (k : Kp n0 B C) : Kp n0 A C := ⟨h.1.trans k.1, fun i o hi hc => k.2 i o (h.2 i o hi hc) hc⟩
theorem kp_step {n0 : Nat} {W W' : World} {row : Option Nat} (hg : W.grownBy W' row) (hn0 : n0 ≤ W.heap.size)
    (hr : ∀ r, row = some r → n0 ≤ r ∧ r ≠ n0 + 2 ∧ r ≠ n0 + 3 ∧ ∃ (cs : Array Value) (e : TypeId) (f : Nat × Nat), W.heap[r]? = some (.cells cs e f) ∧ e ≠ 5) : Kp n0 W W' := by
  refine ⟨(Below.refl n0 W).grown hg hn0 (fun r e => (hr r e).1), fun k o hk hc => ?_⟩
  refine (hg.block k (Array.getElem?_eq_some_iff.1 hk).1 (fun e => ?_)).trans hk
  obtain ⟨h1, h2, h3, cs, e2, f, h4, h5⟩ := hr k e.symm
  rw [hk] at h4
  injection h4 with h4
  subst h4
  rcases hc with h | h | h | ⟨cs2, f2, h⟩
  · omega
  · exact h2 h
  · exact h3 h
  · injection h with _ h
    exact h5 h
theorem kp_put {n0 : Nat} {W : World} {l : Nat} {o : Obj} (o' : Obj) (hl : n0 + 4 ≤ l) (h : W.heap[l]? = some o) (ho : o.isCells = false) : ∀ (k : Nat) (p : Obj), W.heap[k]? = some p → (k < n0 ∨ k = n0 + 2 ∨ k = n0 + 3 ∨ p.isCells = true) → (W.putObj l o').heap[k]? = some p := by
  intro k p hk hc
  refine (World.putObj_heap_other (fun e => ?_)).trans hk
  subst e
  rw [h] at hk
  injection hk with hk
  subst hk
  rcases hc with h | h | h | h
  · omega
  · omega
  · omega
  · rw [ho] at h; cases h
theorem Mine.kp {n0 : Nat} {W W' : World} {v : Value} {bs : List UInt8} (h : Mine W n0 v bs) (hk : Kp n0 W W') : Mine W' n0 v bs :=
  h.keep fun g cs f _ hg => (hk.2 g _ hg (.inr (.inr (.inr ⟨cs, f, rfl⟩)))).trans hg.symm

set_option maxRecDepth 100000 in
set_option maxHeartbeats 400000 in
theorem frames_any (A : Option Addr) (m c : Nat) (a : Int) (w : World) :
    Calls Tryd.prog 33 #[.slice A m c, .int .i64 a] w fun e w' => e = .returned (.func (.func 40) #[] #[.pointer (some ⟨w.heap.size + 1, 0, none⟩), .pointer (some ⟨w.heap.size, 0, none⟩)]) ∧ w' = (w.alloc (.cells #[.slice A m c] 22)).alloc (.cells #[.int .i64 a] 3) := by
  refine (callsIn_wide (n := 1)).1 ?_
  refine callsIn_of_wp Tryd.func33 rfl trivial ?_ rfl
  simp only [Tryd.ntmps33, List.size_toArray, List.length_cons, List.length_nil, Nat.reduceAdd, Nat.reduceSub, Array.replicate_succ, Array.replicate_zero, List.push_toArray, List.append_toArray, List.nil_append, List.cons_append]
  gi_wp2
  go_ret
  exact ⟨rfl, rfl⟩

/-- What is handed on: a payload's slice, and the payload, and the place behind. -/
abbrev Got := Value × (List UInt8 × Nat)
def gotv (x : Got) : Array Value := #[x.1, .int .i64 (x.2.2 : Int)]
def GotT (n0 : Nat) (pre : List Got) (x : Got) (W : World) : Prop := pre.length < 1073741824 ∧ Mine W n0 x.1 x.2.1
def GotS (n0 : Nat) (F : List (List UInt8 × Nat)) (xs : List Got) (W : World) : Prop := xs.map (·.2) = F ∧ ∀ x ∈ xs, Mine W n0 x.1 x.2.1

set_option maxRecDepth 100000 in
set_option maxHeartbeats 1000000 in
theorem frames_hands (n n0 : Nat) (hn : 1 ≤ n) (A : Option Addr) (m c a0 : Nat) (bs : List UInt8) (hc : m ≤ c) (hm : m ≤ 1073741824) (ha0 : a0 ≤ m) (F : List (List UInt8 × Nat)) (hF : F = frun (m + 1) a0 bs)
    (ws : World) (hs : ws.heap.size = n0) (hl : Laid ws) (hr : Reads ws n0 1 A m (bs.map bv)) (w : World) (hb0 : Below n0 ws w) (hx1 : w.heap[n0 + 2]? = some (.cells #[.slice A m c] 22)) (hx2 : w.heap[n0 + 3]? = some (.cells #[.int .i64 (a0 : Int)] 3)) :
    Hands Fence.wide n Tryd.prog 40 #[.pointer (some ⟨n0 + 3, 0, none⟩), .pointer (some ⟨n0 + 2, 0, none⟩)] gotv (GotT n0) (Kp n0) (GotS n0 F) w := by
  intro l J W hW hJ hY h0
  have hbl : bs.length = m := by have := hr.1; simpa using this
  have hw1 : n0 + 2 < w.heap.size := (Array.getElem?_eq_some_iff.1 hx1).1
  have hw2 : n0 + 3 < w.heap.size := (Array.getElem?_eq_some_iff.1 hx2).1
  have HX1 := Lib.hid hx1
  have HX2 := Lib.hid hx2
  have HF := Lib.hid hF
  have HL := Lib.hid hl
  have HR := Lib.hid hr
  have HBL := Lib.hid hbl
  have HB0 := Lib.hid hb0
  have HS := Lib.hid hs
  have hWs : Below n0 ws W := hb0.trans (hW.mono (by omega))
  have hW1 : W.heap[n0 + 2]? = some (.cells #[.slice A m c] 22) := (hW.block _ hw1).trans hx1
  have hW2 : W.heap[n0 + 3]? = some (.cells #[.int .i64 (a0 : Int)] 3) := (hW.block _ hw2).trans hx2
  have hcell2 : W.cell? ⟨n0 + 3, 0, none⟩ = some (.int .i64 (a0 : Int)) := by simp [World.cell?, hW2]
  clear hx1 hx2 hF hl hr hbl hb0 hs
  refine callsIn_of_wp Tryd.func40 rfl trivial ?_ rfl
  simp only [Tryd.ntmps40, List.size_toArray, List.length_cons, List.length_nil, Nat.reduceAdd, Nat.reduceSub, Array.replicate_succ, Array.replicate_zero, List.push_toArray, List.append_toArray, List.nil_append, List.cons_append]
  gi_wp2
  gi_loopw [4] (fun p wr => ∃ (D : List Got) (a k : Nat), p = .int .i64 (a : Int) ∧ a ≤ m ∧ m - a < k ∧ D.length ≤ a ∧ F = D.map (·.2) ++ frun k a bs ∧ J D wr ∧ (∀ x ∈ D, Mine wr n0 x.1 x.2.1) ∧ Below n0 ws wr ∧
      wr.heap[n0 + 2]? = some (.cells #[.slice A m c] 22) ∧ n0 + 3 < wr.heap.size)
    (fun p wr => m - (intOf p).toNat)
  case atStart =>
    exact ⟨[], a0, m + 1, rfl, ha0, by omega, by simp, HF.out, h0, by simp, hWs, hW1, (Array.getElem?_eq_some_iff.1 hW2).1⟩
  case round =>
    obtain ⟨D, a, k, rfl, ha, hk, hD, hFD, hJD, hM, hb, hbox, hsz⟩ := hrel
    obtain ⟨k, rfl⟩ : ∃ k', k = k' + 1 := ⟨k - 1, by omega⟩
    obtain ⟨p, nx, er, hg⟩ : ∃ p nx er, fg a bs = (p, nx, er) := ⟨_, _, _, rfl⟩
    have hcell : wr.cell? ⟨n0 + 2, 0, none⟩ = some (.slice A m c) := by simp [World.cell?, hbox]
    have hld : Laid wr := HL.out.below (by rw [HS.out]; exact hb)
    have hget := fget_any A m c a bs hc hm ha wr hld ((HR.out.below hb).more (by omega))
    rw [hg] at hget
    have HGET := Lib.hid hget
    have HHG := Lib.hid hg
    have HFD := Lib.hid hFD
    have HM := Lib.hid hM
    clear hg hget hFD hld hM
    by_cases her : er = 0
    · subst her
      have h4 := fg_ok HHG.out
      rw [HBL.out] at h4
      have hfit : D.length < 1073741824 := by omega
      have HY : Hid (∀ (w1 : World) (v : Value), Below wr.heap.size wr w1 → Mine w1 wr.heap.size v p → YieldAt Fence.wide (n - 1) Tryd.prog l #[v, .int .i64 (nx : Int)] w1 fun e V' => e = .returned (.bool true) ∧ J (D ++ [(v, (p, nx))]) V' ∧ Kp n0 w1 V') := fun w1 v hb1 hm1 =>
        hY D (v, (p, nx)) w1 (hJ D wr w1 hJD ⟨hb1.os, hb1.tape, hb1.output, hb1.size, fun k hk _ => hb1.block k hk⟩) ⟨hfit, hm1.less (by omega)⟩
      gi_wp2_with (refine ⟨trivial, ?_⟩; gi_at_call 15; refine (callsIn_wide.2 HGET.out).mono ?_; rintro e w1 ⟨v, rfl, hm1, hb1⟩; obtain ⟨fn, tmps, assign, body, hy, hR⟩ := HY.out w1 v hb1 hm1)
      refine hR.mono ?_
      rintro e W3 ⟨rfl, hJ3, hk3⟩
      gi_wp2
      go_roundw
      case rel =>
        have hbelow : Below n0 ws W3 := (hb.trans (hb1.mono (by omega))).trans hk3.1
        have hbx : w1.heap[n0 + 2]? = some (.cells #[.slice A m c] 22) := (hb1.block _ (by omega)).trans hbox
        refine ⟨D ++ [(v, (p, nx))], nx, k, by go_num, by omega, by omega, by simp; omega, by rw [HFD.out, frun_go HHG.out]; simp, hJ3, ?_, hbelow, hk3.2 _ _ hbx (.inr (.inl rfl)), by have := hk3.1.size; have := hb1.size; omega⟩
        intro x hx
        rcases List.mem_append.1 hx with hx | hx
        · exact ((HM.out x hx).below hb1).kp hk3
        · obtain rfl := List.mem_singleton.1 hx
          exact (hm1.less (by omega)).kp hk3
      case measure => simp [intOf]; omega
    · have hre : ((er : Int) != 0) = true := by rw [bne_iff_ne]; omega
      have HE := Lib.hid her
      clear her
      gi_wp2_with (refine ⟨trivial, ?_⟩; gi_at_call 15; refine (callsIn_wide.2 HGET.out).mono ?_; rintro e w1 ⟨v, rfl, hm1, hb1⟩)
      refine ⟨fun _ h => (by cases h), ?_⟩
      gi_wp2
      refine bodyPost_ret (results_none rfl _ _ _) rfl ?_
      have hF2 : F = D.map (·.2) := by rw [HFD.out, frun_stop (by rw [HHG.out]; exact HE.out), List.append_nil]
      exact ⟨⟨_, rfl⟩, D, ⟨hF2.symm, fun x hx => (HM.out x hx).below hb1⟩, hJ D wr w1 hJD ⟨hb1.os, hb1.tape, hb1.output, hb1.size, fun k hk _ => hb1.block k hk⟩⟩

end Go.Proofs.YtoanmbhnhofoiaaDoor
