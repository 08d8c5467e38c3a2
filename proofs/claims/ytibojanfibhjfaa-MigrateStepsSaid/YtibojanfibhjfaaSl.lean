/- MigrateSteps at any record and any three numbers. -/
import Derived.Test.YtibojanfibhjfaaSk
import Derived.Test.YtibojanfibhjfaaRs
import Derived.Laws.IdiomArrays
namespace Go.Proofs.Ytibojanfibhjfaa
open Go.ChangeShapes Go.WideShapes Go.ChangeAt Go.RowKit

set_option maxRecDepth 100000 in
set_option maxHeartbeats 1000000 in
theorem mst_great (r1 : Rc) (A : Option Addr) (n1 c1 x y z : Nat) (w : World)
    (HFX : Hid (∀ W, Calls Try.prog 8 #[] W fun e w' => e = .returned (.bool true) ∧ Below W.heap.size W w'))
    (HG : Hid (∀ W, Below w.heap.size w W → Calls Try.prog 7 #[.agg #[.int .i64 r1.kind, .string (tx r1.target), .int .u64 r1.rule, .slice A n1 c1, .int .u64 r1.out, .int .u64 r1.time, .string (tx r1.tag)]] W fun e w' => e = .returned (.bool true) ∧ Below W.heap.size W w')) :
    Calls Try.prog 5 #[.agg #[.int .i64 r1.kind, .string (tx r1.target), .int .u64 r1.rule, .slice A n1 c1, .int .u64 r1.out, .int .u64 r1.time, .string (tx r1.tag)], .agg #[.int .u8 (x : Int), .int .u8 (y : Int), .int .u8 (z : Int)]] w fun e w' => e = .returned (.bool true) ∧ Below w.heap.size w w' := by
  have h00 := two_new w (.cells #[.int .i64 r1.kind, .string (tx r1.target), .int .u64 r1.rule, .slice A n1 c1, .int .u64 r1.out, .int .u64 r1.time, .string (tx r1.tag)] 25) (.cells #[.int .u8 (x : Int), .int .u8 (y : Int), .int .u8 (z : Int)] 47)
  have HB0 := Lib.hid (((Below.refl w.heap.size w).alloc (Nat.le_refl _) (.cells #[.int .i64 r1.kind, .string (tx r1.target), .int .u64 r1.rule, .slice A n1 c1, .int .u64 r1.out, .int .u64 r1.time, .string (tx r1.tag)] 25)).alloc (by simp) (.cells #[.int .u8 (x : Int), .int .u8 (y : Int), .int .u8 (z : Int)] 47))
  have q0 := at_cell (i := 0) h00.1 rfl
  have q1 := at_cell (i := 1) h00.1 rfl
  have q2 := at_cell (i := 2) h00.1 rfl
  have q3 := at_cell (i := 3) h00.1 rfl
  have q4 := at_cell (i := 4) h00.1 rfl
  have q5 := at_cell (i := 5) h00.1 rfl
  have q6 := at_cell (i := 6) h00.1 rfl
  clear h00
  go_enter Try.func5, Try.ntmps5
  go_wp2_with (first
    | (go_at_call 8; have hk := HB2.out.size; refine (HFX.out _).mono ?_; rintro e w3 ⟨rfl, hb3⟩; have HB3 := Lib.hid (HB2.out.trans (hb3.mono HB2.out.size)))
    | (go_at_call 7; refine (HG.out _ HB0.out).mono ?_; rintro e w2 ⟨rfl, hb2⟩; have HB2 := Lib.hid (HB0.out.trans (hb2.mono HB0.out.size)); clear hb2))
  go_ret
  exact ⟨rfl, HB3.out⟩

theorem moved_fits {v v2 : Int} {r : Rc} {l : List Dp} (h : Fits r l) : Fits (movedR v v2 r) l := by
  unfold movedR
  split
  · refine ⟨h.1, ?_, h.2.2⟩
    show (if v ≤ 2 ∧ 3 ≤ v2 then ([111, 108, 100] : List UInt8) else r.tag).length ≤ maxLen
    split
    · unfold maxLen; simp
    · exact h.2.1
  · exact h

theorem mst_any (r1 : Rc) (A : Option Addr) (n1 c1 x y z : Nat) (hx : x < 256) (hy : y < 256) (hz : z < 256) (l1 : List Dp) (hn1 : n1 ≤ maxLen) (hA : A = none → c1 = 0) (f1 : Fits r1 l1) (w : World) (h1 : Reads w w.heap.size 3 A n1 (dps l1)) :
    Calls Try.prog 5 #[rcv r1 A n1 c1, .agg #[.int .u8 (x : Int), .int .u8 (y : Int), .int .u8 (z : Int)]] w fun e w' => e = .returned (.bool true) ∧ Below w.heap.size w w' := by
  have hfx : Hid (∀ W, Calls Try.prog 8 #[] W fun e w' => e = .returned (.bool true) ∧ Below W.heap.size W w') := mfixed_any
  have hl1 : l1.length = n1 := by have := h1.1; rw [dps_len] at this; omega
  have g1 : ∀ b : Bool, (b = true ↔ ¬ small r1 l1) → Hid (∀ W, Below w.heap.size w W → Calls Try.prog 7 #[rcv r1 A n1 c1] W fun e w' => e = .returned (.bool b) ∧ Below W.heap.size W w') := fun b hb W hbl =>
    (great_says r1 A n1 c1 l1 W hn1 f1.2.2 f1.1 f1.2.1 ((h1.below hbl).more hbl.size)).mono fun e w' h => and_mono hb h
  by_cases s1 : small r1 l1
  · have hn60 : n1 ≤ 60 := by rw [← hl1]; exact s1.2.1
    have G := g1 false (by simp [s1])
    obtain ⟨a, ha⟩ : ∃ a : Int, a = 1 + ((x % 3 : Nat) : Int) := ⟨_, rfl⟩
    obtain ⟨b, hb⟩ : ∃ b : Int, b = 1 + ((y % 3 : Nat) : Int) := ⟨_, rfl⟩
    obtain ⟨c, hc⟩ : ∃ c : Int, c = 1 + ((z % 3 : Nat) : Int) := ⟨_, rfl⟩
    by_cases hab : b < a
    · exact mst_ab r1 A n1 c1 x y z a b c hx hy hz ha hb hc hab w hfx G
    by_cases hbc : c < b
    · exact mst_bc r1 A n1 c1 x y z a b c hx hy hz ha hb hc (by omega) hbc w hfx G
    have m1 : ∀ q : Bool, (q = true ↔ MayP a r1 l1) → Hid (∀ W, Below w.heap.size w W → Calls Try.prog 18 #[.int .i64 a, rcv r1 A n1 c1] W fun e w' => e = .returned (.bool q) ∧ Below W.heap.size W w') := fun q hq W hbl =>
      (rmay_any a r1 A n1 c1 l1 (by omega) f1 W ((h1.below hbl).more hbl.size)).mono fun e w' h => and_mono hq h
    by_cases p1 : MayP a r1 l1
    · have w1 : isWayB a b = true := decide_eq_true (by omega)
      have w2 : isWayB b c = true := decide_eq_true (by omega)
      have w3 : isWayB a c = true := decide_eq_true (by omega)
      have p2 := moved_may w1 p1
      have p3 := moved_may w2 p2
      have fit2 : Fits (movedR a b r1) l1 := moved_fits f1
      have fit3 : Fits (movedR b c (movedR a b r1)) l1 := moved_fits fit2
      have hT1 := to_pair a b w1 r1 A n1 c1 l1 (by omega) hA f1 p1 w h1
      have hT3 := to_pair a c w3 r1 A n1 c1 l1 (by omega) hA f1 p1 w h1
      have hT2 := Lib.hid (fun (V : World) (A4 : Option Addr) (c4 : Nat) (hA4 : A4 = none → c4 = 0) (hr : Reads V V.heap.size 3 A4 n1 (dps l1)) => (to_pair b c w2 (movedR a b r1) A4 n1 c4 l1 (by omega) hA4 fit2 p2 V hr).out)
      have hMB := Lib.hid (fun (A4 : Option Addr) (c4 : Nat) (W : World) (hr : Reads W W.heap.size 3 A4 n1 (dps l1)) => (may_any b (movedR a b r1) A4 n1 c4 l1 (by omega) fit2 W hr).mono fun e w' h => and_mono (b := true) (by simp [p2]) h)
      have hMC := Lib.hid (fun (A4 : Option Addr) (c4 : Nat) (W : World) (hr : Reads W W.heap.size 3 A4 n1 (dps l1)) => (may_any c (movedR b c (movedR a b r1)) A4 n1 c4 l1 (by omega) fit3 W hr).mono fun e w' h => and_mono (b := true) (by simp [p3]) h)
      have h23 : movedR b c (movedR a b r1) = movedR a c r1 := moved_two (by omega) (by omega)
      by_cases hac : a = c
      · exact mst_eq r1 (movedR a b r1) (movedR b c (movedR a b r1)) (movedR a c r1) A n1 c1 x y z a b c hx hy hz ha hb hc l1 hn60 (by omega) (by omega) h23 moved_same hac (by rw [← hac]; exact moved_none) w h1 hfx G (m1 true (by simp [p1])) hT1 hT2 hT3 hMB hMC
      · exact mst_ne r1 (movedR a b r1) (movedR b c (movedR a b r1)) (movedR a c r1) A n1 c1 x y z a b c hx hy hz ha hb hc l1 hn60 (by omega) (by omega) h23 moved_same hac w h1 hfx G (m1 true (by simp [p1])) hT1 hT2 hT3 hMB hMC
    · exact mst_may r1 A n1 c1 x y z a b c hx hy hz ha hb hc (by omega) (by omega) w hfx G (m1 false (by simp [p1]))
  · exact mst_great r1 A n1 c1 x y z w hfx (g1 true (by simp [s1]))

theorem c_arr : Try.prog.cellsOf 47 = 3 := by kernel_rfl
theorem c_u8 : Try.prog.cellsOf 5 = 1 := by kernel_rfl
theorem byte_nat {a : Int} (h : (Lit.int .u8 a).wf = true) : ∃ n : Nat, a = (n : Int) ∧ n < 256 := by
  have hx : 0 ≤ a ∧ a ≤ 255 := by simpa [Lit.wf, IntKind.min, IntKind.max, IntKind.signed, IntKind.bits] using h
  exact ⟨a.toNat, by omega, by omega⟩

theorem open_three {H : Type} {enc : TypeId × Value → H} {W : World} {v : Value} {d : DataW H} {ps : List MemPlace} {r0 : Reach} {b0 : Nat} (hval : Value.okWide Try.prog W r0 b0 47 v) (hd : DataW.Trod enc Try.prog W 0 (fun _ => true) true 47 v d ps) :
    ∃ x y z : Nat, x < 256 ∧ y < 256 ∧ z < 256 ∧ v = .agg #[.int .u8 (x : Int), .int .u8 (y : Int), .int .u8 (z : Int)] := by
  obtain ⟨cs, rfl, hsz, _⟩ : ∃ cs, v = .agg cs ∧ cs.size = Try.prog.cellsOf 47 ∧ Row.okWide Try.prog W r0 b0 47 cs := by
    simpa [Value.okWide, Try.underlying47] using hval
  rw [c_arr] at hsz
  obtain ⟨l⟩ := cs
  match l, hsz with
  | [k0, k1, k2], _ =>
    obtain ⟨fuel, hf⟩ := hd
    obtain ⟨y0, y1, y2, m, _, g0, g1, g2⟩ := trod_array3 Try.underlying47 c_u8 hf
    obtain ⟨x0, e0, _, w0⟩ := DataW.trod_int Try.underlying5 g0
    obtain ⟨x1, e1, _, w1⟩ := DataW.trod_int Try.underlying5 g1
    obtain ⟨x2, e2, _, w2⟩ := DataW.trod_int Try.underlying5 g2
    obtain ⟨a, rfl, ha⟩ := byte_nat w0
    obtain ⟨b, rfl, hb⟩ := byte_nat w1
    obtain ⟨c, rfl, hc⟩ := byte_nat w2
    refine ⟨a, b, c, ha, hb, hc, ?_⟩
    simp at e0 e1 e2
    subst e0 e1 e2
    rfl

end Go.Proofs.Ytibojanfibhjfaa
