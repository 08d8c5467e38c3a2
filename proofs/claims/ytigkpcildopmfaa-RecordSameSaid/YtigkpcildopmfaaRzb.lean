/- RecordSame at any two records. -/
import Derived.Test.YtigkpcildopmfaaRz
namespace Go.Proofs.Ytigkpcildopmfaa
open Go.RowKit

set_option maxRecDepth 100000 in
set_option maxHeartbeats 1000000 in
theorem slaw_g1 (r1 r2 : Rc) (A B : Option Addr) (n1 n2 c1 c2 : Nat) (w : World)
    (HG1 : Hid (∀ W, Below w.heap.size w W → Calls Try.prog 6 #[.agg #[.int .i64 r1.kind, .string (tx r1.target), .int .u64 r1.rule, .slice A n1 c1, .int .u64 r1.out, .int .u64 r1.time, .string (tx r1.tag)]] W fun e w' => e = .returned (.bool true) ∧ Below W.heap.size W w'))
    (HFX : Hid (∀ W, Calls Try.prog 7 #[] W fun e w' => e = .returned (.bool true) ∧ Below W.heap.size W w')) :
    Calls Try.prog 4 #[.agg #[.int .i64 r1.kind, .string (tx r1.target), .int .u64 r1.rule, .slice A n1 c1, .int .u64 r1.out, .int .u64 r1.time, .string (tx r1.tag)], .agg #[.int .i64 r2.kind, .string (tx r2.target), .int .u64 r2.rule, .slice B n2 c2, .int .u64 r2.out, .int .u64 r2.time, .string (tx r2.tag)]] w fun e w' => e = .returned (.bool true) ∧ Below w.heap.size w w' := by
  have h00 := two_new w (.cells #[.int .i64 r1.kind, .string (tx r1.target), .int .u64 r1.rule, .slice A n1 c1, .int .u64 r1.out, .int .u64 r1.time, .string (tx r1.tag)] 25) (.cells #[.int .i64 r2.kind, .string (tx r2.target), .int .u64 r2.rule, .slice B n2 c2, .int .u64 r2.out, .int .u64 r2.time, .string (tx r2.tag)] 25)
  have HA0 := Lib.hid h00.1
  have HA1 := Lib.hid h00.2.1
  have HSZ := Lib.hid h00.2.2
  have HB0 := Lib.hid (((Below.refl w.heap.size w).alloc (Nat.le_refl _) (.cells #[.int .i64 r1.kind, .string (tx r1.target), .int .u64 r1.rule, .slice A n1 c1, .int .u64 r1.out, .int .u64 r1.time, .string (tx r1.tag)] 25)).alloc (by simp) (.cells #[.int .i64 r2.kind, .string (tx r2.target), .int .u64 r2.rule, .slice B n2 c2, .int .u64 r2.out, .int .u64 r2.time, .string (tx r2.tag)] 25))
  have HCB : Hid (∀ {i : Nat} {x : Value}, (#[.int .i64 r2.kind, .string (tx r2.target), .int .u64 r2.rule, .slice B n2 c2, .int .u64 r2.out, .int .u64 r2.time, .string (tx r2.tag)] : Array Value)[i]? = some x → ∀ {W : World}, Below (w.heap.size + 2) ((w.alloc (.cells #[.int .i64 r1.kind, .string (tx r1.target), .int .u64 r1.rule, .slice A n1 c1, .int .u64 r1.out, .int .u64 r1.time, .string (tx r1.tag)] 25)).alloc (.cells #[.int .i64 r2.kind, .string (tx r2.target), .int .u64 r2.rule, .slice B n2 c2, .int .u64 r2.out, .int .u64 r2.time, .string (tx r2.tag)] 25)) W → W.cell? ⟨w.heap.size + 1, i, none⟩ = some x) := fun hi W hb => (hb.cell (p := ⟨w.heap.size + 1, _, none⟩) (show w.heap.size + 1 < w.heap.size + 2 by omega)).trans (at_cell HA1.out hi)
  have q0 := at_cell (i := 0) h00.1 rfl
  have q1 := at_cell (i := 1) h00.1 rfl
  have q2 := at_cell (i := 2) h00.1 rfl
  have q3 := at_cell (i := 3) h00.1 rfl
  have q4 := at_cell (i := 4) h00.1 rfl
  have q5 := at_cell (i := 5) h00.1 rfl
  have q6 := at_cell (i := 6) h00.1 rfl
  clear h00
  go_enter Try.func4, Try.ntmps4
  go_wp2_with (first
    | (go_at_call 7; have hk := HB2.out.size; refine (HFX.out _).mono ?_; rintro e w4 ⟨rfl, hb4⟩; have HB4 := Lib.hid (HB2.out.trans (hb4.mono HB2.out.size)))
    | (go_at_call 6; refine (HG1.out _ HB0.out).mono ?_; rintro e w2 ⟨rfl, hb2⟩; have HB2 := Lib.hid (HB0.out.trans (hb2.mono HB0.out.size)); clear hb2))
  go_ret
  exact ⟨rfl, HB4.out⟩

set_option maxRecDepth 100000 in
set_option maxHeartbeats 1000000 in
theorem slaw_g2 (r1 r2 : Rc) (A B : Option Addr) (n1 n2 c1 c2 : Nat) (w : World)
    (HG1 : Hid (∀ W, Below w.heap.size w W → Calls Try.prog 6 #[.agg #[.int .i64 r1.kind, .string (tx r1.target), .int .u64 r1.rule, .slice A n1 c1, .int .u64 r1.out, .int .u64 r1.time, .string (tx r1.tag)]] W fun e w' => e = .returned (.bool false) ∧ Below W.heap.size W w'))
    (HG2 : Hid (∀ W, Below w.heap.size w W → Calls Try.prog 6 #[.agg #[.int .i64 r2.kind, .string (tx r2.target), .int .u64 r2.rule, .slice B n2 c2, .int .u64 r2.out, .int .u64 r2.time, .string (tx r2.tag)]] W fun e w' => e = .returned (.bool true) ∧ Below W.heap.size W w'))
    (HFX : Hid (∀ W, Calls Try.prog 7 #[] W fun e w' => e = .returned (.bool true) ∧ Below W.heap.size W w')) :
    Calls Try.prog 4 #[.agg #[.int .i64 r1.kind, .string (tx r1.target), .int .u64 r1.rule, .slice A n1 c1, .int .u64 r1.out, .int .u64 r1.time, .string (tx r1.tag)], .agg #[.int .i64 r2.kind, .string (tx r2.target), .int .u64 r2.rule, .slice B n2 c2, .int .u64 r2.out, .int .u64 r2.time, .string (tx r2.tag)]] w fun e w' => e = .returned (.bool true) ∧ Below w.heap.size w w' := by
  have h00 := two_new w (.cells #[.int .i64 r1.kind, .string (tx r1.target), .int .u64 r1.rule, .slice A n1 c1, .int .u64 r1.out, .int .u64 r1.time, .string (tx r1.tag)] 25) (.cells #[.int .i64 r2.kind, .string (tx r2.target), .int .u64 r2.rule, .slice B n2 c2, .int .u64 r2.out, .int .u64 r2.time, .string (tx r2.tag)] 25)
  have HA0 := Lib.hid h00.1
  have HA1 := Lib.hid h00.2.1
  have HSZ := Lib.hid h00.2.2
  have HB0 := Lib.hid (((Below.refl w.heap.size w).alloc (Nat.le_refl _) (.cells #[.int .i64 r1.kind, .string (tx r1.target), .int .u64 r1.rule, .slice A n1 c1, .int .u64 r1.out, .int .u64 r1.time, .string (tx r1.tag)] 25)).alloc (by simp) (.cells #[.int .i64 r2.kind, .string (tx r2.target), .int .u64 r2.rule, .slice B n2 c2, .int .u64 r2.out, .int .u64 r2.time, .string (tx r2.tag)] 25))
  have HCB : Hid (∀ {i : Nat} {x : Value}, (#[.int .i64 r2.kind, .string (tx r2.target), .int .u64 r2.rule, .slice B n2 c2, .int .u64 r2.out, .int .u64 r2.time, .string (tx r2.tag)] : Array Value)[i]? = some x → ∀ {W : World}, Below (w.heap.size + 2) ((w.alloc (.cells #[.int .i64 r1.kind, .string (tx r1.target), .int .u64 r1.rule, .slice A n1 c1, .int .u64 r1.out, .int .u64 r1.time, .string (tx r1.tag)] 25)).alloc (.cells #[.int .i64 r2.kind, .string (tx r2.target), .int .u64 r2.rule, .slice B n2 c2, .int .u64 r2.out, .int .u64 r2.time, .string (tx r2.tag)] 25)) W → W.cell? ⟨w.heap.size + 1, i, none⟩ = some x) := fun hi W hb => (hb.cell (p := ⟨w.heap.size + 1, _, none⟩) (show w.heap.size + 1 < w.heap.size + 2 by omega)).trans (at_cell HA1.out hi)
  have q0 := at_cell (i := 0) h00.1 rfl
  have q1 := at_cell (i := 1) h00.1 rfl
  have q2 := at_cell (i := 2) h00.1 rfl
  have q3 := at_cell (i := 3) h00.1 rfl
  have q4 := at_cell (i := 4) h00.1 rfl
  have q5 := at_cell (i := 5) h00.1 rfl
  have q6 := at_cell (i := 6) h00.1 rfl
  clear h00
  go_enter Try.func4, Try.ntmps4
  go_wp2_with (first
    | (go_at_call 7; have hk := HB3.out.size; refine (HFX.out _).mono ?_; rintro e w4 ⟨rfl, hb4⟩; have HB4 := Lib.hid (HB3.out.trans (hb4.mono HB3.out.size)))
    | (go_at_call 6; have hk := HB2.out.size; refine (HG2.out _ HB2.out).mono ?_; rintro e w3 ⟨rfl, hb3⟩; have HB3 := Lib.hid (HB2.out.trans (hb3.mono HB2.out.size)); clear hb3)
    | (go_at_call 6; refine (HG1.out _ HB0.out).mono ?_; rintro e w2 ⟨rfl, hb2⟩; have HB2 := Lib.hid (HB0.out.trans (hb2.mono HB0.out.size)); have HS2 := Lib.hid (hb2.mono (Nat.le_of_eq HSZ.out.symm)); have m0 := HCB.out (i := 0) rfl HS2.out; have m1 := HCB.out (i := 1) rfl HS2.out; have m2 := HCB.out (i := 2) rfl HS2.out; have m3 := HCB.out (i := 3) rfl HS2.out; have m4 := HCB.out (i := 4) rfl HS2.out; have m5 := HCB.out (i := 5) rfl HS2.out; have m6 := HCB.out (i := 6) rfl HS2.out; clear hb2))
  go_ret
  exact ⟨rfl, HB4.out⟩

theorem slaw_any (r1 r2 : Rc) (A B : Option Addr) (n1 n2 c1 c2 : Nat) (l1 l2 : List Dp) (hn1 : n1 ≤ maxLen) (hn2 : n2 ≤ maxLen) (hA : A = none → c1 = 0) (f1 : Fits r1 l1) (f2 : Fits r2 l2) (w : World) (h1 : Reads w w.heap.size 3 A n1 (dps l1)) (h2 : Reads w w.heap.size 3 B n2 (dps l2)) :
    Calls Try.prog 4 #[rcv r1 A n1 c1, rcv r2 B n2 c2] w fun e w' => e = .returned (.bool true) ∧ Below w.heap.size w w' := by
  have hfx : Hid (∀ W, Calls Try.prog 7 #[] W fun e w' => e = .returned (.bool true) ∧ Below W.heap.size W w') := rfixed_any
  have hl1 : l1.length = n1 := by have := h1.1; rw [dps_len] at this; omega
  have hl2 : l2.length = n2 := by have := h2.1; rw [dps_len] at this; omega
  have g1 : ∀ b : Bool, (b = true ↔ ¬ small r1 l1) → Hid (∀ W, Below w.heap.size w W → Calls Try.prog 6 #[rcv r1 A n1 c1] W fun e w' => e = .returned (.bool b) ∧ Below W.heap.size W w') := fun b hb W hbl =>
    (great_says r1 A n1 c1 l1 W hn1 f1.2.2 f1.1 f1.2.1 ((h1.below hbl).more hbl.size)).mono fun e w' h => and_mono hb h
  have g2 : ∀ b : Bool, (b = true ↔ ¬ small r2 l2) → Hid (∀ W, Below w.heap.size w W → Calls Try.prog 6 #[rcv r2 B n2 c2] W fun e w' => e = .returned (.bool b) ∧ Below W.heap.size W w') := fun b hb W hbl =>
    (great_says r2 B n2 c2 l2 W hn2 f2.2.2 f2.1 f2.2.1 ((h2.below hbl).more hbl.size)).mono fun e w' h => and_mono hb h
  by_cases s1 : small r1 l1
  · have hn60 : n1 ≤ 60 := by rw [← hl1]; exact s1.2.1
    by_cases s2 : small r2 l2
    · have hm60 : n2 ≤ 60 := by rw [← hl2]; exact s2.2.1
      obtain ⟨b, hb⟩ : ∃ b : Bool, b = true ↔ r1 = r2 ∧ l1 = l2 := by
        by_cases hm : r1 = r2 ∧ l1 = l2
        · exact ⟨true, by simp [hm]⟩
        · exact ⟨false, by simp; intro h3 h4; exact hm ⟨h3, h4⟩⟩
      have to : ∀ {P : Prop} {b : Bool} {e : Ending} {W w' : World}, (b = true ↔ P) → (∃ q : Bool, (q = true ↔ P) ∧ e = .returned (.bool q) ∧ Below W.heap.size W w') → e = .returned (.bool b) ∧ Below W.heap.size W w' := fun hp ⟨q, h3, h4, h5⟩ => and_mono hp ⟨⟨q, h3, h4⟩, h5⟩
      exact slaw_small r1 r2 A B n1 n2 c1 c2 l1 b hn60 hA w h1 (g1 false (by simp [s1])) (g2 false (by simp [s2])) hfx
        (fun W hbl => (same_any r1 r2 A B n1 n2 c1 c2 l1 l2 (by omega) W ((h1.below hbl).more hbl.size) ((h2.below hbl).more hbl.size)).mono fun e w' h => to hb h)
        (fun W hbl => (same_any r2 r1 B A n2 n1 c2 c1 l2 l1 (by omega) W ((h2.below hbl).more hbl.size) ((h1.below hbl).more hbl.size)).mono fun e w' h => to (hb.trans ⟨fun h => ⟨h.1.symm, h.2.symm⟩, fun h => ⟨h.1.symm, h.2.symm⟩⟩) h)
        (fun W hbl => (same_any r1 r1 A A n1 n1 c1 c1 l1 l1 (by omega) W ((h1.below hbl).more hbl.size) ((h1.below hbl).more hbl.size)).mono fun e w' h => to (by simp) h)
        (fun W hbl => (rsame_any r1 r2 A B n1 n2 c1 c2 l1 l2 (by omega) W ((h1.below hbl).more hbl.size) ((h2.below hbl).more hbl.size)).mono fun e w' h => to hb h)
    · exact slaw_g2 r1 r2 A B n1 n2 c1 c2 w (g1 false (by simp [s1])) (g2 true (by simp [s2])) hfx
  · exact slaw_g1 r1 r2 A B n1 n2 c1 c2 w (g1 true (by simp [s1])) hfx

end Go.Proofs.Ytigkpcildopmfaa
