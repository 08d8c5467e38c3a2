/- SchemaNil. -/
import Derived.Test.YtfdncdejjlcgpaaUj
import Derived.Test.YtfdncdejjlcgpaaRl2
import Derived.Test.YtfdncdejjlcgpaaIg0
namespace Go.Proofs.Ytfdncdejjlcgpaa
open Go.RowKit

def zR : Rc := ⟨0, [], 0, 0, 0, []⟩

set_option maxRecDepth 100000 in
set_option maxHeartbeats 2000000 in
theorem snil_great (ver : Int) (r : Rc) (A L : Option Addr) (n c m d : Nat) (w : World)
    (HG : Hid (∀ W, Below w.heap.size w W → Calls Try.prog 8 #[.agg #[.int .i64 r.kind, .string (tx r.target), .int .u64 r.rule, .slice A n c, .int .u64 r.out, .int .u64 r.time, .string (tx r.tag)]] W fun e w' => e = .returned (.bool true) ∧ Below W.heap.size W w')) :
    Calls Try.prog 6 #[.int .i64 ver, .agg #[.int .i64 r.kind, .string (tx r.target), .int .u64 r.rule, .slice A n c, .int .u64 r.out, .int .u64 r.time, .string (tx r.tag)], .slice L m d] w fun e w' => e = .returned (.bool true) ∧ Below w.heap.size w w' := by
  have h0 := one_new w (.cells #[.int .i64 r.kind, .string (tx r.target), .int .u64 r.rule, .slice A n c, .int .u64 r.out, .int .u64 r.time, .string (tx r.tag)] 26)
  have HB0 := Lib.hid ((Below.refl w.heap.size w).alloc (Nat.le_refl _) (.cells #[.int .i64 r.kind, .string (tx r.target), .int .u64 r.rule, .slice A n c, .int .u64 r.out, .int .u64 r.time, .string (tx r.tag)] 26))
  have HA0 := Lib.hid h0
  have hz : (w.alloc (.cells #[.int .i64 r.kind, .string (tx r.target), .int .u64 r.rule, .slice A n c, .int .u64 r.out, .int .u64 r.time, .string (tx r.tag)] 26)).heap.size = w.heap.size + 1 := by simp
  have HZ := Lib.hid hz
  have q0 := at_cell (i := 0) h0 rfl
  have q1 := at_cell (i := 1) h0 rfl
  have q2 := at_cell (i := 2) h0 rfl
  have q3 := at_cell (i := 3) h0 rfl
  have q4 := at_cell (i := 4) h0 rfl
  have q5 := at_cell (i := 5) h0 rfl
  have q6 := at_cell (i := 6) h0 rfl
  clear h0 hz
  go_enter Try.func6, Try.ntmps6
  go_wp2_with (first
    | (go_at_call 9; have hk := HB2.out.size; refine (sfixed_any _).mono ?_; rintro e w9 ⟨rfl, hb9⟩; have HB9 := Lib.hid (HB2.out.trans (hb9.mono HB2.out.size)); clear hb9)
    | (go_at_call 8; refine (HG.out _ HB0.out).mono ?_; rintro e w2 ⟨rfl, hb2⟩; have HB2 := Lib.hid (HB0.out.trans (hb2.mono HB0.out.size)); clear hb2))
  go_ret
  exact ⟨rfl, HB9.out⟩

set_option maxRecDepth 100000 in
set_option maxHeartbeats 2000000 in
theorem snil_many (ver : Int) (r : Rc) (A L : Option Addr) (n c m d : Nat) (w : World)
    (HG : Hid (∀ W, Below w.heap.size w W → Calls Try.prog 8 #[.agg #[.int .i64 r.kind, .string (tx r.target), .int .u64 r.rule, .slice A n c, .int .u64 r.out, .int .u64 r.time, .string (tx r.tag)]] W fun e w' => e = .returned (.bool false) ∧ Below W.heap.size W w'))
    (HFEW : Hid (∀ W, Below w.heap.size w W → Calls Try.prog 7 #[.slice L m d] W fun e w' => e = .returned (.bool false) ∧ W = w')) :
    Calls Try.prog 6 #[.int .i64 ver, .agg #[.int .i64 r.kind, .string (tx r.target), .int .u64 r.rule, .slice A n c, .int .u64 r.out, .int .u64 r.time, .string (tx r.tag)], .slice L m d] w fun e w' => e = .returned (.bool true) ∧ Below w.heap.size w w' := by
  have h0 := one_new w (.cells #[.int .i64 r.kind, .string (tx r.target), .int .u64 r.rule, .slice A n c, .int .u64 r.out, .int .u64 r.time, .string (tx r.tag)] 26)
  have HB0 := Lib.hid ((Below.refl w.heap.size w).alloc (Nat.le_refl _) (.cells #[.int .i64 r.kind, .string (tx r.target), .int .u64 r.rule, .slice A n c, .int .u64 r.out, .int .u64 r.time, .string (tx r.tag)] 26))
  have HA0 := Lib.hid h0
  have hz : (w.alloc (.cells #[.int .i64 r.kind, .string (tx r.target), .int .u64 r.rule, .slice A n c, .int .u64 r.out, .int .u64 r.time, .string (tx r.tag)] 26)).heap.size = w.heap.size + 1 := by simp
  have HZ := Lib.hid hz
  have q0 := at_cell (i := 0) h0 rfl
  have q1 := at_cell (i := 1) h0 rfl
  have q2 := at_cell (i := 2) h0 rfl
  have q3 := at_cell (i := 3) h0 rfl
  have q4 := at_cell (i := 4) h0 rfl
  have q5 := at_cell (i := 5) h0 rfl
  have q6 := at_cell (i := 6) h0 rfl
  clear h0 hz
  go_enter Try.func6, Try.ntmps6
  go_wp2_with (first
    | (go_at_call 9; have hk := HB2.out.size; refine (sfixed_any _).mono ?_; rintro e w9 ⟨rfl, hb9⟩; have HB9 := Lib.hid (HB2.out.trans (hb9.mono HB2.out.size)); clear hb9)
    | (go_at_call 7; have hk := HB2.out.size; refine (HFEW.out _ HB2.out).mono ?_; rintro e w3 ⟨rfl, rfl⟩)
    | (go_at_call 8; refine (HG.out _ HB0.out).mono ?_; rintro e w2 ⟨rfl, hb2⟩; have HB2 := Lib.hid (HB0.out.trans (hb2.mono HB0.out.size)); clear hb2))
  go_ret
  exact ⟨rfl, HB9.out⟩

set_option maxRecDepth 100000 in
set_option maxHeartbeats 2000000 in
theorem snil_low (ver : Int) (hv : ver < 1) (r : Rc) (A L : Option Addr) (n c m d : Nat) (w : World)
    (HG : Hid (∀ W, Below w.heap.size w W → Calls Try.prog 8 #[.agg #[.int .i64 r.kind, .string (tx r.target), .int .u64 r.rule, .slice A n c, .int .u64 r.out, .int .u64 r.time, .string (tx r.tag)]] W fun e w' => e = .returned (.bool false) ∧ Below W.heap.size W w'))
    (HFEW : Hid (∀ W, Below w.heap.size w W → Calls Try.prog 7 #[.slice L m d] W fun e w' => e = .returned (.bool true) ∧ W = w'))
    (HPUT : Hid (∀ W, Calls Try.prog 11 #[.int .i64 ver, .pointer none, .agg #[.int .i64 r.kind, .string (tx r.target), .int .u64 r.rule, .slice A n c, .int .u64 r.out, .int .u64 r.time, .string (tx r.tag)]] W fun e w' => e = .returned (.tuple #[.slice none 0 0, .int .i64 11]) ∧ Below W.heap.size W w'))
    (HBY : Hid (∀ W, Below w.heap.size w W → Calls Try.prog 19 #[.slice L m d] W fun e w' => ∃ A' c', e = .returned (.slice A' m c') ∧ Below W.heap.size W w'))
    (HGET : Hid (∀ (A' : Option Addr) (c' : Nat) (W : World), Calls Try.prog 17 #[.int .i64 ver, .pointer none, .slice A' m c', .int .i64 0] W fun e w' => e = .returned (.tuple #[.agg #[.int .i64 0, .string { data := #[] }, .int .u64 0, .slice none 0 0, .int .u64 0, .int .u64 0, .string { data := #[] }], .int .i64 0, .int .i64 11]) ∧ Below W.heap.size W w')) :
    Calls Try.prog 6 #[.int .i64 ver, .agg #[.int .i64 r.kind, .string (tx r.target), .int .u64 r.rule, .slice A n c, .int .u64 r.out, .int .u64 r.time, .string (tx r.tag)], .slice L m d] w fun e w' => e = .returned (.bool true) ∧ Below w.heap.size w w' := by
  have h0 := one_new w (.cells #[.int .i64 r.kind, .string (tx r.target), .int .u64 r.rule, .slice A n c, .int .u64 r.out, .int .u64 r.time, .string (tx r.tag)] 26)
  have HB0 := Lib.hid ((Below.refl w.heap.size w).alloc (Nat.le_refl _) (.cells #[.int .i64 r.kind, .string (tx r.target), .int .u64 r.rule, .slice A n c, .int .u64 r.out, .int .u64 r.time, .string (tx r.tag)] 26))
  have HA0 := Lib.hid h0
  have hz : (w.alloc (.cells #[.int .i64 r.kind, .string (tx r.target), .int .u64 r.rule, .slice A n c, .int .u64 r.out, .int .u64 r.time, .string (tx r.tag)] 26)).heap.size = w.heap.size + 1 := by simp
  have HZ := Lib.hid hz
  have q0 := at_cell (i := 0) h0 rfl
  have q1 := at_cell (i := 1) h0 rfl
  have q2 := at_cell (i := 2) h0 rfl
  have q3 := at_cell (i := 3) h0 rfl
  have q4 := at_cell (i := 4) h0 rfl
  have q5 := at_cell (i := 5) h0 rfl
  have q6 := at_cell (i := 6) h0 rfl
  clear h0 hz
  have d1 : decide (ver < 1) = true := decide_eq_true hv
  clear hv
  go_enter Try.func6, Try.ntmps6
  go_wp2_with (first
    | (go_at_call 18; have hk := HB9.out.size; refine (rsame_any zR zR none none 0 0 0 0 [] [] (by omega) _ Reads.none_ Reads.none_).mono ?_; rintro e w10 ⟨q, hq, rfl, hb10⟩; obtain rfl : q = true := hq.2 ⟨rfl, rfl⟩; have HB10 := Lib.hid (HB9.out.trans (hb10.mono HB9.out.size)); clear hb10 hq)
    | (go_at_call 9; have hk := HB6.out.size; refine (sfixed_any _).mono ?_; rintro e w9 ⟨rfl, hb9⟩; have HB9 := Lib.hid (HB6.out.trans (hb9.mono HB6.out.size)); have hh9 := (hb9.block w5.heap.size (by simp)).trans (one_new w5 (.cells #[.int .i64 0, .string { data := #[] }, .int .u64 0, .slice none 0 0, .int .u64 0, .int .u64 0, .string { data := #[] }] 26)); have z0 := at_cell (i := 0) hh9 rfl; have z1 := at_cell (i := 1) hh9 rfl; have z2 := at_cell (i := 2) hh9 rfl; have z3 := at_cell (i := 3) hh9 rfl; have z4 := at_cell (i := 4) hh9 rfl; have z5 := at_cell (i := 5) hh9 rfl; have z6 := at_cell (i := 6) hh9 rfl; clear hh9; clear hb9)
    | (go_at_call 17; have hk := HB4.out.size; refine (HGET.out _ _ _).mono ?_; rintro e w5 ⟨rfl, hb5⟩; have HB6 := Lib.hid ((HB4.out.trans (hb5.mono HB4.out.size)).alloc (by have h1 := HB4.out.size; have h2 := hb5.size; omega) (.cells #[.int .i64 0, .string { data := #[] }, .int .u64 0, .slice none 0 0, .int .u64 0, .int .u64 0, .string { data := #[] }] 26)); clear hb5)
    | (go_at_call 19; have hk := HB3.out.size; refine (HBY.out _ HB3.out).mono ?_; rintro e w4 ⟨A4, c4, rfl, hb4⟩; have HB4 := Lib.hid (HB3.out.trans (hb4.mono HB3.out.size)); clear hb4)
    | (go_at_call 11; have hk := HB2.out.size; refine (HPUT.out _).mono ?_; rintro e w3 ⟨rfl, hb3⟩; have HB3 := Lib.hid (HB2.out.trans (hb3.mono HB2.out.size)); clear hb3)
    | (go_at_call 7; have hk := HB2.out.size; refine (HFEW.out _ HB2.out).mono ?_; rintro e w3 ⟨rfl, rfl⟩)
    | (go_at_call 8; refine (HG.out _ HB0.out).mono ?_; rintro e w2 ⟨rfl, hb2⟩; have HB2 := Lib.hid (HB0.out.trans (hb2.mono HB0.out.size)); have hh2 := (hb2.block w.heap.size (by rw [HZ.out]; omega)).trans HA0.out; have p0 := at_cell (i := 0) hh2 rfl; have p1 := at_cell (i := 1) hh2 rfl; have p2 := at_cell (i := 2) hh2 rfl; have p3 := at_cell (i := 3) hh2 rfl; have p4 := at_cell (i := 4) hh2 rfl; have p5 := at_cell (i := 5) hh2 rfl; have p6 := at_cell (i := 6) hh2 rfl; clear hh2; clear hb2))
  go_ret
  exact ⟨rfl, HB10.out⟩

set_option maxRecDepth 100000 in
set_option maxHeartbeats 2000000 in
theorem snil_high (ver : Int) (hv : 1 ≤ ver ∧ 3 < ver) (r : Rc) (A L : Option Addr) (n c m d : Nat) (w : World)
    (HG : Hid (∀ W, Below w.heap.size w W → Calls Try.prog 8 #[.agg #[.int .i64 r.kind, .string (tx r.target), .int .u64 r.rule, .slice A n c, .int .u64 r.out, .int .u64 r.time, .string (tx r.tag)]] W fun e w' => e = .returned (.bool false) ∧ Below W.heap.size W w'))
    (HFEW : Hid (∀ W, Below w.heap.size w W → Calls Try.prog 7 #[.slice L m d] W fun e w' => e = .returned (.bool true) ∧ W = w'))
    (HPUT : Hid (∀ W, Calls Try.prog 11 #[.int .i64 ver, .pointer none, .agg #[.int .i64 r.kind, .string (tx r.target), .int .u64 r.rule, .slice A n c, .int .u64 r.out, .int .u64 r.time, .string (tx r.tag)]] W fun e w' => e = .returned (.tuple #[.slice none 0 0, .int .i64 11]) ∧ Below W.heap.size W w'))
    (HBY : Hid (∀ W, Below w.heap.size w W → Calls Try.prog 19 #[.slice L m d] W fun e w' => ∃ A' c', e = .returned (.slice A' m c') ∧ Below W.heap.size W w'))
    (HGET : Hid (∀ (A' : Option Addr) (c' : Nat) (W : World), Calls Try.prog 17 #[.int .i64 ver, .pointer none, .slice A' m c', .int .i64 0] W fun e w' => e = .returned (.tuple #[.agg #[.int .i64 0, .string { data := #[] }, .int .u64 0, .slice none 0 0, .int .u64 0, .int .u64 0, .string { data := #[] }], .int .i64 0, .int .i64 11]) ∧ Below W.heap.size W w')) :
    Calls Try.prog 6 #[.int .i64 ver, .agg #[.int .i64 r.kind, .string (tx r.target), .int .u64 r.rule, .slice A n c, .int .u64 r.out, .int .u64 r.time, .string (tx r.tag)], .slice L m d] w fun e w' => e = .returned (.bool true) ∧ Below w.heap.size w w' := by
  have h0 := one_new w (.cells #[.int .i64 r.kind, .string (tx r.target), .int .u64 r.rule, .slice A n c, .int .u64 r.out, .int .u64 r.time, .string (tx r.tag)] 26)
  have HB0 := Lib.hid ((Below.refl w.heap.size w).alloc (Nat.le_refl _) (.cells #[.int .i64 r.kind, .string (tx r.target), .int .u64 r.rule, .slice A n c, .int .u64 r.out, .int .u64 r.time, .string (tx r.tag)] 26))
  have HA0 := Lib.hid h0
  have hz : (w.alloc (.cells #[.int .i64 r.kind, .string (tx r.target), .int .u64 r.rule, .slice A n c, .int .u64 r.out, .int .u64 r.time, .string (tx r.tag)] 26)).heap.size = w.heap.size + 1 := by simp
  have HZ := Lib.hid hz
  have q0 := at_cell (i := 0) h0 rfl
  have q1 := at_cell (i := 1) h0 rfl
  have q2 := at_cell (i := 2) h0 rfl
  have q3 := at_cell (i := 3) h0 rfl
  have q4 := at_cell (i := 4) h0 rfl
  have q5 := at_cell (i := 5) h0 rfl
  have q6 := at_cell (i := 6) h0 rfl
  clear h0 hz
  have d1 : decide (ver < 1) = false := decide_eq_false (by omega)
  have d2 : decide (ver > 3) = true := decide_eq_true (by omega)
  clear hv
  go_enter Try.func6, Try.ntmps6
  go_wp2_with (first
    | (go_at_call 18; have hk := HB9.out.size; refine (rsame_any zR zR none none 0 0 0 0 [] [] (by omega) _ Reads.none_ Reads.none_).mono ?_; rintro e w10 ⟨q, hq, rfl, hb10⟩; obtain rfl : q = true := hq.2 ⟨rfl, rfl⟩; have HB10 := Lib.hid (HB9.out.trans (hb10.mono HB9.out.size)); clear hb10 hq)
    | (go_at_call 9; have hk := HB6.out.size; refine (sfixed_any _).mono ?_; rintro e w9 ⟨rfl, hb9⟩; have HB9 := Lib.hid (HB6.out.trans (hb9.mono HB6.out.size)); have hh9 := (hb9.block w5.heap.size (by simp)).trans (one_new w5 (.cells #[.int .i64 0, .string { data := #[] }, .int .u64 0, .slice none 0 0, .int .u64 0, .int .u64 0, .string { data := #[] }] 26)); have z0 := at_cell (i := 0) hh9 rfl; have z1 := at_cell (i := 1) hh9 rfl; have z2 := at_cell (i := 2) hh9 rfl; have z3 := at_cell (i := 3) hh9 rfl; have z4 := at_cell (i := 4) hh9 rfl; have z5 := at_cell (i := 5) hh9 rfl; have z6 := at_cell (i := 6) hh9 rfl; clear hh9; clear hb9)
    | (go_at_call 17; have hk := HB4.out.size; refine (HGET.out _ _ _).mono ?_; rintro e w5 ⟨rfl, hb5⟩; have HB6 := Lib.hid ((HB4.out.trans (hb5.mono HB4.out.size)).alloc (by have h1 := HB4.out.size; have h2 := hb5.size; omega) (.cells #[.int .i64 0, .string { data := #[] }, .int .u64 0, .slice none 0 0, .int .u64 0, .int .u64 0, .string { data := #[] }] 26)); clear hb5)
    | (go_at_call 19; have hk := HB3.out.size; refine (HBY.out _ HB3.out).mono ?_; rintro e w4 ⟨A4, c4, rfl, hb4⟩; have HB4 := Lib.hid (HB3.out.trans (hb4.mono HB3.out.size)); clear hb4)
    | (go_at_call 11; have hk := HB2.out.size; refine (HPUT.out _).mono ?_; rintro e w3 ⟨rfl, hb3⟩; have HB3 := Lib.hid (HB2.out.trans (hb3.mono HB2.out.size)); clear hb3)
    | (go_at_call 7; have hk := HB2.out.size; refine (HFEW.out _ HB2.out).mono ?_; rintro e w3 ⟨rfl, rfl⟩)
    | (go_at_call 8; refine (HG.out _ HB0.out).mono ?_; rintro e w2 ⟨rfl, hb2⟩; have HB2 := Lib.hid (HB0.out.trans (hb2.mono HB0.out.size)); have hh2 := (hb2.block w.heap.size (by rw [HZ.out]; omega)).trans HA0.out; have p0 := at_cell (i := 0) hh2 rfl; have p1 := at_cell (i := 1) hh2 rfl; have p2 := at_cell (i := 2) hh2 rfl; have p3 := at_cell (i := 3) hh2 rfl; have p4 := at_cell (i := 4) hh2 rfl; have p5 := at_cell (i := 5) hh2 rfl; have p6 := at_cell (i := 6) hh2 rfl; clear hh2; clear hb2))
  go_ret
  exact ⟨rfl, HB10.out⟩

set_option maxRecDepth 100000 in
set_option maxHeartbeats 2000000 in
theorem snil_ok (ver : Int) (hv : 1 ≤ ver ∧ ver ≤ 3) (r : Rc) (A L : Option Addr) (n c m d : Nat) (w : World)
    (HG : Hid (∀ W, Below w.heap.size w W → Calls Try.prog 8 #[.agg #[.int .i64 r.kind, .string (tx r.target), .int .u64 r.rule, .slice A n c, .int .u64 r.out, .int .u64 r.time, .string (tx r.tag)]] W fun e w' => e = .returned (.bool false) ∧ Below W.heap.size W w'))
    (HFEW : Hid (∀ W, Below w.heap.size w W → Calls Try.prog 7 #[.slice L m d] W fun e w' => e = .returned (.bool true) ∧ W = w'))
    (HPUT : Hid (∀ W, Calls Try.prog 11 #[.int .i64 ver, .pointer none, .agg #[.int .i64 r.kind, .string (tx r.target), .int .u64 r.rule, .slice A n c, .int .u64 r.out, .int .u64 r.time, .string (tx r.tag)]] W fun e w' => e = .returned (.tuple #[.slice none 0 0, .int .i64 1]) ∧ Below W.heap.size W w'))
    (HBY : Hid (∀ W, Below w.heap.size w W → Calls Try.prog 19 #[.slice L m d] W fun e w' => ∃ A' c', e = .returned (.slice A' m c') ∧ Below W.heap.size W w'))
    (HGET : Hid (∀ (A' : Option Addr) (c' : Nat) (W : World), Calls Try.prog 17 #[.int .i64 ver, .pointer none, .slice A' m c', .int .i64 0] W fun e w' => e = .returned (.tuple #[.agg #[.int .i64 0, .string { data := #[] }, .int .u64 0, .slice none 0 0, .int .u64 0, .int .u64 0, .string { data := #[] }], .int .i64 0, .int .i64 1]) ∧ Below W.heap.size W w')) :
    Calls Try.prog 6 #[.int .i64 ver, .agg #[.int .i64 r.kind, .string (tx r.target), .int .u64 r.rule, .slice A n c, .int .u64 r.out, .int .u64 r.time, .string (tx r.tag)], .slice L m d] w fun e w' => e = .returned (.bool true) ∧ Below w.heap.size w w' := by
  have h0 := one_new w (.cells #[.int .i64 r.kind, .string (tx r.target), .int .u64 r.rule, .slice A n c, .int .u64 r.out, .int .u64 r.time, .string (tx r.tag)] 26)
  have HB0 := Lib.hid ((Below.refl w.heap.size w).alloc (Nat.le_refl _) (.cells #[.int .i64 r.kind, .string (tx r.target), .int .u64 r.rule, .slice A n c, .int .u64 r.out, .int .u64 r.time, .string (tx r.tag)] 26))
  have HA0 := Lib.hid h0
  have hz : (w.alloc (.cells #[.int .i64 r.kind, .string (tx r.target), .int .u64 r.rule, .slice A n c, .int .u64 r.out, .int .u64 r.time, .string (tx r.tag)] 26)).heap.size = w.heap.size + 1 := by simp
  have HZ := Lib.hid hz
  have q0 := at_cell (i := 0) h0 rfl
  have q1 := at_cell (i := 1) h0 rfl
  have q2 := at_cell (i := 2) h0 rfl
  have q3 := at_cell (i := 3) h0 rfl
  have q4 := at_cell (i := 4) h0 rfl
  have q5 := at_cell (i := 5) h0 rfl
  have q6 := at_cell (i := 6) h0 rfl
  clear h0 hz
  have d1 : decide (ver < 1) = false := decide_eq_false (by omega)
  have d2 : decide (ver > 3) = false := decide_eq_false (by omega)
  clear hv
  go_enter Try.func6, Try.ntmps6
  go_wp2_with (first
    | (go_at_call 18; have hk := HB9.out.size; refine (rsame_any zR zR none none 0 0 0 0 [] [] (by omega) _ Reads.none_ Reads.none_).mono ?_; rintro e w10 ⟨q, hq, rfl, hb10⟩; obtain rfl : q = true := hq.2 ⟨rfl, rfl⟩; have HB10 := Lib.hid (HB9.out.trans (hb10.mono HB9.out.size)); clear hb10 hq)
    | (go_at_call 9; have hk := HB6.out.size; refine (sfixed_any _).mono ?_; rintro e w9 ⟨rfl, hb9⟩; have HB9 := Lib.hid (HB6.out.trans (hb9.mono HB6.out.size)); have hh9 := (hb9.block w5.heap.size (by simp)).trans (one_new w5 (.cells #[.int .i64 0, .string { data := #[] }, .int .u64 0, .slice none 0 0, .int .u64 0, .int .u64 0, .string { data := #[] }] 26)); have z0 := at_cell (i := 0) hh9 rfl; have z1 := at_cell (i := 1) hh9 rfl; have z2 := at_cell (i := 2) hh9 rfl; have z3 := at_cell (i := 3) hh9 rfl; have z4 := at_cell (i := 4) hh9 rfl; have z5 := at_cell (i := 5) hh9 rfl; have z6 := at_cell (i := 6) hh9 rfl; clear hh9; clear hb9)
    | (go_at_call 17; have hk := HB4.out.size; refine (HGET.out _ _ _).mono ?_; rintro e w5 ⟨rfl, hb5⟩; have HB6 := Lib.hid ((HB4.out.trans (hb5.mono HB4.out.size)).alloc (by have h1 := HB4.out.size; have h2 := hb5.size; omega) (.cells #[.int .i64 0, .string { data := #[] }, .int .u64 0, .slice none 0 0, .int .u64 0, .int .u64 0, .string { data := #[] }] 26)); clear hb5)
    | (go_at_call 19; have hk := HB3.out.size; refine (HBY.out _ HB3.out).mono ?_; rintro e w4 ⟨A4, c4, rfl, hb4⟩; have HB4 := Lib.hid (HB3.out.trans (hb4.mono HB3.out.size)); clear hb4)
    | (go_at_call 11; have hk := HB2.out.size; refine (HPUT.out _).mono ?_; rintro e w3 ⟨rfl, hb3⟩; have HB3 := Lib.hid (HB2.out.trans (hb3.mono HB2.out.size)); clear hb3)
    | (go_at_call 7; have hk := HB2.out.size; refine (HFEW.out _ HB2.out).mono ?_; rintro e w3 ⟨rfl, rfl⟩)
    | (go_at_call 8; refine (HG.out _ HB0.out).mono ?_; rintro e w2 ⟨rfl, hb2⟩; have HB2 := Lib.hid (HB0.out.trans (hb2.mono HB0.out.size)); have hh2 := (hb2.block w.heap.size (by rw [HZ.out]; omega)).trans HA0.out; have p0 := at_cell (i := 0) hh2 rfl; have p1 := at_cell (i := 1) hh2 rfl; have p2 := at_cell (i := 2) hh2 rfl; have p3 := at_cell (i := 3) hh2 rfl; have p4 := at_cell (i := 4) hh2 rfl; have p5 := at_cell (i := 5) hh2 rfl; have p6 := at_cell (i := 6) hh2 rfl; clear hh2; clear hb2))
  go_ret
  exact ⟨rfl, HB10.out⟩

theorem say_is {P : Prop} {b : Bool} {e : Ending} (hp : b = true ↔ P) (h : Tells P e) : e = .returned (.bool b) := by
  obtain ⟨q, h1, h2⟩ := h
  rw [h2, show q = b from by rw [Bool.eq_iff_iff, h1, hp]]

theorem snil_any (ver : Int) (r : Rc) (A L : Option Addr) (n c m d : Nat) (l : List Dp) (ps : List (List UInt8)) (hn : n ≤ maxLen) (f : Fits r l) (hm : m ≤ maxLen) (hps : ∀ p ∈ ps, p.length ≤ maxLen) (w : World) (h : Reads w w.heap.size 3 A n (dps l)) (h2 : Reads w w.heap.size 1 L m (ps.map tsv)) :
    Calls Try.prog 6 #[.int .i64 ver, rcv r A n c, .slice L m d] w fun e w' => e = .returned (.bool true) ∧ Below w.heap.size w w' := by
  have g1 : ∀ b : Bool, (b = true ↔ ¬ small r l) → Hid (∀ W, Below w.heap.size w W → Calls Try.prog 8 #[rcv r A n c] W fun e w' => e = .returned (.bool b) ∧ Below W.heap.size W w') := fun b hb W hbl =>
    (great_says r A n c l W hn f.2.2 f.1 f.2.1 ((h.below hbl).more hbl.size)).mono fun e w' ⟨h1, h2⟩ => ⟨say_is hb h1, h2⟩
  have g2 : ∀ b : Bool, (b = true ↔ fewP ps) → Hid (∀ W, Below w.heap.size w W → Calls Try.prog 7 #[.slice L m d] W fun e w' => e = .returned (.bool b) ∧ W = w') := fun b hb W hbl =>
    (few_any L m d ps hm hps W ((h2.below hbl).more hbl.size)).mono fun e w' ⟨h1, h2⟩ => ⟨say_is hb h1, h2⟩
  by_cases s1 : small r l
  · by_cases s2 : fewP ps
    · have hpl : ps.length = m := by have := h2.1; simpa using this
      have hby : Hid (∀ W, Below w.heap.size w W → Calls Try.prog 19 #[.slice L m d] W fun e w' => ∃ A' c', e = .returned (.slice A' m c') ∧ Below W.heap.size W w') := fun W hbl =>
        (bytes_any L m d ps (by have := s2.2; omega) (fun p hp => by have := s2.1 p hp; omega) W ((h2.below hbl).more hbl.size)).mono fun e w' ⟨A', c', h3, _, _, h4⟩ => ⟨A', c', h3, h4⟩
      by_cases hv : 1 ≤ ver ∧ ver ≤ 3
      · exact snil_ok ver hv r A L n c m d w (g1 false (by simp [s1])) (g2 true (by simp [s2])) (fun W => put_tnil ver hv n c r A W) hby (fun A' c' W => get_tnil ver hv A' m c' 0 W)
      · by_cases hl : ver < 1
        · exact snil_low ver hl r A L n c m d w (g1 false (by simp [s1])) (g2 true (by simp [s2])) (fun W => put_way ver hv none n c r A W) hby (fun A' c' W => get_way ver hv none A' m c' 0 W)
        · exact snil_high ver (by omega) r A L n c m d w (g1 false (by simp [s1])) (g2 true (by simp [s2])) (fun W => put_way ver hv none n c r A W) hby (fun A' c' W => get_way ver hv none A' m c' 0 W)
    · exact snil_many ver r A L n c m d w (g1 false (by simp [s1])) (g2 false (by simp [s2]))
  · exact snil_great ver r A L n c m d w (g1 true (by simp [s1]))

end Go.Proofs.Ytfdncdejjlcgpaa
