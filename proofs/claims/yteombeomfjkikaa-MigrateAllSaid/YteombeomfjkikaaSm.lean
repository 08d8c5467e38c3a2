/- The document's Step. -/
import Derived.Test.YteombeomfjkikaaSi
namespace Go.Proofs.Yteombeomfjkikaa
open Go.RowKit

set_option maxRecDepth 100000 in
set_option maxHeartbeats 1000000 in
theorem rstep_way (v k : Int) (t g : List UInt8) (u o m : Int) (A : Option Addr) (n c : Nat) (hv : v ≠ 1 ∧ v ≠ 2) (w : World) :
    Calls Try.prog 12 #[.int .i64 v, .agg #[.int .i64 k, .string (tx t), .int .u64 u, .slice A n c, .int .u64 o, .int .u64 m, .string (tx g)]] w fun e w' => e = .returned (.tuple #[.agg #[.int .i64 0, .string { data := #[] }, .int .u64 0, .slice none 0 0, .int .u64 0, .int .u64 0, .string { data := #[] }], .int .i64 11]) ∧ Below w.heap.size w w' := by
  have h00 := two_new w (.cells #[.int .i64 k, .string (tx t), .int .u64 u, .slice A n c, .int .u64 o, .int .u64 m, .string (tx g)] 25) (.cells #[.int .i64 0, .string { data := #[] }, .int .u64 0, .slice none 0 0, .int .u64 0, .int .u64 0, .string { data := #[] }] 25)
  have HA0 := Lib.hid h00.1
  have HA1 := Lib.hid h00.2.1
  have HSZ := Lib.hid h00.2.2
  have HB0 := Lib.hid (((Below.refl w.heap.size w).alloc (Nat.le_refl _) (.cells #[.int .i64 k, .string (tx t), .int .u64 u, .slice A n c, .int .u64 o, .int .u64 m, .string (tx g)] 25)).alloc (by simp) (.cells #[.int .i64 0, .string { data := #[] }, .int .u64 0, .slice none 0 0, .int .u64 0, .int .u64 0, .string { data := #[] }] 25))
  have q0 := at_cell (i := 0) h00.1 rfl
  have q1 := at_cell (i := 1) h00.1 rfl
  have q2 := at_cell (i := 2) h00.1 rfl
  have q3 := at_cell (i := 3) h00.1 rfl
  have q4 := at_cell (i := 4) h00.1 rfl
  have q5 := at_cell (i := 5) h00.1 rfl
  have q6 := at_cell (i := 6) h00.1 rfl
  have p0 := at_cell (i := 0) h00.2.1 rfl
  have y0 := at_frozen (i := 0) h00.2.1
  have p1 := at_cell (i := 1) h00.2.1 rfl
  have y1 := at_frozen (i := 1) h00.2.1
  have p2 := at_cell (i := 2) h00.2.1 rfl
  have y2 := at_frozen (i := 2) h00.2.1
  have p3 := at_cell (i := 3) h00.2.1 rfl
  have y3 := at_frozen (i := 3) h00.2.1
  have p4 := at_cell (i := 4) h00.2.1 rfl
  have y4 := at_frozen (i := 4) h00.2.1
  have p5 := at_cell (i := 5) h00.2.1 rfl
  have y5 := at_frozen (i := 5) h00.2.1
  have p6 := at_cell (i := 6) h00.2.1 rfl
  have y6 := at_frozen (i := 6) h00.2.1
  clear h00
  obtain ⟨hv1, hv2⟩ := hv
  have d1a : decide (v = 1) = false := decide_eq_false (by omega)
  have d1b : (v == 1) = false := by rw [beq_eq_false_iff_ne]; omega
  have d1c : (v != 1) = true := by rw [bne_iff_ne]; omega
  have d2a : decide (v = 2) = false := decide_eq_false (by omega)
  have d2b : (v == 2) = false := by rw [beq_eq_false_iff_ne]; omega
  have d2c : (v != 2) = true := by rw [bne_iff_ne]; omega
  clear hv1 hv2
  go_enter Try.func12, Try.ntmps12
  go_wp2_with fail
  refine bodyPost_ret (results_cell_tmp_row rfl _ _ _ _ _ _ _ rfl HA1.out Try.underlying25 rfl (by kernel_rfl)) rfl ?_
  exact ⟨rfl, HB0.out⟩

set_option maxRecDepth 100000 in
set_option maxHeartbeats 1000000 in
theorem rstep_arg1 (k : Int) (t g : List UInt8) (u o m : Int) (A : Option Addr) (n c : Nat) (w : World)
    (HM : Hid (∀ W, Below w.heap.size w W → Calls Try.prog 18 #[.int .i64 1, .agg #[.int .i64 k, .string (tx t), .int .u64 u, .slice A n c, .int .u64 o, .int .u64 m, .string (tx g)]] W fun e w' => e = .returned (.bool false) ∧ Below W.heap.size W w')) :
    Calls Try.prog 12 #[.int .i64 1, .agg #[.int .i64 k, .string (tx t), .int .u64 u, .slice A n c, .int .u64 o, .int .u64 m, .string (tx g)]] w fun e w' => e = .returned (.tuple #[.agg #[.int .i64 0, .string { data := #[] }, .int .u64 0, .slice none 0 0, .int .u64 0, .int .u64 0, .string { data := #[] }], .int .i64 1]) ∧ Below w.heap.size w w' := by
  have h00 := two_new w (.cells #[.int .i64 k, .string (tx t), .int .u64 u, .slice A n c, .int .u64 o, .int .u64 m, .string (tx g)] 25) (.cells #[.int .i64 0, .string { data := #[] }, .int .u64 0, .slice none 0 0, .int .u64 0, .int .u64 0, .string { data := #[] }] 25)
  have HA0 := Lib.hid h00.1
  have HA1 := Lib.hid h00.2.1
  have HSZ := Lib.hid h00.2.2
  have HB0 := Lib.hid (((Below.refl w.heap.size w).alloc (Nat.le_refl _) (.cells #[.int .i64 k, .string (tx t), .int .u64 u, .slice A n c, .int .u64 o, .int .u64 m, .string (tx g)] 25)).alloc (by simp) (.cells #[.int .i64 0, .string { data := #[] }, .int .u64 0, .slice none 0 0, .int .u64 0, .int .u64 0, .string { data := #[] }] 25))
  have q0 := at_cell (i := 0) h00.1 rfl
  have q1 := at_cell (i := 1) h00.1 rfl
  have q2 := at_cell (i := 2) h00.1 rfl
  have q3 := at_cell (i := 3) h00.1 rfl
  have q4 := at_cell (i := 4) h00.1 rfl
  have q5 := at_cell (i := 5) h00.1 rfl
  have q6 := at_cell (i := 6) h00.1 rfl
  have p0 := at_cell (i := 0) h00.2.1 rfl
  have y0 := at_frozen (i := 0) h00.2.1
  have p1 := at_cell (i := 1) h00.2.1 rfl
  have y1 := at_frozen (i := 1) h00.2.1
  have p2 := at_cell (i := 2) h00.2.1 rfl
  have y2 := at_frozen (i := 2) h00.2.1
  have p3 := at_cell (i := 3) h00.2.1 rfl
  have y3 := at_frozen (i := 3) h00.2.1
  have p4 := at_cell (i := 4) h00.2.1 rfl
  have y4 := at_frozen (i := 4) h00.2.1
  have p5 := at_cell (i := 5) h00.2.1 rfl
  have y5 := at_frozen (i := 5) h00.2.1
  have p6 := at_cell (i := 6) h00.2.1 rfl
  have y6 := at_frozen (i := 6) h00.2.1
  clear h00
  go_enter Try.func12, Try.ntmps12
  go_wp2_with (go_at_call 18; refine (HM.out _ HB0.out).mono ?_; rintro e w2 ⟨rfl, hb2⟩; have hbx := (hb2.block w.heap.size (by rw [HSZ.out]; omega)).trans HA0.out; have hbz := (hb2.block (w.heap.size + 1) (by rw [HSZ.out]; omega)).trans HA1.out; have r0 := at_cell (i := 0) hbx rfl; have f0 := at_frozen (i := 0) hbx; have j0 := at_cell (i := 0) hbz rfl; have x0 := at_frozen (i := 0) hbz; have r1 := at_cell (i := 1) hbx rfl; have f1 := at_frozen (i := 1) hbx; have j1 := at_cell (i := 1) hbz rfl; have x1 := at_frozen (i := 1) hbz; have r2 := at_cell (i := 2) hbx rfl; have f2 := at_frozen (i := 2) hbx; have j2 := at_cell (i := 2) hbz rfl; have x2 := at_frozen (i := 2) hbz; have r3 := at_cell (i := 3) hbx rfl; have f3 := at_frozen (i := 3) hbx; have j3 := at_cell (i := 3) hbz rfl; have x3 := at_frozen (i := 3) hbz; have r4 := at_cell (i := 4) hbx rfl; have f4 := at_frozen (i := 4) hbx; have j4 := at_cell (i := 4) hbz rfl; have x4 := at_frozen (i := 4) hbz; have r5 := at_cell (i := 5) hbx rfl; have f5 := at_frozen (i := 5) hbx; have j5 := at_cell (i := 5) hbz rfl; have x5 := at_frozen (i := 5) hbz; have r6 := at_cell (i := 6) hbx rfl; have f6 := at_frozen (i := 6) hbx; have j6 := at_cell (i := 6) hbz rfl; have x6 := at_frozen (i := 6) hbz; have HBX := Lib.hid hbx; have HBZ := Lib.hid hbz; have HB2 := Lib.hid (HB0.out.trans (hb2.mono HB0.out.size)); clear hbx hbz hb2)
  have hfin := (set_same (set_same (set_same (set_same (set_same (set_same (set_same HBZ.out 0 (.int .i64 0)) 1 (.string { data := #[] })) 2 (.int .u64 0)) 3 (.slice none 0 0)) 4 (.int .u64 0)) 5 (.int .u64 0)) 6 (.string { data := #[] }))
  have hbb := (Below.setCell (Below.setCell (Below.setCell (Below.setCell (Below.setCell (Below.setCell (Below.setCell HB2.out (p := ⟨w.heap.size + 1, 0, none⟩) (show w.heap.size ≤ w.heap.size + 1 by omega) (.int .i64 0)) (p := ⟨w.heap.size + 1, 1, none⟩) (show w.heap.size ≤ w.heap.size + 1 by omega) (.string { data := #[] })) (p := ⟨w.heap.size + 1, 2, none⟩) (show w.heap.size ≤ w.heap.size + 1 by omega) (.int .u64 0)) (p := ⟨w.heap.size + 1, 3, none⟩) (show w.heap.size ≤ w.heap.size + 1 by omega) (.slice none 0 0)) (p := ⟨w.heap.size + 1, 4, none⟩) (show w.heap.size ≤ w.heap.size + 1 by omega) (.int .u64 0)) (p := ⟨w.heap.size + 1, 5, none⟩) (show w.heap.size ≤ w.heap.size + 1 by omega) (.int .u64 0)) (p := ⟨w.heap.size + 1, 6, none⟩) (show w.heap.size ≤ w.heap.size + 1 by omega) (.string { data := #[] }))
  refine bodyPost_ret (results_cell_tmp_row rfl _ _ _ _ _ _ _ rfl hfin Try.underlying25 rfl (by kernel_rfl)) rfl ?_
  exact ⟨rfl, hbb⟩

set_option maxRecDepth 100000 in
set_option maxHeartbeats 1000000 in
theorem rstep_gone1 (k : Int) (t g : List UInt8) (u o m : Int) (A : Option Addr) (n c : Nat) (hk : k ≠ 1) (w : World)
    (HM : Hid (∀ W, Below w.heap.size w W → Calls Try.prog 18 #[.int .i64 1, .agg #[.int .i64 k, .string (tx t), .int .u64 u, .slice A n c, .int .u64 o, .int .u64 m, .string (tx g)]] W fun e w' => e = .returned (.bool true) ∧ Below W.heap.size W w')) :
    Calls Try.prog 12 #[.int .i64 1, .agg #[.int .i64 k, .string (tx t), .int .u64 u, .slice A n c, .int .u64 o, .int .u64 m, .string (tx g)]] w fun e w' => e = .returned (.tuple #[.agg #[.int .i64 k, .string (tx t), .int .u64 u, .slice A n c, .int .u64 o, .int .u64 m, .string (tx g)], .int .i64 0]) ∧ Below w.heap.size w w' := by
  have h00 := two_new w (.cells #[.int .i64 k, .string (tx t), .int .u64 u, .slice A n c, .int .u64 o, .int .u64 m, .string (tx g)] 25) (.cells #[.int .i64 0, .string { data := #[] }, .int .u64 0, .slice none 0 0, .int .u64 0, .int .u64 0, .string { data := #[] }] 25)
  have HA0 := Lib.hid h00.1
  have HA1 := Lib.hid h00.2.1
  have HSZ := Lib.hid h00.2.2
  have HB0 := Lib.hid (((Below.refl w.heap.size w).alloc (Nat.le_refl _) (.cells #[.int .i64 k, .string (tx t), .int .u64 u, .slice A n c, .int .u64 o, .int .u64 m, .string (tx g)] 25)).alloc (by simp) (.cells #[.int .i64 0, .string { data := #[] }, .int .u64 0, .slice none 0 0, .int .u64 0, .int .u64 0, .string { data := #[] }] 25))
  have q0 := at_cell (i := 0) h00.1 rfl
  have q1 := at_cell (i := 1) h00.1 rfl
  have q2 := at_cell (i := 2) h00.1 rfl
  have q3 := at_cell (i := 3) h00.1 rfl
  have q4 := at_cell (i := 4) h00.1 rfl
  have q5 := at_cell (i := 5) h00.1 rfl
  have q6 := at_cell (i := 6) h00.1 rfl
  have p0 := at_cell (i := 0) h00.2.1 rfl
  have y0 := at_frozen (i := 0) h00.2.1
  have p1 := at_cell (i := 1) h00.2.1 rfl
  have y1 := at_frozen (i := 1) h00.2.1
  have p2 := at_cell (i := 2) h00.2.1 rfl
  have y2 := at_frozen (i := 2) h00.2.1
  have p3 := at_cell (i := 3) h00.2.1 rfl
  have y3 := at_frozen (i := 3) h00.2.1
  have p4 := at_cell (i := 4) h00.2.1 rfl
  have y4 := at_frozen (i := 4) h00.2.1
  have p5 := at_cell (i := 5) h00.2.1 rfl
  have y5 := at_frozen (i := 5) h00.2.1
  have p6 := at_cell (i := 6) h00.2.1 rfl
  have y6 := at_frozen (i := 6) h00.2.1
  clear h00
  have d1a : decide (k = 1) = false := decide_eq_false (by omega)
  have d1b : (k == 1) = false := by rw [beq_eq_false_iff_ne]; omega
  have d1c : (k != 1) = true := by rw [bne_iff_ne]; omega
  clear hk
  go_enter Try.func12, Try.ntmps12
  go_wp2_with (go_at_call 18; refine (HM.out _ HB0.out).mono ?_; rintro e w2 ⟨rfl, hb2⟩; have hbx := (hb2.block w.heap.size (by rw [HSZ.out]; omega)).trans HA0.out; have hbz := (hb2.block (w.heap.size + 1) (by rw [HSZ.out]; omega)).trans HA1.out; have r0 := at_cell (i := 0) hbx rfl; have f0 := at_frozen (i := 0) hbx; have j0 := at_cell (i := 0) hbz rfl; have x0 := at_frozen (i := 0) hbz; have r1 := at_cell (i := 1) hbx rfl; have f1 := at_frozen (i := 1) hbx; have j1 := at_cell (i := 1) hbz rfl; have x1 := at_frozen (i := 1) hbz; have r2 := at_cell (i := 2) hbx rfl; have f2 := at_frozen (i := 2) hbx; have j2 := at_cell (i := 2) hbz rfl; have x2 := at_frozen (i := 2) hbz; have r3 := at_cell (i := 3) hbx rfl; have f3 := at_frozen (i := 3) hbx; have j3 := at_cell (i := 3) hbz rfl; have x3 := at_frozen (i := 3) hbz; have r4 := at_cell (i := 4) hbx rfl; have f4 := at_frozen (i := 4) hbx; have j4 := at_cell (i := 4) hbz rfl; have x4 := at_frozen (i := 4) hbz; have r5 := at_cell (i := 5) hbx rfl; have f5 := at_frozen (i := 5) hbx; have j5 := at_cell (i := 5) hbz rfl; have x5 := at_frozen (i := 5) hbz; have r6 := at_cell (i := 6) hbx rfl; have f6 := at_frozen (i := 6) hbx; have j6 := at_cell (i := 6) hbz rfl; have x6 := at_frozen (i := 6) hbz; have HBX := Lib.hid hbx; have HBZ := Lib.hid hbz; have HB2 := Lib.hid (HB0.out.trans (hb2.mono HB0.out.size)); clear hbx hbz hb2)
  have hfin := (set_same (set_same (set_same (set_same (set_same (set_same (set_same HBZ.out 0 (.int .i64 k)) 1 (.string (tx t))) 2 (.int .u64 u)) 3 (.slice A n c)) 4 (.int .u64 o)) 5 (.int .u64 m)) 6 (.string (tx g)))
  have hbb := (Below.setCell (Below.setCell (Below.setCell (Below.setCell (Below.setCell (Below.setCell (Below.setCell HB2.out (p := ⟨w.heap.size + 1, 0, none⟩) (show w.heap.size ≤ w.heap.size + 1 by omega) (.int .i64 k)) (p := ⟨w.heap.size + 1, 1, none⟩) (show w.heap.size ≤ w.heap.size + 1 by omega) (.string (tx t))) (p := ⟨w.heap.size + 1, 2, none⟩) (show w.heap.size ≤ w.heap.size + 1 by omega) (.int .u64 u)) (p := ⟨w.heap.size + 1, 3, none⟩) (show w.heap.size ≤ w.heap.size + 1 by omega) (.slice A n c)) (p := ⟨w.heap.size + 1, 4, none⟩) (show w.heap.size ≤ w.heap.size + 1 by omega) (.int .u64 o)) (p := ⟨w.heap.size + 1, 5, none⟩) (show w.heap.size ≤ w.heap.size + 1 by omega) (.int .u64 m)) (p := ⟨w.heap.size + 1, 6, none⟩) (show w.heap.size ≤ w.heap.size + 1 by omega) (.string (tx g)))
  refine bodyPost_ret (results_cell_tmp_row rfl _ _ _ _ _ _ _ rfl hfin Try.underlying25 rfl (by kernel_rfl)) rfl ?_
  exact ⟨rfl, hbb⟩

set_option maxRecDepth 100000 in
set_option maxHeartbeats 1000000 in
theorem rstep_trace1  (t g : List UInt8) (u o m : Int) (A : Option Addr) (n c : Nat) (w : World)
    (HM : Hid (∀ W, Below w.heap.size w W → Calls Try.prog 18 #[.int .i64 1, .agg #[.int .i64 1, .string (tx t), .int .u64 u, .slice A n c, .int .u64 o, .int .u64 m, .string (tx g)]] W fun e w' => e = .returned (.bool true) ∧ Below W.heap.size W w')) :
    Calls Try.prog 12 #[.int .i64 1, .agg #[.int .i64 1, .string (tx t), .int .u64 u, .slice A n c, .int .u64 o, .int .u64 m, .string (tx g)]] w fun e w' => e = .returned (.tuple #[.agg #[.int .i64 1, .string (tx t), .int .u64 u, .slice A n c, .int .u64 o, .int .u64 1, .string (tx g)], .int .i64 0]) ∧ Below w.heap.size w w' := by
  have h00 := two_new w (.cells #[.int .i64 1, .string (tx t), .int .u64 u, .slice A n c, .int .u64 o, .int .u64 m, .string (tx g)] 25) (.cells #[.int .i64 0, .string { data := #[] }, .int .u64 0, .slice none 0 0, .int .u64 0, .int .u64 0, .string { data := #[] }] 25)
  have HA0 := Lib.hid h00.1
  have HA1 := Lib.hid h00.2.1
  have HSZ := Lib.hid h00.2.2
  have HB0 := Lib.hid (((Below.refl w.heap.size w).alloc (Nat.le_refl _) (.cells #[.int .i64 1, .string (tx t), .int .u64 u, .slice A n c, .int .u64 o, .int .u64 m, .string (tx g)] 25)).alloc (by simp) (.cells #[.int .i64 0, .string { data := #[] }, .int .u64 0, .slice none 0 0, .int .u64 0, .int .u64 0, .string { data := #[] }] 25))
  have q0 := at_cell (i := 0) h00.1 rfl
  have q1 := at_cell (i := 1) h00.1 rfl
  have q2 := at_cell (i := 2) h00.1 rfl
  have q3 := at_cell (i := 3) h00.1 rfl
  have q4 := at_cell (i := 4) h00.1 rfl
  have q5 := at_cell (i := 5) h00.1 rfl
  have q6 := at_cell (i := 6) h00.1 rfl
  have p0 := at_cell (i := 0) h00.2.1 rfl
  have y0 := at_frozen (i := 0) h00.2.1
  have p1 := at_cell (i := 1) h00.2.1 rfl
  have y1 := at_frozen (i := 1) h00.2.1
  have p2 := at_cell (i := 2) h00.2.1 rfl
  have y2 := at_frozen (i := 2) h00.2.1
  have p3 := at_cell (i := 3) h00.2.1 rfl
  have y3 := at_frozen (i := 3) h00.2.1
  have p4 := at_cell (i := 4) h00.2.1 rfl
  have y4 := at_frozen (i := 4) h00.2.1
  have p5 := at_cell (i := 5) h00.2.1 rfl
  have y5 := at_frozen (i := 5) h00.2.1
  have p6 := at_cell (i := 6) h00.2.1 rfl
  have y6 := at_frozen (i := 6) h00.2.1
  clear h00
  go_enter Try.func12, Try.ntmps12
  go_wp2_with (go_at_call 18; refine (HM.out _ HB0.out).mono ?_; rintro e w2 ⟨rfl, hb2⟩; have hbx := (hb2.block w.heap.size (by rw [HSZ.out]; omega)).trans HA0.out; have hbz := (hb2.block (w.heap.size + 1) (by rw [HSZ.out]; omega)).trans HA1.out; have r0 := at_cell (i := 0) hbx rfl; have f0 := at_frozen (i := 0) hbx; have j0 := at_cell (i := 0) hbz rfl; have x0 := at_frozen (i := 0) hbz; have r1 := at_cell (i := 1) hbx rfl; have f1 := at_frozen (i := 1) hbx; have j1 := at_cell (i := 1) hbz rfl; have x1 := at_frozen (i := 1) hbz; have r2 := at_cell (i := 2) hbx rfl; have f2 := at_frozen (i := 2) hbx; have j2 := at_cell (i := 2) hbz rfl; have x2 := at_frozen (i := 2) hbz; have r3 := at_cell (i := 3) hbx rfl; have f3 := at_frozen (i := 3) hbx; have j3 := at_cell (i := 3) hbz rfl; have x3 := at_frozen (i := 3) hbz; have r4 := at_cell (i := 4) hbx rfl; have f4 := at_frozen (i := 4) hbx; have j4 := at_cell (i := 4) hbz rfl; have x4 := at_frozen (i := 4) hbz; have r5 := at_cell (i := 5) hbx rfl; have f5 := at_frozen (i := 5) hbx; have j5 := at_cell (i := 5) hbz rfl; have x5 := at_frozen (i := 5) hbz; have r6 := at_cell (i := 6) hbx rfl; have f6 := at_frozen (i := 6) hbx; have j6 := at_cell (i := 6) hbz rfl; have x6 := at_frozen (i := 6) hbz; have HBX := Lib.hid hbx; have HBZ := Lib.hid hbz; have HB2 := Lib.hid (HB0.out.trans (hb2.mono HB0.out.size)); clear hbx hbz hb2)
  have hfin := (set_same (set_same (set_same (set_same (set_same (set_same (set_same ((Below.heap_setCell w2 ⟨w.heap.size, 5, none⟩ (.int .u64 1) (w.heap.size + 1) (by show w.heap.size + 1 ≠ w.heap.size; omega)).trans HBZ.out) 0 (.int .i64 1)) 1 (.string (tx t))) 2 (.int .u64 u)) 3 (.slice A n c)) 4 (.int .u64 o)) 5 (.int .u64 1)) 6 (.string (tx g)))
  have hbb := (Below.setCell (Below.setCell (Below.setCell (Below.setCell (Below.setCell (Below.setCell (Below.setCell (Below.setCell HB2.out (p := ⟨w.heap.size, 5, none⟩) (show w.heap.size ≤ w.heap.size by omega) (.int .u64 1)) (p := ⟨w.heap.size + 1, 0, none⟩) (show w.heap.size ≤ w.heap.size + 1 by omega) (.int .i64 1)) (p := ⟨w.heap.size + 1, 1, none⟩) (show w.heap.size ≤ w.heap.size + 1 by omega) (.string (tx t))) (p := ⟨w.heap.size + 1, 2, none⟩) (show w.heap.size ≤ w.heap.size + 1 by omega) (.int .u64 u)) (p := ⟨w.heap.size + 1, 3, none⟩) (show w.heap.size ≤ w.heap.size + 1 by omega) (.slice A n c)) (p := ⟨w.heap.size + 1, 4, none⟩) (show w.heap.size ≤ w.heap.size + 1 by omega) (.int .u64 o)) (p := ⟨w.heap.size + 1, 5, none⟩) (show w.heap.size ≤ w.heap.size + 1 by omega) (.int .u64 1)) (p := ⟨w.heap.size + 1, 6, none⟩) (show w.heap.size ≤ w.heap.size + 1 by omega) (.string (tx g)))
  refine bodyPost_ret (results_cell_tmp_row rfl _ _ _ _ _ _ _ rfl hfin Try.underlying25 rfl (by kernel_rfl)) rfl ?_
  exact ⟨rfl, hbb⟩

set_option maxRecDepth 100000 in
set_option maxHeartbeats 1000000 in
theorem rstep_arg2 (k : Int) (t g : List UInt8) (u o m : Int) (A : Option Addr) (n c : Nat) (w : World)
    (HM : Hid (∀ W, Below w.heap.size w W → Calls Try.prog 18 #[.int .i64 2, .agg #[.int .i64 k, .string (tx t), .int .u64 u, .slice A n c, .int .u64 o, .int .u64 m, .string (tx g)]] W fun e w' => e = .returned (.bool false) ∧ Below W.heap.size W w')) :
    Calls Try.prog 12 #[.int .i64 2, .agg #[.int .i64 k, .string (tx t), .int .u64 u, .slice A n c, .int .u64 o, .int .u64 m, .string (tx g)]] w fun e w' => e = .returned (.tuple #[.agg #[.int .i64 0, .string { data := #[] }, .int .u64 0, .slice none 0 0, .int .u64 0, .int .u64 0, .string { data := #[] }], .int .i64 1]) ∧ Below w.heap.size w w' := by
  have h00 := two_new w (.cells #[.int .i64 k, .string (tx t), .int .u64 u, .slice A n c, .int .u64 o, .int .u64 m, .string (tx g)] 25) (.cells #[.int .i64 0, .string { data := #[] }, .int .u64 0, .slice none 0 0, .int .u64 0, .int .u64 0, .string { data := #[] }] 25)
  have HA0 := Lib.hid h00.1
  have HA1 := Lib.hid h00.2.1
  have HSZ := Lib.hid h00.2.2
  have HB0 := Lib.hid (((Below.refl w.heap.size w).alloc (Nat.le_refl _) (.cells #[.int .i64 k, .string (tx t), .int .u64 u, .slice A n c, .int .u64 o, .int .u64 m, .string (tx g)] 25)).alloc (by simp) (.cells #[.int .i64 0, .string { data := #[] }, .int .u64 0, .slice none 0 0, .int .u64 0, .int .u64 0, .string { data := #[] }] 25))
  have q0 := at_cell (i := 0) h00.1 rfl
  have q1 := at_cell (i := 1) h00.1 rfl
  have q2 := at_cell (i := 2) h00.1 rfl
  have q3 := at_cell (i := 3) h00.1 rfl
  have q4 := at_cell (i := 4) h00.1 rfl
  have q5 := at_cell (i := 5) h00.1 rfl
  have q6 := at_cell (i := 6) h00.1 rfl
  have p0 := at_cell (i := 0) h00.2.1 rfl
  have y0 := at_frozen (i := 0) h00.2.1
  have p1 := at_cell (i := 1) h00.2.1 rfl
  have y1 := at_frozen (i := 1) h00.2.1
  have p2 := at_cell (i := 2) h00.2.1 rfl
  have y2 := at_frozen (i := 2) h00.2.1
  have p3 := at_cell (i := 3) h00.2.1 rfl
  have y3 := at_frozen (i := 3) h00.2.1
  have p4 := at_cell (i := 4) h00.2.1 rfl
  have y4 := at_frozen (i := 4) h00.2.1
  have p5 := at_cell (i := 5) h00.2.1 rfl
  have y5 := at_frozen (i := 5) h00.2.1
  have p6 := at_cell (i := 6) h00.2.1 rfl
  have y6 := at_frozen (i := 6) h00.2.1
  clear h00
  go_enter Try.func12, Try.ntmps12
  go_wp2_with (go_at_call 18; refine (HM.out _ HB0.out).mono ?_; rintro e w2 ⟨rfl, hb2⟩; have hbx := (hb2.block w.heap.size (by rw [HSZ.out]; omega)).trans HA0.out; have hbz := (hb2.block (w.heap.size + 1) (by rw [HSZ.out]; omega)).trans HA1.out; have r0 := at_cell (i := 0) hbx rfl; have f0 := at_frozen (i := 0) hbx; have j0 := at_cell (i := 0) hbz rfl; have x0 := at_frozen (i := 0) hbz; have r1 := at_cell (i := 1) hbx rfl; have f1 := at_frozen (i := 1) hbx; have j1 := at_cell (i := 1) hbz rfl; have x1 := at_frozen (i := 1) hbz; have r2 := at_cell (i := 2) hbx rfl; have f2 := at_frozen (i := 2) hbx; have j2 := at_cell (i := 2) hbz rfl; have x2 := at_frozen (i := 2) hbz; have r3 := at_cell (i := 3) hbx rfl; have f3 := at_frozen (i := 3) hbx; have j3 := at_cell (i := 3) hbz rfl; have x3 := at_frozen (i := 3) hbz; have r4 := at_cell (i := 4) hbx rfl; have f4 := at_frozen (i := 4) hbx; have j4 := at_cell (i := 4) hbz rfl; have x4 := at_frozen (i := 4) hbz; have r5 := at_cell (i := 5) hbx rfl; have f5 := at_frozen (i := 5) hbx; have j5 := at_cell (i := 5) hbz rfl; have x5 := at_frozen (i := 5) hbz; have r6 := at_cell (i := 6) hbx rfl; have f6 := at_frozen (i := 6) hbx; have j6 := at_cell (i := 6) hbz rfl; have x6 := at_frozen (i := 6) hbz; have HBX := Lib.hid hbx; have HBZ := Lib.hid hbz; have HB2 := Lib.hid (HB0.out.trans (hb2.mono HB0.out.size)); clear hbx hbz hb2)
  have hfin := (set_same (set_same (set_same (set_same (set_same (set_same (set_same HBZ.out 0 (.int .i64 0)) 1 (.string { data := #[] })) 2 (.int .u64 0)) 3 (.slice none 0 0)) 4 (.int .u64 0)) 5 (.int .u64 0)) 6 (.string { data := #[] }))
  have hbb := (Below.setCell (Below.setCell (Below.setCell (Below.setCell (Below.setCell (Below.setCell (Below.setCell HB2.out (p := ⟨w.heap.size + 1, 0, none⟩) (show w.heap.size ≤ w.heap.size + 1 by omega) (.int .i64 0)) (p := ⟨w.heap.size + 1, 1, none⟩) (show w.heap.size ≤ w.heap.size + 1 by omega) (.string { data := #[] })) (p := ⟨w.heap.size + 1, 2, none⟩) (show w.heap.size ≤ w.heap.size + 1 by omega) (.int .u64 0)) (p := ⟨w.heap.size + 1, 3, none⟩) (show w.heap.size ≤ w.heap.size + 1 by omega) (.slice none 0 0)) (p := ⟨w.heap.size + 1, 4, none⟩) (show w.heap.size ≤ w.heap.size + 1 by omega) (.int .u64 0)) (p := ⟨w.heap.size + 1, 5, none⟩) (show w.heap.size ≤ w.heap.size + 1 by omega) (.int .u64 0)) (p := ⟨w.heap.size + 1, 6, none⟩) (show w.heap.size ≤ w.heap.size + 1 by omega) (.string { data := #[] }))
  refine bodyPost_ret (results_cell_tmp_row rfl _ _ _ _ _ _ _ rfl hfin Try.underlying25 rfl (by kernel_rfl)) rfl ?_
  exact ⟨rfl, hbb⟩

set_option maxRecDepth 100000 in
set_option maxHeartbeats 1000000 in
theorem rstep_gone2 (k : Int) (t g : List UInt8) (u o m : Int) (A : Option Addr) (n c : Nat) (hk : k ≠ 1) (w : World)
    (HM : Hid (∀ W, Below w.heap.size w W → Calls Try.prog 18 #[.int .i64 2, .agg #[.int .i64 k, .string (tx t), .int .u64 u, .slice A n c, .int .u64 o, .int .u64 m, .string (tx g)]] W fun e w' => e = .returned (.bool true) ∧ Below W.heap.size W w')) :
    Calls Try.prog 12 #[.int .i64 2, .agg #[.int .i64 k, .string (tx t), .int .u64 u, .slice A n c, .int .u64 o, .int .u64 m, .string (tx g)]] w fun e w' => e = .returned (.tuple #[.agg #[.int .i64 k, .string (tx t), .int .u64 u, .slice A n c, .int .u64 o, .int .u64 m, .string (tx g)], .int .i64 0]) ∧ Below w.heap.size w w' := by
  have h00 := two_new w (.cells #[.int .i64 k, .string (tx t), .int .u64 u, .slice A n c, .int .u64 o, .int .u64 m, .string (tx g)] 25) (.cells #[.int .i64 0, .string { data := #[] }, .int .u64 0, .slice none 0 0, .int .u64 0, .int .u64 0, .string { data := #[] }] 25)
  have HA0 := Lib.hid h00.1
  have HA1 := Lib.hid h00.2.1
  have HSZ := Lib.hid h00.2.2
  have HB0 := Lib.hid (((Below.refl w.heap.size w).alloc (Nat.le_refl _) (.cells #[.int .i64 k, .string (tx t), .int .u64 u, .slice A n c, .int .u64 o, .int .u64 m, .string (tx g)] 25)).alloc (by simp) (.cells #[.int .i64 0, .string { data := #[] }, .int .u64 0, .slice none 0 0, .int .u64 0, .int .u64 0, .string { data := #[] }] 25))
  have q0 := at_cell (i := 0) h00.1 rfl
  have q1 := at_cell (i := 1) h00.1 rfl
  have q2 := at_cell (i := 2) h00.1 rfl
  have q3 := at_cell (i := 3) h00.1 rfl
  have q4 := at_cell (i := 4) h00.1 rfl
  have q5 := at_cell (i := 5) h00.1 rfl
  have q6 := at_cell (i := 6) h00.1 rfl
  have p0 := at_cell (i := 0) h00.2.1 rfl
  have y0 := at_frozen (i := 0) h00.2.1
  have p1 := at_cell (i := 1) h00.2.1 rfl
  have y1 := at_frozen (i := 1) h00.2.1
  have p2 := at_cell (i := 2) h00.2.1 rfl
  have y2 := at_frozen (i := 2) h00.2.1
  have p3 := at_cell (i := 3) h00.2.1 rfl
  have y3 := at_frozen (i := 3) h00.2.1
  have p4 := at_cell (i := 4) h00.2.1 rfl
  have y4 := at_frozen (i := 4) h00.2.1
  have p5 := at_cell (i := 5) h00.2.1 rfl
  have y5 := at_frozen (i := 5) h00.2.1
  have p6 := at_cell (i := 6) h00.2.1 rfl
  have y6 := at_frozen (i := 6) h00.2.1
  clear h00
  have d1a : decide (k = 1) = false := decide_eq_false (by omega)
  have d1b : (k == 1) = false := by rw [beq_eq_false_iff_ne]; omega
  have d1c : (k != 1) = true := by rw [bne_iff_ne]; omega
  clear hk
  go_enter Try.func12, Try.ntmps12
  go_wp2_with (go_at_call 18; refine (HM.out _ HB0.out).mono ?_; rintro e w2 ⟨rfl, hb2⟩; have hbx := (hb2.block w.heap.size (by rw [HSZ.out]; omega)).trans HA0.out; have hbz := (hb2.block (w.heap.size + 1) (by rw [HSZ.out]; omega)).trans HA1.out; have r0 := at_cell (i := 0) hbx rfl; have f0 := at_frozen (i := 0) hbx; have j0 := at_cell (i := 0) hbz rfl; have x0 := at_frozen (i := 0) hbz; have r1 := at_cell (i := 1) hbx rfl; have f1 := at_frozen (i := 1) hbx; have j1 := at_cell (i := 1) hbz rfl; have x1 := at_frozen (i := 1) hbz; have r2 := at_cell (i := 2) hbx rfl; have f2 := at_frozen (i := 2) hbx; have j2 := at_cell (i := 2) hbz rfl; have x2 := at_frozen (i := 2) hbz; have r3 := at_cell (i := 3) hbx rfl; have f3 := at_frozen (i := 3) hbx; have j3 := at_cell (i := 3) hbz rfl; have x3 := at_frozen (i := 3) hbz; have r4 := at_cell (i := 4) hbx rfl; have f4 := at_frozen (i := 4) hbx; have j4 := at_cell (i := 4) hbz rfl; have x4 := at_frozen (i := 4) hbz; have r5 := at_cell (i := 5) hbx rfl; have f5 := at_frozen (i := 5) hbx; have j5 := at_cell (i := 5) hbz rfl; have x5 := at_frozen (i := 5) hbz; have r6 := at_cell (i := 6) hbx rfl; have f6 := at_frozen (i := 6) hbx; have j6 := at_cell (i := 6) hbz rfl; have x6 := at_frozen (i := 6) hbz; have HBX := Lib.hid hbx; have HBZ := Lib.hid hbz; have HB2 := Lib.hid (HB0.out.trans (hb2.mono HB0.out.size)); clear hbx hbz hb2)
  have hfin := (set_same (set_same (set_same (set_same (set_same (set_same (set_same HBZ.out 0 (.int .i64 k)) 1 (.string (tx t))) 2 (.int .u64 u)) 3 (.slice A n c)) 4 (.int .u64 o)) 5 (.int .u64 m)) 6 (.string (tx g)))
  have hbb := (Below.setCell (Below.setCell (Below.setCell (Below.setCell (Below.setCell (Below.setCell (Below.setCell HB2.out (p := ⟨w.heap.size + 1, 0, none⟩) (show w.heap.size ≤ w.heap.size + 1 by omega) (.int .i64 k)) (p := ⟨w.heap.size + 1, 1, none⟩) (show w.heap.size ≤ w.heap.size + 1 by omega) (.string (tx t))) (p := ⟨w.heap.size + 1, 2, none⟩) (show w.heap.size ≤ w.heap.size + 1 by omega) (.int .u64 u)) (p := ⟨w.heap.size + 1, 3, none⟩) (show w.heap.size ≤ w.heap.size + 1 by omega) (.slice A n c)) (p := ⟨w.heap.size + 1, 4, none⟩) (show w.heap.size ≤ w.heap.size + 1 by omega) (.int .u64 o)) (p := ⟨w.heap.size + 1, 5, none⟩) (show w.heap.size ≤ w.heap.size + 1 by omega) (.int .u64 m)) (p := ⟨w.heap.size + 1, 6, none⟩) (show w.heap.size ≤ w.heap.size + 1 by omega) (.string (tx g)))
  refine bodyPost_ret (results_cell_tmp_row rfl _ _ _ _ _ _ _ rfl hfin Try.underlying25 rfl (by kernel_rfl)) rfl ?_
  exact ⟨rfl, hbb⟩

set_option maxRecDepth 100000 in
set_option maxHeartbeats 1000000 in
theorem rstep_trace2  (t g : List UInt8) (u o m : Int) (A : Option Addr) (n c : Nat) (w : World)
    (HM : Hid (∀ W, Below w.heap.size w W → Calls Try.prog 18 #[.int .i64 2, .agg #[.int .i64 1, .string (tx t), .int .u64 u, .slice A n c, .int .u64 o, .int .u64 m, .string (tx g)]] W fun e w' => e = .returned (.bool true) ∧ Below W.heap.size W w')) :
    Calls Try.prog 12 #[.int .i64 2, .agg #[.int .i64 1, .string (tx t), .int .u64 u, .slice A n c, .int .u64 o, .int .u64 m, .string (tx g)]] w fun e w' => e = .returned (.tuple #[.agg #[.int .i64 1, .string (tx t), .int .u64 u, .slice A n c, .int .u64 o, .int .u64 m, .string { data := #[111, 108, 100] }], .int .i64 0]) ∧ Below w.heap.size w w' := by
  have h00 := two_new w (.cells #[.int .i64 1, .string (tx t), .int .u64 u, .slice A n c, .int .u64 o, .int .u64 m, .string (tx g)] 25) (.cells #[.int .i64 0, .string { data := #[] }, .int .u64 0, .slice none 0 0, .int .u64 0, .int .u64 0, .string { data := #[] }] 25)
  have HA0 := Lib.hid h00.1
  have HA1 := Lib.hid h00.2.1
  have HSZ := Lib.hid h00.2.2
  have HB0 := Lib.hid (((Below.refl w.heap.size w).alloc (Nat.le_refl _) (.cells #[.int .i64 1, .string (tx t), .int .u64 u, .slice A n c, .int .u64 o, .int .u64 m, .string (tx g)] 25)).alloc (by simp) (.cells #[.int .i64 0, .string { data := #[] }, .int .u64 0, .slice none 0 0, .int .u64 0, .int .u64 0, .string { data := #[] }] 25))
  have q0 := at_cell (i := 0) h00.1 rfl
  have q1 := at_cell (i := 1) h00.1 rfl
  have q2 := at_cell (i := 2) h00.1 rfl
  have q3 := at_cell (i := 3) h00.1 rfl
  have q4 := at_cell (i := 4) h00.1 rfl
  have q5 := at_cell (i := 5) h00.1 rfl
  have q6 := at_cell (i := 6) h00.1 rfl
  have p0 := at_cell (i := 0) h00.2.1 rfl
  have y0 := at_frozen (i := 0) h00.2.1
  have p1 := at_cell (i := 1) h00.2.1 rfl
  have y1 := at_frozen (i := 1) h00.2.1
  have p2 := at_cell (i := 2) h00.2.1 rfl
  have y2 := at_frozen (i := 2) h00.2.1
  have p3 := at_cell (i := 3) h00.2.1 rfl
  have y3 := at_frozen (i := 3) h00.2.1
  have p4 := at_cell (i := 4) h00.2.1 rfl
  have y4 := at_frozen (i := 4) h00.2.1
  have p5 := at_cell (i := 5) h00.2.1 rfl
  have y5 := at_frozen (i := 5) h00.2.1
  have p6 := at_cell (i := 6) h00.2.1 rfl
  have y6 := at_frozen (i := 6) h00.2.1
  clear h00
  go_enter Try.func12, Try.ntmps12
  go_wp2_with (go_at_call 18; refine (HM.out _ HB0.out).mono ?_; rintro e w2 ⟨rfl, hb2⟩; have hbx := (hb2.block w.heap.size (by rw [HSZ.out]; omega)).trans HA0.out; have hbz := (hb2.block (w.heap.size + 1) (by rw [HSZ.out]; omega)).trans HA1.out; have r0 := at_cell (i := 0) hbx rfl; have f0 := at_frozen (i := 0) hbx; have j0 := at_cell (i := 0) hbz rfl; have x0 := at_frozen (i := 0) hbz; have r1 := at_cell (i := 1) hbx rfl; have f1 := at_frozen (i := 1) hbx; have j1 := at_cell (i := 1) hbz rfl; have x1 := at_frozen (i := 1) hbz; have r2 := at_cell (i := 2) hbx rfl; have f2 := at_frozen (i := 2) hbx; have j2 := at_cell (i := 2) hbz rfl; have x2 := at_frozen (i := 2) hbz; have r3 := at_cell (i := 3) hbx rfl; have f3 := at_frozen (i := 3) hbx; have j3 := at_cell (i := 3) hbz rfl; have x3 := at_frozen (i := 3) hbz; have r4 := at_cell (i := 4) hbx rfl; have f4 := at_frozen (i := 4) hbx; have j4 := at_cell (i := 4) hbz rfl; have x4 := at_frozen (i := 4) hbz; have r5 := at_cell (i := 5) hbx rfl; have f5 := at_frozen (i := 5) hbx; have j5 := at_cell (i := 5) hbz rfl; have x5 := at_frozen (i := 5) hbz; have r6 := at_cell (i := 6) hbx rfl; have f6 := at_frozen (i := 6) hbx; have j6 := at_cell (i := 6) hbz rfl; have x6 := at_frozen (i := 6) hbz; have HBX := Lib.hid hbx; have HBZ := Lib.hid hbz; have HB2 := Lib.hid (HB0.out.trans (hb2.mono HB0.out.size)); clear hbx hbz hb2)
  have hfin := (set_same (set_same (set_same (set_same (set_same (set_same (set_same ((Below.heap_setCell w2 ⟨w.heap.size, 6, none⟩ (.string { data := #[111, 108, 100] }) (w.heap.size + 1) (by show w.heap.size + 1 ≠ w.heap.size; omega)).trans HBZ.out) 0 (.int .i64 1)) 1 (.string (tx t))) 2 (.int .u64 u)) 3 (.slice A n c)) 4 (.int .u64 o)) 5 (.int .u64 m)) 6 (.string { data := #[111, 108, 100] }))
  have hbb := (Below.setCell (Below.setCell (Below.setCell (Below.setCell (Below.setCell (Below.setCell (Below.setCell (Below.setCell HB2.out (p := ⟨w.heap.size, 6, none⟩) (show w.heap.size ≤ w.heap.size by omega) (.string { data := #[111, 108, 100] })) (p := ⟨w.heap.size + 1, 0, none⟩) (show w.heap.size ≤ w.heap.size + 1 by omega) (.int .i64 1)) (p := ⟨w.heap.size + 1, 1, none⟩) (show w.heap.size ≤ w.heap.size + 1 by omega) (.string (tx t))) (p := ⟨w.heap.size + 1, 2, none⟩) (show w.heap.size ≤ w.heap.size + 1 by omega) (.int .u64 u)) (p := ⟨w.heap.size + 1, 3, none⟩) (show w.heap.size ≤ w.heap.size + 1 by omega) (.slice A n c)) (p := ⟨w.heap.size + 1, 4, none⟩) (show w.heap.size ≤ w.heap.size + 1 by omega) (.int .u64 o)) (p := ⟨w.heap.size + 1, 5, none⟩) (show w.heap.size ≤ w.heap.size + 1 by omega) (.int .u64 m)) (p := ⟨w.heap.size + 1, 6, none⟩) (show w.heap.size ≤ w.heap.size + 1 by omega) (.string { data := #[111, 108, 100] }))
  refine bodyPost_ret (results_cell_tmp_row rfl _ _ _ _ _ _ _ rfl hfin Try.underlying25 rfl (by kernel_rfl)) rfl ?_
  exact ⟨rfl, hbb⟩

end Go.Proofs.Yteombeomfjkikaa
