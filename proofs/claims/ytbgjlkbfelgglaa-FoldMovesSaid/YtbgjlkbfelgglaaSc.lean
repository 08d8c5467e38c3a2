/- migrate.moved: what isn't a trace. -/
import Derived.Test.YtbgjlkbfelgglaaSb
import Derived.Test.YtbgjlkbfelgglaaRza
import Derived.Test.YtbgjlkbfelgglaaRk
namespace Go.Proofs.Ytbgjlkbfelgglaa
open Go.RowKit

def movedR (v u : Int) (r : Rc) : Rc := if r.kind = 1 then ⟨r.kind, r.target, r.rule, r.out, if v ≤ 1 ∧ 2 ≤ u then 1 else r.time, if v ≤ 2 ∧ 3 ≤ u then [111, 108, 100] else r.tag⟩ else r

set_option maxRecDepth 100000 in
set_option maxHeartbeats 2000000 in
theorem moved_gone (v v2 : Int) (k : Int) (t g : List UInt8) (u o m : Int) (A : Option Addr) (n c : Nat) (l : List Dp) (hA : A = none → c = 0) (hn : n ≤ 1000000) (hk : k ≠ 1) (w : World) (h : Reads w w.heap.size 3 A n (dps l)) :
    Calls Try.prog 34 #[.int .i64 v, .int .i64 v2, rcv ⟨k, t, u, o, m, g⟩ A n c] w fun e w' => ∃ A' c', e = .returned (rcv ⟨k, t, u, o, m, g⟩ A' n c') ∧ Deps w' w.heap.size A' n c' l ∧ Below w.heap.size w w' := by
  have h00 := two_new w (.cells #[.int .i64 k, .string (tx t), .int .u64 u, .slice A n c, .int .u64 o, .int .u64 m, .string (tx g)] 26) (.cells #[.int .i64 0, .string { data := #[] }, .int .u64 0, .slice none 0 0, .int .u64 0, .int .u64 0, .string { data := #[] }] 26)
  have HA0 := Lib.hid h00.1
  have HA1 := Lib.hid h00.2.1
  have HSZ := Lib.hid h00.2.2
  have hb0 := ((Below.refl w.heap.size w).alloc (Nat.le_refl _) (.cells #[.int .i64 k, .string (tx t), .int .u64 u, .slice A n c, .int .u64 o, .int .u64 m, .string (tx g)] 26)).alloc (by simp) (.cells #[.int .i64 0, .string { data := #[] }, .int .u64 0, .slice none 0 0, .int .u64 0, .int .u64 0, .string { data := #[] }] 26)
  have HCL := Lib.hid (rclone_any ⟨k, t, u, o, m, g⟩ A n c l hA hn ((w.alloc (.cells #[.int .i64 k, .string (tx t), .int .u64 u, .slice A n c, .int .u64 o, .int .u64 m, .string (tx g)] 26)).alloc (.cells #[.int .i64 0, .string { data := #[] }, .int .u64 0, .slice none 0 0, .int .u64 0, .int .u64 0, .string { data := #[] }] 26)) ((h.below hb0).more hb0.size))
  have HB0 := Lib.hid hb0
  have q0 := at_cell (i := 0) h00.1 rfl
  have q1 := at_cell (i := 1) h00.1 rfl
  have q2 := at_cell (i := 2) h00.1 rfl
  have q3 := at_cell (i := 3) h00.1 rfl
  have q4 := at_cell (i := 4) h00.1 rfl
  have q5 := at_cell (i := 5) h00.1 rfl
  have q6 := at_cell (i := 6) h00.1 rfl
  clear h00 hb0 h
  unfold rcv rsv at *
  have d1 : decide (k = 1) = false := decide_eq_false hk
  have d2 : (k == 1) = false := by rw [beq_eq_false_iff_ne]; exact hk
  have d3 : (k != 1) = true := by rw [bne_iff_ne]; exact hk
  clear hk
  go_enter Try.func34, Try.ntmps34
  go_wp2_with (go_at_call 26; refine HCL.out.mono ?_; rintro e w2 ⟨A4, c4, rfl, hd4, hb2⟩; have hbx := (hb2.block w.heap.size (by rw [HSZ.out]; omega)).trans HA0.out; have hbz := (hb2.block (w.heap.size + 1) (by rw [HSZ.out]; omega)).trans HA1.out; have HB2 := Lib.hid (HB0.out.trans (hb2.mono HB0.out.size)); have y0 := at_cell (i := 0) hbx rfl; have z0 := at_frozen (i := 0) hbx; have y1 := at_cell (i := 1) hbx rfl; have z1 := at_frozen (i := 1) hbx; have y2 := at_cell (i := 2) hbx rfl; have z2 := at_frozen (i := 2) hbx; have y3 := at_cell (i := 3) hbx rfl; have z3 := at_frozen (i := 3) hbx; have y4 := at_cell (i := 4) hbx rfl; have z4 := at_frozen (i := 4) hbx; have y5 := at_cell (i := 5) hbx rfl; have z5 := at_frozen (i := 5) hbx; have y6 := at_cell (i := 6) hbx rfl; have z6 := at_frozen (i := 6) hbx; have HBX := Lib.hid hbx; have HBZ := Lib.hid hbz; have HD4 := Lib.hid hd4; clear hd4 hbx hbz hb2; have j0 := at_cell (i := 0) HBZ.out rfl; have x0 := at_frozen (i := 0) HBZ.out; have j1 := at_cell (i := 1) HBZ.out rfl; have x1 := at_frozen (i := 1) HBZ.out; have j2 := at_cell (i := 2) HBZ.out rfl; have x2 := at_frozen (i := 2) HBZ.out; have j3 := at_cell (i := 3) HBZ.out rfl; have x3 := at_frozen (i := 3) HBZ.out; have j4 := at_cell (i := 4) HBZ.out rfl; have x4 := at_frozen (i := 4) HBZ.out; have j5 := at_cell (i := 5) HBZ.out rfl; have x5 := at_frozen (i := 5) HBZ.out; have j6 := at_cell (i := 6) HBZ.out rfl; have x6 := at_frozen (i := 6) HBZ.out)
  have hfin := (set_same (set_same (set_same (set_same (set_same (set_same (set_same ((Below.heap_setCell ((((((w2.setCell ⟨w.heap.size, 0, none⟩ (.int .i64 k)).setCell ⟨w.heap.size, 1, none⟩ (.string (tx t))).setCell ⟨w.heap.size, 2, none⟩ (.int .u64 u)).setCell ⟨w.heap.size, 3, none⟩ (.slice A4 n c4)).setCell ⟨w.heap.size, 4, none⟩ (.int .u64 o)).setCell ⟨w.heap.size, 5, none⟩ (.int .u64 m)) ⟨w.heap.size, 6, none⟩ (.string (tx g)) (w.heap.size + 1) (by show w.heap.size + 1 ≠ w.heap.size; omega)).trans ((Below.heap_setCell (((((w2.setCell ⟨w.heap.size, 0, none⟩ (.int .i64 k)).setCell ⟨w.heap.size, 1, none⟩ (.string (tx t))).setCell ⟨w.heap.size, 2, none⟩ (.int .u64 u)).setCell ⟨w.heap.size, 3, none⟩ (.slice A4 n c4)).setCell ⟨w.heap.size, 4, none⟩ (.int .u64 o)) ⟨w.heap.size, 5, none⟩ (.int .u64 m) (w.heap.size + 1) (by show w.heap.size + 1 ≠ w.heap.size; omega)).trans ((Below.heap_setCell ((((w2.setCell ⟨w.heap.size, 0, none⟩ (.int .i64 k)).setCell ⟨w.heap.size, 1, none⟩ (.string (tx t))).setCell ⟨w.heap.size, 2, none⟩ (.int .u64 u)).setCell ⟨w.heap.size, 3, none⟩ (.slice A4 n c4)) ⟨w.heap.size, 4, none⟩ (.int .u64 o) (w.heap.size + 1) (by show w.heap.size + 1 ≠ w.heap.size; omega)).trans ((Below.heap_setCell (((w2.setCell ⟨w.heap.size, 0, none⟩ (.int .i64 k)).setCell ⟨w.heap.size, 1, none⟩ (.string (tx t))).setCell ⟨w.heap.size, 2, none⟩ (.int .u64 u)) ⟨w.heap.size, 3, none⟩ (.slice A4 n c4) (w.heap.size + 1) (by show w.heap.size + 1 ≠ w.heap.size; omega)).trans ((Below.heap_setCell ((w2.setCell ⟨w.heap.size, 0, none⟩ (.int .i64 k)).setCell ⟨w.heap.size, 1, none⟩ (.string (tx t))) ⟨w.heap.size, 2, none⟩ (.int .u64 u) (w.heap.size + 1) (by show w.heap.size + 1 ≠ w.heap.size; omega)).trans ((Below.heap_setCell (w2.setCell ⟨w.heap.size, 0, none⟩ (.int .i64 k)) ⟨w.heap.size, 1, none⟩ (.string (tx t)) (w.heap.size + 1) (by show w.heap.size + 1 ≠ w.heap.size; omega)).trans ((Below.heap_setCell w2 ⟨w.heap.size, 0, none⟩ (.int .i64 k) (w.heap.size + 1) (by show w.heap.size + 1 ≠ w.heap.size; omega)).trans HBZ.out))))))) 0 (.int .i64 k)) 1 (.string (tx t))) 2 (.int .u64 u)) 3 (.slice A4 n c4)) 4 (.int .u64 o)) 5 (.int .u64 m)) 6 (.string (tx g)))
  have hd := HD4.out
  unfold Deps at hd
  rw [HSZ.out] at hd
  have hrow := (ownsRow_setCell_below (ownsRow_setCell_below (ownsRow_setCell_below (ownsRow_setCell_below (ownsRow_setCell_below (ownsRow_setCell_below (ownsRow_setCell_below (ownsRow_setCell_below (ownsRow_setCell_below (ownsRow_setCell_below (ownsRow_setCell_below (ownsRow_setCell_below (ownsRow_setCell_below (ownsRow_setCell_below hd.1 (a := ⟨w.heap.size, 0, none⟩) (show w.heap.size < w.heap.size + 2 by omega) (.int .i64 k)) (a := ⟨w.heap.size, 1, none⟩) (show w.heap.size < w.heap.size + 2 by omega) (.string (tx t))) (a := ⟨w.heap.size, 2, none⟩) (show w.heap.size < w.heap.size + 2 by omega) (.int .u64 u)) (a := ⟨w.heap.size, 3, none⟩) (show w.heap.size < w.heap.size + 2 by omega) (.slice A4 n c4)) (a := ⟨w.heap.size, 4, none⟩) (show w.heap.size < w.heap.size + 2 by omega) (.int .u64 o)) (a := ⟨w.heap.size, 5, none⟩) (show w.heap.size < w.heap.size + 2 by omega) (.int .u64 m)) (a := ⟨w.heap.size, 6, none⟩) (show w.heap.size < w.heap.size + 2 by omega) (.string (tx g))) (a := ⟨w.heap.size + 1, 0, none⟩) (show w.heap.size + 1 < w.heap.size + 2 by omega) (.int .i64 k)) (a := ⟨w.heap.size + 1, 1, none⟩) (show w.heap.size + 1 < w.heap.size + 2 by omega) (.string (tx t))) (a := ⟨w.heap.size + 1, 2, none⟩) (show w.heap.size + 1 < w.heap.size + 2 by omega) (.int .u64 u)) (a := ⟨w.heap.size + 1, 3, none⟩) (show w.heap.size + 1 < w.heap.size + 2 by omega) (.slice A4 n c4)) (a := ⟨w.heap.size + 1, 4, none⟩) (show w.heap.size + 1 < w.heap.size + 2 by omega) (.int .u64 o)) (a := ⟨w.heap.size + 1, 5, none⟩) (show w.heap.size + 1 < w.heap.size + 2 by omega) (.int .u64 m)) (a := ⟨w.heap.size + 1, 6, none⟩) (show w.heap.size + 1 < w.heap.size + 2 by omega) (.string (tx g)))
  have hbl := (Below.setCell (Below.setCell (Below.setCell (Below.setCell (Below.setCell (Below.setCell (Below.setCell (Below.setCell (Below.setCell (Below.setCell (Below.setCell (Below.setCell (Below.setCell (Below.setCell HB2.out (p := ⟨w.heap.size, 0, none⟩) (show w.heap.size ≤ w.heap.size by omega) (.int .i64 k)) (p := ⟨w.heap.size, 1, none⟩) (show w.heap.size ≤ w.heap.size by omega) (.string (tx t))) (p := ⟨w.heap.size, 2, none⟩) (show w.heap.size ≤ w.heap.size by omega) (.int .u64 u)) (p := ⟨w.heap.size, 3, none⟩) (show w.heap.size ≤ w.heap.size by omega) (.slice A4 n c4)) (p := ⟨w.heap.size, 4, none⟩) (show w.heap.size ≤ w.heap.size by omega) (.int .u64 o)) (p := ⟨w.heap.size, 5, none⟩) (show w.heap.size ≤ w.heap.size by omega) (.int .u64 m)) (p := ⟨w.heap.size, 6, none⟩) (show w.heap.size ≤ w.heap.size by omega) (.string (tx g))) (p := ⟨w.heap.size + 1, 0, none⟩) (show w.heap.size ≤ w.heap.size + 1 by omega) (.int .i64 k)) (p := ⟨w.heap.size + 1, 1, none⟩) (show w.heap.size ≤ w.heap.size + 1 by omega) (.string (tx t))) (p := ⟨w.heap.size + 1, 2, none⟩) (show w.heap.size ≤ w.heap.size + 1 by omega) (.int .u64 u)) (p := ⟨w.heap.size + 1, 3, none⟩) (show w.heap.size ≤ w.heap.size + 1 by omega) (.slice A4 n c4)) (p := ⟨w.heap.size + 1, 4, none⟩) (show w.heap.size ≤ w.heap.size + 1 by omega) (.int .u64 o)) (p := ⟨w.heap.size + 1, 5, none⟩) (show w.heap.size ≤ w.heap.size + 1 by omega) (.int .u64 m)) (p := ⟨w.heap.size + 1, 6, none⟩) (show w.heap.size ≤ w.heap.size + 1 by omega) (.string (tx g)))
  refine bodyPost_ret (results_cell_row rfl _ _ _ _ _ _ _ rfl hfin Try.underlying26 rfl (by kernel_rfl)) rfl ?_
  exact ⟨A4, c4, rfl, ⟨own_less hrow (show w.heap.size ≤ w.heap.size + 2 by omega), hd.2⟩, hbl⟩

set_option maxRecDepth 100000 in
set_option maxHeartbeats 2000000 in
theorem moved_11 (t g : List UInt8) (u o m : Int) (A : Option Addr) (n c : Nat) (l : List Dp) (hA : A = none → c = 0) (hn : n ≤ 1000000) (w : World) (h : Reads w w.heap.size 3 A n (dps l)) :
    Calls Try.prog 34 #[.int .i64 1, .int .i64 1, rcv ⟨1, t, u, o, m, g⟩ A n c] w fun e w' => ∃ A' c', e = .returned (rcv ⟨1, t, u, o, m, g⟩ A' n c') ∧ Deps w' w.heap.size A' n c' l ∧ Below w.heap.size w w' := by
  have h00 := two_new w (.cells #[.int .i64 1, .string (tx t), .int .u64 u, .slice A n c, .int .u64 o, .int .u64 m, .string (tx g)] 26) (.cells #[.int .i64 0, .string { data := #[] }, .int .u64 0, .slice none 0 0, .int .u64 0, .int .u64 0, .string { data := #[] }] 26)
  have HA0 := Lib.hid h00.1
  have HA1 := Lib.hid h00.2.1
  have HSZ := Lib.hid h00.2.2
  have hb0 := ((Below.refl w.heap.size w).alloc (Nat.le_refl _) (.cells #[.int .i64 1, .string (tx t), .int .u64 u, .slice A n c, .int .u64 o, .int .u64 m, .string (tx g)] 26)).alloc (by simp) (.cells #[.int .i64 0, .string { data := #[] }, .int .u64 0, .slice none 0 0, .int .u64 0, .int .u64 0, .string { data := #[] }] 26)
  have HCL := Lib.hid (rclone_any ⟨1, t, u, o, m, g⟩ A n c l hA hn ((w.alloc (.cells #[.int .i64 1, .string (tx t), .int .u64 u, .slice A n c, .int .u64 o, .int .u64 m, .string (tx g)] 26)).alloc (.cells #[.int .i64 0, .string { data := #[] }, .int .u64 0, .slice none 0 0, .int .u64 0, .int .u64 0, .string { data := #[] }] 26)) ((h.below hb0).more hb0.size))
  have HB0 := Lib.hid hb0
  have q0 := at_cell (i := 0) h00.1 rfl
  have q1 := at_cell (i := 1) h00.1 rfl
  have q2 := at_cell (i := 2) h00.1 rfl
  have q3 := at_cell (i := 3) h00.1 rfl
  have q4 := at_cell (i := 4) h00.1 rfl
  have q5 := at_cell (i := 5) h00.1 rfl
  have q6 := at_cell (i := 6) h00.1 rfl
  clear h00 hb0 h
  unfold rcv rsv at *
  go_enter Try.func34, Try.ntmps34
  go_wp2_with (first
    | (go_at_call 40; have hk := HB2.out.size; refine (steps_any _).mono ?_; rintro e w3 ⟨rfl, hb3⟩; have hd := HD4.out; unfold Deps at hd; rw [HSZ.out] at hd; have hfin := (set_same (set_same (set_same (set_same (set_same (set_same (set_same HBX.out 0 (.int .i64 1)) 1 (.string (tx t))) 2 (.int .u64 u)) 3 (.slice A4 n c4)) 4 (.int .u64 o)) 5 (.int .u64 m)) 6 (.string (tx g))); have hzz := ((Below.heap_setCell ((((((w2.setCell ⟨w.heap.size, 0, none⟩ (.int .i64 1)).setCell ⟨w.heap.size, 1, none⟩ (.string (tx t))).setCell ⟨w.heap.size, 2, none⟩ (.int .u64 u)).setCell ⟨w.heap.size, 3, none⟩ (.slice A4 n c4)).setCell ⟨w.heap.size, 4, none⟩ (.int .u64 o)).setCell ⟨w.heap.size, 5, none⟩ (.int .u64 m)) ⟨w.heap.size, 6, none⟩ (.string (tx g)) (w.heap.size + 1) (by show w.heap.size + 1 ≠ w.heap.size; omega)).trans ((Below.heap_setCell (((((w2.setCell ⟨w.heap.size, 0, none⟩ (.int .i64 1)).setCell ⟨w.heap.size, 1, none⟩ (.string (tx t))).setCell ⟨w.heap.size, 2, none⟩ (.int .u64 u)).setCell ⟨w.heap.size, 3, none⟩ (.slice A4 n c4)).setCell ⟨w.heap.size, 4, none⟩ (.int .u64 o)) ⟨w.heap.size, 5, none⟩ (.int .u64 m) (w.heap.size + 1) (by show w.heap.size + 1 ≠ w.heap.size; omega)).trans ((Below.heap_setCell ((((w2.setCell ⟨w.heap.size, 0, none⟩ (.int .i64 1)).setCell ⟨w.heap.size, 1, none⟩ (.string (tx t))).setCell ⟨w.heap.size, 2, none⟩ (.int .u64 u)).setCell ⟨w.heap.size, 3, none⟩ (.slice A4 n c4)) ⟨w.heap.size, 4, none⟩ (.int .u64 o) (w.heap.size + 1) (by show w.heap.size + 1 ≠ w.heap.size; omega)).trans ((Below.heap_setCell (((w2.setCell ⟨w.heap.size, 0, none⟩ (.int .i64 1)).setCell ⟨w.heap.size, 1, none⟩ (.string (tx t))).setCell ⟨w.heap.size, 2, none⟩ (.int .u64 u)) ⟨w.heap.size, 3, none⟩ (.slice A4 n c4) (w.heap.size + 1) (by show w.heap.size + 1 ≠ w.heap.size; omega)).trans ((Below.heap_setCell ((w2.setCell ⟨w.heap.size, 0, none⟩ (.int .i64 1)).setCell ⟨w.heap.size, 1, none⟩ (.string (tx t))) ⟨w.heap.size, 2, none⟩ (.int .u64 u) (w.heap.size + 1) (by show w.heap.size + 1 ≠ w.heap.size; omega)).trans ((Below.heap_setCell (w2.setCell ⟨w.heap.size, 0, none⟩ (.int .i64 1)) ⟨w.heap.size, 1, none⟩ (.string (tx t)) (w.heap.size + 1) (by show w.heap.size + 1 ≠ w.heap.size; omega)).trans ((Below.heap_setCell w2 ⟨w.heap.size, 0, none⟩ (.int .i64 1) (w.heap.size + 1) (by show w.heap.size + 1 ≠ w.heap.size; omega)).trans HBZ.out))))))); have hrow := (ownsRow_setCell_below (ownsRow_setCell_below (ownsRow_setCell_below (ownsRow_setCell_below (ownsRow_setCell_below (ownsRow_setCell_below (ownsRow_setCell_below hd.1 (a := ⟨w.heap.size, 0, none⟩) (show w.heap.size < w.heap.size + 2 by omega) (.int .i64 1)) (a := ⟨w.heap.size, 1, none⟩) (show w.heap.size < w.heap.size + 2 by omega) (.string (tx t))) (a := ⟨w.heap.size, 2, none⟩) (show w.heap.size < w.heap.size + 2 by omega) (.int .u64 u)) (a := ⟨w.heap.size, 3, none⟩) (show w.heap.size < w.heap.size + 2 by omega) (.slice A4 n c4)) (a := ⟨w.heap.size, 4, none⟩) (show w.heap.size < w.heap.size + 2 by omega) (.int .u64 o)) (a := ⟨w.heap.size, 5, none⟩) (show w.heap.size < w.heap.size + 2 by omega) (.int .u64 m)) (a := ⟨w.heap.size, 6, none⟩) (show w.heap.size < w.heap.size + 2 by omega) (.string (tx g))); have hbl := (Below.setCell (Below.setCell (Below.setCell (Below.setCell (Below.setCell (Below.setCell (Below.setCell HB2.out (p := ⟨w.heap.size, 0, none⟩) (show w.heap.size ≤ w.heap.size by omega) (.int .i64 1)) (p := ⟨w.heap.size, 1, none⟩) (show w.heap.size ≤ w.heap.size by omega) (.string (tx t))) (p := ⟨w.heap.size, 2, none⟩) (show w.heap.size ≤ w.heap.size by omega) (.int .u64 u)) (p := ⟨w.heap.size, 3, none⟩) (show w.heap.size ≤ w.heap.size by omega) (.slice A4 n c4)) (p := ⟨w.heap.size, 4, none⟩) (show w.heap.size ≤ w.heap.size by omega) (.int .u64 o)) (p := ⟨w.heap.size, 5, none⟩) (show w.heap.size ≤ w.heap.size by omega) (.int .u64 m)) (p := ⟨w.heap.size, 6, none⟩) (show w.heap.size ≤ w.heap.size by omega) (.string (tx g))); have hzs : w.heap.size + 2 ≤ ((((((((w2.setCell ⟨w.heap.size, 0, none⟩ (.int .i64 1)).setCell ⟨w.heap.size, 1, none⟩ (.string (tx t))).setCell ⟨w.heap.size, 2, none⟩ (.int .u64 u)).setCell ⟨w.heap.size, 3, none⟩ (.slice A4 n c4)).setCell ⟨w.heap.size, 4, none⟩ (.int .u64 o)).setCell ⟨w.heap.size, 5, none⟩ (.int .u64 m)).setCell ⟨w.heap.size, 6, none⟩ (.string (tx g)))).heap.size := (by have h1 := W2Z.out; simpa [World.setCell] using h1); have HC3 := Lib.hid hd.2; have hbx3 := Lib.hid ((hb3.block w.heap.size (by omega)).trans hfin); have hbz3 := Lib.hid ((hb3.block (w.heap.size + 1) (by omega)).trans hzz); have hrow3 := Lib.hid (own_below hrow hb3); have HB3 := Lib.hid (hbl.trans (hb3.mono hbl.size)); have HW3 : Hid (w.heap.size + 2 ≤ w3.heap.size) := (Nat.le_trans hzs hb3.size); unfold stepsV; clear hd hfin hzz hrow hbl hzs hb3)
    | (go_at_call 26; refine HCL.out.mono ?_; rintro e w2 ⟨A4, c4, rfl, hd4, hb2⟩; have hbx := (hb2.block w.heap.size (by rw [HSZ.out]; omega)).trans HA0.out; have hbz := (hb2.block (w.heap.size + 1) (by rw [HSZ.out]; omega)).trans HA1.out; have HB2 := Lib.hid (HB0.out.trans (hb2.mono HB0.out.size)); have y0 := at_cell (i := 0) hbx rfl; have z0 := at_frozen (i := 0) hbx; have y1 := at_cell (i := 1) hbx rfl; have z1 := at_frozen (i := 1) hbx; have y2 := at_cell (i := 2) hbx rfl; have z2 := at_frozen (i := 2) hbx; have y3 := at_cell (i := 3) hbx rfl; have z3 := at_frozen (i := 3) hbx; have y4 := at_cell (i := 4) hbx rfl; have z4 := at_frozen (i := 4) hbx; have y5 := at_cell (i := 5) hbx rfl; have z5 := at_frozen (i := 5) hbx; have y6 := at_cell (i := 6) hbx rfl; have z6 := at_frozen (i := 6) hbx; have HBX := Lib.hid hbx; have HBZ := Lib.hid hbz; have HD4 := Lib.hid hd4; have W2Z : Hid (w.heap.size + 2 ≤ w2.heap.size) := (by have h1 := hb2.size; have h2 := HSZ.out; show _ ≤ _; omega); clear hd4 hbx hbz hb2))
  have hs4 : Hid (w.heap.size + 2 ≤ (w3.alloc (.cells #[.func (.func 45) #[] #[], .func (.func 46) #[] #[]] 69)).heap.size) := by have h1 := HW3.out; show _ ≤ _; simp; omega
  have HST4 := Lib.hid (one_new w3 (.cells #[.func (.func 45) #[] #[], .func (.func 46) #[] #[]] 69))
  have HBX4 := Lib.hid ((Below.heap_alloc w3 (.cells #[.func (.func 45) #[] #[], .func (.func 46) #[] #[]] 69) w.heap.size (by have := HW3.out; omega)).trans hbx3.out)
  have HBZ4 := Lib.hid ((Below.heap_alloc w3 (.cells #[.func (.func 45) #[] #[], .func (.func 46) #[] #[]] 69) (w.heap.size + 1) (by have := HW3.out; omega)).trans hbz3.out)
  have HROW4 := Lib.hid (World.ownsRow.alloc hrow3.out (.cells #[.func (.func 45) #[] #[], .func (.func 46) #[] #[]] 69))
  have HB4 := Lib.hid (HB3.out.alloc HB3.out.size (.cells #[.func (.func 45) #[] #[], .func (.func 46) #[] #[]] 69))
  have HLT4 : Hid (w3.heap.size < (w3.alloc (.cells #[.func (.func 45) #[] #[], .func (.func 46) #[] #[]] 69)).heap.size) := by show _ < _; simp
  have hw3 := HW3.out
  go_loopw [23] (fun idx wr => ∃ (i : Nat) (cs : Array Value), i ≤ 0 ∧ idx = .int .i64 (i : Int) ∧ ([#[.int .i64 1, .string (tx t), .int .u64 u, .slice A4 n c4, .int .u64 o, .int .u64 m, .string (tx g)]] : List (Array Value))[i]? = some cs ∧ wr.heap[w.heap.size]? = some (.cells cs 26 (0, 0)) ∧ wr.heap[w.heap.size + 1]? = some (.cells #[.int .i64 0, .string { data := #[] }, .int .u64 0, .slice none 0 0, .int .u64 0, .int .u64 0, .string { data := #[] }] 26 (0, 0)) ∧ wr.heap[w3.heap.size]? = some (.cells #[.func (.func 45) #[] #[], .func (.func 46) #[] #[]] 69 (0, 0)) ∧ wr.ownsRow (w.heap.size + 2) 34 3 (.slice A4 n c4) n (dps l) ∧ Below w.heap.size w wr ∧ w3.heap.size < wr.heap.size) (fun idx wr => 0 - (intOf idx).toNat)
  case atStart => exact ⟨0, _, by omega, rfl, rfl, HBX4.out, HBZ4.out, HST4.out, HROW4.out, HB4.out, HLT4.out⟩
  case round =>
    obtain ⟨i, cs, hi, rfl, hcs, hbx, hbz, hst, hrow, hbl, hlt⟩ := hrel
    have HBX := Lib.hid hbx
    have HBZ := Lib.hid hbz
    have HST := Lib.hid hst
    have HROW := Lib.hid hrow
    have HBL := Lib.hid hbl
    have HLT := Lib.hid hlt
    have s0 := at_cell (i := 0) hst rfl
    have s1 := at_cell (i := 1) hst rfl
    obtain rfl : i = 0 := by omega
    · obtain rfl : #[.int .i64 1, .string (tx t), .int .u64 u, .slice A4 n c4, .int .u64 o, .int .u64 m, .string (tx g)] = cs := by injection hcs
      have y0 := at_cell (i := 0) hbx rfl
      have j0 := at_cell (i := 0) hbz rfl
      have x0 := at_frozen (i := 0) hbz
      have y1 := at_cell (i := 1) hbx rfl
      have j1 := at_cell (i := 1) hbz rfl
      have x1 := at_frozen (i := 1) hbz
      have y2 := at_cell (i := 2) hbx rfl
      have j2 := at_cell (i := 2) hbz rfl
      have x2 := at_frozen (i := 2) hbz
      have y3 := at_cell (i := 3) hbx rfl
      have j3 := at_cell (i := 3) hbz rfl
      have x3 := at_frozen (i := 3) hbz
      have y4 := at_cell (i := 4) hbx rfl
      have j4 := at_cell (i := 4) hbz rfl
      have x4 := at_frozen (i := 4) hbz
      have y5 := at_cell (i := 5) hbx rfl
      have j5 := at_cell (i := 5) hbz rfl
      have x5 := at_frozen (i := 5) hbz
      have y6 := at_cell (i := 6) hbx rfl
      have j6 := at_cell (i := 6) hbz rfl
      have x6 := at_frozen (i := 6) hbz
      have hfin := (set_same (set_same (set_same (set_same (set_same (set_same (set_same hbz 0 (.int .i64 1)) 1 (.string (tx t))) 2 (.int .u64 u)) 3 (.slice A4 n c4)) 4 (.int .u64 o)) 5 (.int .u64 m)) 6 (.string (tx g)))
      have hrw := (ownsRow_setCell_below (ownsRow_setCell_below (ownsRow_setCell_below (ownsRow_setCell_below (ownsRow_setCell_below (ownsRow_setCell_below (ownsRow_setCell_below hrow (a := ⟨w.heap.size + 1, 0, none⟩) (show w.heap.size + 1 < w.heap.size + 2 by omega) (.int .i64 1)) (a := ⟨w.heap.size + 1, 1, none⟩) (show w.heap.size + 1 < w.heap.size + 2 by omega) (.string (tx t))) (a := ⟨w.heap.size + 1, 2, none⟩) (show w.heap.size + 1 < w.heap.size + 2 by omega) (.int .u64 u)) (a := ⟨w.heap.size + 1, 3, none⟩) (show w.heap.size + 1 < w.heap.size + 2 by omega) (.slice A4 n c4)) (a := ⟨w.heap.size + 1, 4, none⟩) (show w.heap.size + 1 < w.heap.size + 2 by omega) (.int .u64 o)) (a := ⟨w.heap.size + 1, 5, none⟩) (show w.heap.size + 1 < w.heap.size + 2 by omega) (.int .u64 m)) (a := ⟨w.heap.size + 1, 6, none⟩) (show w.heap.size + 1 < w.heap.size + 2 by omega) (.string (tx g)))
      have hbb := (Below.setCell (Below.setCell (Below.setCell (Below.setCell (Below.setCell (Below.setCell (Below.setCell hbl (p := ⟨w.heap.size + 1, 0, none⟩) (show w.heap.size ≤ w.heap.size + 1 by omega) (.int .i64 1)) (p := ⟨w.heap.size + 1, 1, none⟩) (show w.heap.size ≤ w.heap.size + 1 by omega) (.string (tx t))) (p := ⟨w.heap.size + 1, 2, none⟩) (show w.heap.size ≤ w.heap.size + 1 by omega) (.int .u64 u)) (p := ⟨w.heap.size + 1, 3, none⟩) (show w.heap.size ≤ w.heap.size + 1 by omega) (.slice A4 n c4)) (p := ⟨w.heap.size + 1, 4, none⟩) (show w.heap.size ≤ w.heap.size + 1 by omega) (.int .u64 o)) (p := ⟨w.heap.size + 1, 5, none⟩) (show w.heap.size ≤ w.heap.size + 1 by omega) (.int .u64 m)) (p := ⟨w.heap.size + 1, 6, none⟩) (show w.heap.size ≤ w.heap.size + 1 by omega) (.string (tx g)))
      have HFIN := Lib.hid hfin
      have HRW := Lib.hid hrw
      have HBB := Lib.hid hbb
      clear hcs hbx hbz hst hrow hbl hlt hfin hrw hbb
      go_wp2
      refine bodyPost_ret (results_cell_row rfl _ _ _ _ _ _ _ rfl HFIN.out Try.underlying26 rfl (by kernel_rfl)) rfl ?_
      exact ⟨A4, c4, rfl, ⟨own_less HRW.out (show w.heap.size ≤ w.heap.size + 2 by omega), HC3.out⟩, HBB.out⟩

set_option maxRecDepth 100000 in
set_option maxHeartbeats 2000000 in
theorem moved_12 (t g : List UInt8) (u o m : Int) (A : Option Addr) (n c : Nat) (l : List Dp) (hA : A = none → c = 0) (hn : n ≤ 1000000) (w : World) (h : Reads w w.heap.size 3 A n (dps l)) :
    Calls Try.prog 34 #[.int .i64 1, .int .i64 2, rcv ⟨1, t, u, o, m, g⟩ A n c] w fun e w' => ∃ A' c', e = .returned (rcv ⟨1, t, u, o, 1, g⟩ A' n c') ∧ Deps w' w.heap.size A' n c' l ∧ Below w.heap.size w w' := by
  have h00 := two_new w (.cells #[.int .i64 1, .string (tx t), .int .u64 u, .slice A n c, .int .u64 o, .int .u64 m, .string (tx g)] 26) (.cells #[.int .i64 0, .string { data := #[] }, .int .u64 0, .slice none 0 0, .int .u64 0, .int .u64 0, .string { data := #[] }] 26)
  have HA0 := Lib.hid h00.1
  have HA1 := Lib.hid h00.2.1
  have HSZ := Lib.hid h00.2.2
  have hb0 := ((Below.refl w.heap.size w).alloc (Nat.le_refl _) (.cells #[.int .i64 1, .string (tx t), .int .u64 u, .slice A n c, .int .u64 o, .int .u64 m, .string (tx g)] 26)).alloc (by simp) (.cells #[.int .i64 0, .string { data := #[] }, .int .u64 0, .slice none 0 0, .int .u64 0, .int .u64 0, .string { data := #[] }] 26)
  have HCL := Lib.hid (rclone_any ⟨1, t, u, o, m, g⟩ A n c l hA hn ((w.alloc (.cells #[.int .i64 1, .string (tx t), .int .u64 u, .slice A n c, .int .u64 o, .int .u64 m, .string (tx g)] 26)).alloc (.cells #[.int .i64 0, .string { data := #[] }, .int .u64 0, .slice none 0 0, .int .u64 0, .int .u64 0, .string { data := #[] }] 26)) ((h.below hb0).more hb0.size))
  have HB0 := Lib.hid hb0
  have q0 := at_cell (i := 0) h00.1 rfl
  have q1 := at_cell (i := 1) h00.1 rfl
  have q2 := at_cell (i := 2) h00.1 rfl
  have q3 := at_cell (i := 3) h00.1 rfl
  have q4 := at_cell (i := 4) h00.1 rfl
  have q5 := at_cell (i := 5) h00.1 rfl
  have q6 := at_cell (i := 6) h00.1 rfl
  clear h00 hb0 h
  unfold rcv rsv at *
  go_enter Try.func34, Try.ntmps34
  go_wp2_with (first
    | (go_at_call 40; have hk := HB2.out.size; refine (steps_any _).mono ?_; rintro e w3 ⟨rfl, hb3⟩; have hd := HD4.out; unfold Deps at hd; rw [HSZ.out] at hd; have hfin := (set_same (set_same (set_same (set_same (set_same (set_same (set_same HBX.out 0 (.int .i64 1)) 1 (.string (tx t))) 2 (.int .u64 u)) 3 (.slice A4 n c4)) 4 (.int .u64 o)) 5 (.int .u64 m)) 6 (.string (tx g))); have hzz := ((Below.heap_setCell ((((((w2.setCell ⟨w.heap.size, 0, none⟩ (.int .i64 1)).setCell ⟨w.heap.size, 1, none⟩ (.string (tx t))).setCell ⟨w.heap.size, 2, none⟩ (.int .u64 u)).setCell ⟨w.heap.size, 3, none⟩ (.slice A4 n c4)).setCell ⟨w.heap.size, 4, none⟩ (.int .u64 o)).setCell ⟨w.heap.size, 5, none⟩ (.int .u64 m)) ⟨w.heap.size, 6, none⟩ (.string (tx g)) (w.heap.size + 1) (by show w.heap.size + 1 ≠ w.heap.size; omega)).trans ((Below.heap_setCell (((((w2.setCell ⟨w.heap.size, 0, none⟩ (.int .i64 1)).setCell ⟨w.heap.size, 1, none⟩ (.string (tx t))).setCell ⟨w.heap.size, 2, none⟩ (.int .u64 u)).setCell ⟨w.heap.size, 3, none⟩ (.slice A4 n c4)).setCell ⟨w.heap.size, 4, none⟩ (.int .u64 o)) ⟨w.heap.size, 5, none⟩ (.int .u64 m) (w.heap.size + 1) (by show w.heap.size + 1 ≠ w.heap.size; omega)).trans ((Below.heap_setCell ((((w2.setCell ⟨w.heap.size, 0, none⟩ (.int .i64 1)).setCell ⟨w.heap.size, 1, none⟩ (.string (tx t))).setCell ⟨w.heap.size, 2, none⟩ (.int .u64 u)).setCell ⟨w.heap.size, 3, none⟩ (.slice A4 n c4)) ⟨w.heap.size, 4, none⟩ (.int .u64 o) (w.heap.size + 1) (by show w.heap.size + 1 ≠ w.heap.size; omega)).trans ((Below.heap_setCell (((w2.setCell ⟨w.heap.size, 0, none⟩ (.int .i64 1)).setCell ⟨w.heap.size, 1, none⟩ (.string (tx t))).setCell ⟨w.heap.size, 2, none⟩ (.int .u64 u)) ⟨w.heap.size, 3, none⟩ (.slice A4 n c4) (w.heap.size + 1) (by show w.heap.size + 1 ≠ w.heap.size; omega)).trans ((Below.heap_setCell ((w2.setCell ⟨w.heap.size, 0, none⟩ (.int .i64 1)).setCell ⟨w.heap.size, 1, none⟩ (.string (tx t))) ⟨w.heap.size, 2, none⟩ (.int .u64 u) (w.heap.size + 1) (by show w.heap.size + 1 ≠ w.heap.size; omega)).trans ((Below.heap_setCell (w2.setCell ⟨w.heap.size, 0, none⟩ (.int .i64 1)) ⟨w.heap.size, 1, none⟩ (.string (tx t)) (w.heap.size + 1) (by show w.heap.size + 1 ≠ w.heap.size; omega)).trans ((Below.heap_setCell w2 ⟨w.heap.size, 0, none⟩ (.int .i64 1) (w.heap.size + 1) (by show w.heap.size + 1 ≠ w.heap.size; omega)).trans HBZ.out))))))); have hrow := (ownsRow_setCell_below (ownsRow_setCell_below (ownsRow_setCell_below (ownsRow_setCell_below (ownsRow_setCell_below (ownsRow_setCell_below (ownsRow_setCell_below hd.1 (a := ⟨w.heap.size, 0, none⟩) (show w.heap.size < w.heap.size + 2 by omega) (.int .i64 1)) (a := ⟨w.heap.size, 1, none⟩) (show w.heap.size < w.heap.size + 2 by omega) (.string (tx t))) (a := ⟨w.heap.size, 2, none⟩) (show w.heap.size < w.heap.size + 2 by omega) (.int .u64 u)) (a := ⟨w.heap.size, 3, none⟩) (show w.heap.size < w.heap.size + 2 by omega) (.slice A4 n c4)) (a := ⟨w.heap.size, 4, none⟩) (show w.heap.size < w.heap.size + 2 by omega) (.int .u64 o)) (a := ⟨w.heap.size, 5, none⟩) (show w.heap.size < w.heap.size + 2 by omega) (.int .u64 m)) (a := ⟨w.heap.size, 6, none⟩) (show w.heap.size < w.heap.size + 2 by omega) (.string (tx g))); have hbl := (Below.setCell (Below.setCell (Below.setCell (Below.setCell (Below.setCell (Below.setCell (Below.setCell HB2.out (p := ⟨w.heap.size, 0, none⟩) (show w.heap.size ≤ w.heap.size by omega) (.int .i64 1)) (p := ⟨w.heap.size, 1, none⟩) (show w.heap.size ≤ w.heap.size by omega) (.string (tx t))) (p := ⟨w.heap.size, 2, none⟩) (show w.heap.size ≤ w.heap.size by omega) (.int .u64 u)) (p := ⟨w.heap.size, 3, none⟩) (show w.heap.size ≤ w.heap.size by omega) (.slice A4 n c4)) (p := ⟨w.heap.size, 4, none⟩) (show w.heap.size ≤ w.heap.size by omega) (.int .u64 o)) (p := ⟨w.heap.size, 5, none⟩) (show w.heap.size ≤ w.heap.size by omega) (.int .u64 m)) (p := ⟨w.heap.size, 6, none⟩) (show w.heap.size ≤ w.heap.size by omega) (.string (tx g))); have hzs : w.heap.size + 2 ≤ ((((((((w2.setCell ⟨w.heap.size, 0, none⟩ (.int .i64 1)).setCell ⟨w.heap.size, 1, none⟩ (.string (tx t))).setCell ⟨w.heap.size, 2, none⟩ (.int .u64 u)).setCell ⟨w.heap.size, 3, none⟩ (.slice A4 n c4)).setCell ⟨w.heap.size, 4, none⟩ (.int .u64 o)).setCell ⟨w.heap.size, 5, none⟩ (.int .u64 m)).setCell ⟨w.heap.size, 6, none⟩ (.string (tx g)))).heap.size := (by have h1 := W2Z.out; simpa [World.setCell] using h1); have HC3 := Lib.hid hd.2; have hbx3 := Lib.hid ((hb3.block w.heap.size (by omega)).trans hfin); have hbz3 := Lib.hid ((hb3.block (w.heap.size + 1) (by omega)).trans hzz); have hrow3 := Lib.hid (own_below hrow hb3); have HB3 := Lib.hid (hbl.trans (hb3.mono hbl.size)); have HW3 : Hid (w.heap.size + 2 ≤ w3.heap.size) := (Nat.le_trans hzs hb3.size); unfold stepsV; clear hd hfin hzz hrow hbl hzs hb3)
    | (go_at_call 26; refine HCL.out.mono ?_; rintro e w2 ⟨A4, c4, rfl, hd4, hb2⟩; have hbx := (hb2.block w.heap.size (by rw [HSZ.out]; omega)).trans HA0.out; have hbz := (hb2.block (w.heap.size + 1) (by rw [HSZ.out]; omega)).trans HA1.out; have HB2 := Lib.hid (HB0.out.trans (hb2.mono HB0.out.size)); have y0 := at_cell (i := 0) hbx rfl; have z0 := at_frozen (i := 0) hbx; have y1 := at_cell (i := 1) hbx rfl; have z1 := at_frozen (i := 1) hbx; have y2 := at_cell (i := 2) hbx rfl; have z2 := at_frozen (i := 2) hbx; have y3 := at_cell (i := 3) hbx rfl; have z3 := at_frozen (i := 3) hbx; have y4 := at_cell (i := 4) hbx rfl; have z4 := at_frozen (i := 4) hbx; have y5 := at_cell (i := 5) hbx rfl; have z5 := at_frozen (i := 5) hbx; have y6 := at_cell (i := 6) hbx rfl; have z6 := at_frozen (i := 6) hbx; have HBX := Lib.hid hbx; have HBZ := Lib.hid hbz; have HD4 := Lib.hid hd4; have W2Z : Hid (w.heap.size + 2 ≤ w2.heap.size) := (by have h1 := hb2.size; have h2 := HSZ.out; show _ ≤ _; omega); clear hd4 hbx hbz hb2))
  have hs4 : Hid (w.heap.size + 2 ≤ (w3.alloc (.cells #[.func (.func 45) #[] #[], .func (.func 46) #[] #[]] 69)).heap.size) := by have h1 := HW3.out; show _ ≤ _; simp; omega
  have HST4 := Lib.hid (one_new w3 (.cells #[.func (.func 45) #[] #[], .func (.func 46) #[] #[]] 69))
  have HBX4 := Lib.hid ((Below.heap_alloc w3 (.cells #[.func (.func 45) #[] #[], .func (.func 46) #[] #[]] 69) w.heap.size (by have := HW3.out; omega)).trans hbx3.out)
  have HBZ4 := Lib.hid ((Below.heap_alloc w3 (.cells #[.func (.func 45) #[] #[], .func (.func 46) #[] #[]] 69) (w.heap.size + 1) (by have := HW3.out; omega)).trans hbz3.out)
  have HROW4 := Lib.hid (World.ownsRow.alloc hrow3.out (.cells #[.func (.func 45) #[] #[], .func (.func 46) #[] #[]] 69))
  have HB4 := Lib.hid (HB3.out.alloc HB3.out.size (.cells #[.func (.func 45) #[] #[], .func (.func 46) #[] #[]] 69))
  have HLT4 : Hid (w3.heap.size < (w3.alloc (.cells #[.func (.func 45) #[] #[], .func (.func 46) #[] #[]] 69)).heap.size) := by show _ < _; simp
  have hw3 := HW3.out
  go_loopw [23] (fun idx wr => ∃ (i : Nat) (cs : Array Value), i ≤ 1 ∧ idx = .int .i64 (i : Int) ∧ ([#[.int .i64 1, .string (tx t), .int .u64 u, .slice A4 n c4, .int .u64 o, .int .u64 m, .string (tx g)], #[.int .i64 1, .string (tx t), .int .u64 u, .slice A4 n c4, .int .u64 o, .int .u64 1, .string (tx g)]] : List (Array Value))[i]? = some cs ∧ wr.heap[w.heap.size]? = some (.cells cs 26 (0, 0)) ∧ wr.heap[w.heap.size + 1]? = some (.cells #[.int .i64 0, .string { data := #[] }, .int .u64 0, .slice none 0 0, .int .u64 0, .int .u64 0, .string { data := #[] }] 26 (0, 0)) ∧ wr.heap[w3.heap.size]? = some (.cells #[.func (.func 45) #[] #[], .func (.func 46) #[] #[]] 69 (0, 0)) ∧ wr.ownsRow (w.heap.size + 2) 34 3 (.slice A4 n c4) n (dps l) ∧ Below w.heap.size w wr ∧ w3.heap.size < wr.heap.size) (fun idx wr => 1 - (intOf idx).toNat)
  case atStart => exact ⟨0, _, by omega, rfl, rfl, HBX4.out, HBZ4.out, HST4.out, HROW4.out, HB4.out, HLT4.out⟩
  case round =>
    obtain ⟨i, cs, hi, rfl, hcs, hbx, hbz, hst, hrow, hbl, hlt⟩ := hrel
    have HBX := Lib.hid hbx
    have HBZ := Lib.hid hbz
    have HST := Lib.hid hst
    have HROW := Lib.hid hrow
    have HBL := Lib.hid hbl
    have HLT := Lib.hid hlt
    have s0 := at_cell (i := 0) hst rfl
    have s1 := at_cell (i := 1) hst rfl
    obtain rfl | rfl : i = 0 ∨ i = 1 := by omega
    · obtain rfl : #[.int .i64 1, .string (tx t), .int .u64 u, .slice A4 n c4, .int .u64 o, .int .u64 m, .string (tx g)] = cs := by injection hcs
      have hab := (Below.heap_alloc wr (.cells #[.func (.func 45) #[] #[]] 68) w.heap.size (by omega)).trans hbx
      have HSTEP := Lib.hid (step1_any w.heap.size #[.int .i64 1, .string (tx t), .int .u64 u, .slice A4 n c4, .int .u64 o, .int .u64 m, .string (tx g)] (wr.alloc (.cells #[.func (.func 45) #[] #[]] 68)) hab _ rfl)
      have HN1 := Lib.hid (set_same hab 5 (.int .u64 1))
      have HN2 := Lib.hid ((Below.heap_setCell (wr.alloc (.cells #[.func (.func 45) #[] #[]] 68)) ⟨w.heap.size, 5, none⟩ (.int .u64 1) (w.heap.size + 1) (by show w.heap.size + 1 ≠ w.heap.size; omega)).trans ((Below.heap_alloc wr (.cells #[.func (.func 45) #[] #[]] 68) (w.heap.size + 1) (by omega)).trans hbz))
      have HN3 := Lib.hid ((Below.heap_setCell (wr.alloc (.cells #[.func (.func 45) #[] #[]] 68)) ⟨w.heap.size, 5, none⟩ (.int .u64 1) w3.heap.size (by show w3.heap.size ≠ w.heap.size; omega)).trans ((Below.heap_alloc wr (.cells #[.func (.func 45) #[] #[]] 68) w3.heap.size hlt).trans hst))
      have HN4 := Lib.hid (ownsRow_setCell_below (World.ownsRow.alloc hrow (.cells #[.func (.func 45) #[] #[]] 68)) (a := ⟨w.heap.size, 5, none⟩) (show w.heap.size < w.heap.size + 2 by omega) (.int .u64 1))
      have HN5 := Lib.hid ((hbl.alloc hbl.size (.cells #[.func (.func 45) #[] #[]] 68)).setCell (p := ⟨w.heap.size, 5, none⟩) (show w.heap.size ≤ w.heap.size by omega) (.int .u64 1))
      have HN6 : Hid (w3.heap.size < ((wr.alloc (.cells #[.func (.func 45) #[] #[]] 68)).setCell ⟨w.heap.size, 5, none⟩ (.int .u64 1)).heap.size) := by show _ < _; simp [World.setCell]; omega
      clear hcs hbx hbz hst hrow hbl hlt hab
      go_wp2_with (go_at_call 45; refine HSTEP.out.mono ?_; rintro e w5 ⟨rfl, rfl⟩)
      exact ⟨⟨1, _, by omega, by go_num, rfl, HN1.out, HN2.out, HN3.out, HN4.out, HN5.out, HN6.out⟩, by simp [intOf]⟩
    · obtain rfl : #[.int .i64 1, .string (tx t), .int .u64 u, .slice A4 n c4, .int .u64 o, .int .u64 1, .string (tx g)] = cs := by injection hcs
      have y0 := at_cell (i := 0) hbx rfl
      have j0 := at_cell (i := 0) hbz rfl
      have x0 := at_frozen (i := 0) hbz
      have y1 := at_cell (i := 1) hbx rfl
      have j1 := at_cell (i := 1) hbz rfl
      have x1 := at_frozen (i := 1) hbz
      have y2 := at_cell (i := 2) hbx rfl
      have j2 := at_cell (i := 2) hbz rfl
      have x2 := at_frozen (i := 2) hbz
      have y3 := at_cell (i := 3) hbx rfl
      have j3 := at_cell (i := 3) hbz rfl
      have x3 := at_frozen (i := 3) hbz
      have y4 := at_cell (i := 4) hbx rfl
      have j4 := at_cell (i := 4) hbz rfl
      have x4 := at_frozen (i := 4) hbz
      have y5 := at_cell (i := 5) hbx rfl
      have j5 := at_cell (i := 5) hbz rfl
      have x5 := at_frozen (i := 5) hbz
      have y6 := at_cell (i := 6) hbx rfl
      have j6 := at_cell (i := 6) hbz rfl
      have x6 := at_frozen (i := 6) hbz
      have hfin := (set_same (set_same (set_same (set_same (set_same (set_same (set_same hbz 0 (.int .i64 1)) 1 (.string (tx t))) 2 (.int .u64 u)) 3 (.slice A4 n c4)) 4 (.int .u64 o)) 5 (.int .u64 1)) 6 (.string (tx g)))
      have hrw := (ownsRow_setCell_below (ownsRow_setCell_below (ownsRow_setCell_below (ownsRow_setCell_below (ownsRow_setCell_below (ownsRow_setCell_below (ownsRow_setCell_below hrow (a := ⟨w.heap.size + 1, 0, none⟩) (show w.heap.size + 1 < w.heap.size + 2 by omega) (.int .i64 1)) (a := ⟨w.heap.size + 1, 1, none⟩) (show w.heap.size + 1 < w.heap.size + 2 by omega) (.string (tx t))) (a := ⟨w.heap.size + 1, 2, none⟩) (show w.heap.size + 1 < w.heap.size + 2 by omega) (.int .u64 u)) (a := ⟨w.heap.size + 1, 3, none⟩) (show w.heap.size + 1 < w.heap.size + 2 by omega) (.slice A4 n c4)) (a := ⟨w.heap.size + 1, 4, none⟩) (show w.heap.size + 1 < w.heap.size + 2 by omega) (.int .u64 o)) (a := ⟨w.heap.size + 1, 5, none⟩) (show w.heap.size + 1 < w.heap.size + 2 by omega) (.int .u64 1)) (a := ⟨w.heap.size + 1, 6, none⟩) (show w.heap.size + 1 < w.heap.size + 2 by omega) (.string (tx g)))
      have hbb := (Below.setCell (Below.setCell (Below.setCell (Below.setCell (Below.setCell (Below.setCell (Below.setCell hbl (p := ⟨w.heap.size + 1, 0, none⟩) (show w.heap.size ≤ w.heap.size + 1 by omega) (.int .i64 1)) (p := ⟨w.heap.size + 1, 1, none⟩) (show w.heap.size ≤ w.heap.size + 1 by omega) (.string (tx t))) (p := ⟨w.heap.size + 1, 2, none⟩) (show w.heap.size ≤ w.heap.size + 1 by omega) (.int .u64 u)) (p := ⟨w.heap.size + 1, 3, none⟩) (show w.heap.size ≤ w.heap.size + 1 by omega) (.slice A4 n c4)) (p := ⟨w.heap.size + 1, 4, none⟩) (show w.heap.size ≤ w.heap.size + 1 by omega) (.int .u64 o)) (p := ⟨w.heap.size + 1, 5, none⟩) (show w.heap.size ≤ w.heap.size + 1 by omega) (.int .u64 1)) (p := ⟨w.heap.size + 1, 6, none⟩) (show w.heap.size ≤ w.heap.size + 1 by omega) (.string (tx g)))
      have HFIN := Lib.hid hfin
      have HRW := Lib.hid hrw
      have HBB := Lib.hid hbb
      clear hcs hbx hbz hst hrow hbl hlt hfin hrw hbb
      go_wp2
      refine bodyPost_ret (results_cell_row rfl _ _ _ _ _ _ _ rfl HFIN.out Try.underlying26 rfl (by kernel_rfl)) rfl ?_
      exact ⟨A4, c4, rfl, ⟨own_less HRW.out (show w.heap.size ≤ w.heap.size + 2 by omega), HC3.out⟩, HBB.out⟩

set_option maxRecDepth 100000 in
set_option maxHeartbeats 2000000 in
theorem moved_13 (t g : List UInt8) (u o m : Int) (A : Option Addr) (n c : Nat) (l : List Dp) (hA : A = none → c = 0) (hn : n ≤ 1000000) (w : World) (h : Reads w w.heap.size 3 A n (dps l)) :
    Calls Try.prog 34 #[.int .i64 1, .int .i64 3, rcv ⟨1, t, u, o, m, g⟩ A n c] w fun e w' => ∃ A' c', e = .returned (rcv ⟨1, t, u, o, 1, [111, 108, 100]⟩ A' n c') ∧ Deps w' w.heap.size A' n c' l ∧ Below w.heap.size w w' := by
  have h00 := two_new w (.cells #[.int .i64 1, .string (tx t), .int .u64 u, .slice A n c, .int .u64 o, .int .u64 m, .string (tx g)] 26) (.cells #[.int .i64 0, .string { data := #[] }, .int .u64 0, .slice none 0 0, .int .u64 0, .int .u64 0, .string { data := #[] }] 26)
  have HA0 := Lib.hid h00.1
  have HA1 := Lib.hid h00.2.1
  have HSZ := Lib.hid h00.2.2
  have hb0 := ((Below.refl w.heap.size w).alloc (Nat.le_refl _) (.cells #[.int .i64 1, .string (tx t), .int .u64 u, .slice A n c, .int .u64 o, .int .u64 m, .string (tx g)] 26)).alloc (by simp) (.cells #[.int .i64 0, .string { data := #[] }, .int .u64 0, .slice none 0 0, .int .u64 0, .int .u64 0, .string { data := #[] }] 26)
  have HCL := Lib.hid (rclone_any ⟨1, t, u, o, m, g⟩ A n c l hA hn ((w.alloc (.cells #[.int .i64 1, .string (tx t), .int .u64 u, .slice A n c, .int .u64 o, .int .u64 m, .string (tx g)] 26)).alloc (.cells #[.int .i64 0, .string { data := #[] }, .int .u64 0, .slice none 0 0, .int .u64 0, .int .u64 0, .string { data := #[] }] 26)) ((h.below hb0).more hb0.size))
  have HB0 := Lib.hid hb0
  have q0 := at_cell (i := 0) h00.1 rfl
  have q1 := at_cell (i := 1) h00.1 rfl
  have q2 := at_cell (i := 2) h00.1 rfl
  have q3 := at_cell (i := 3) h00.1 rfl
  have q4 := at_cell (i := 4) h00.1 rfl
  have q5 := at_cell (i := 5) h00.1 rfl
  have q6 := at_cell (i := 6) h00.1 rfl
  clear h00 hb0 h
  unfold rcv rsv at *
  go_enter Try.func34, Try.ntmps34
  go_wp2_with (first
    | (go_at_call 40; have hk := HB2.out.size; refine (steps_any _).mono ?_; rintro e w3 ⟨rfl, hb3⟩; have hd := HD4.out; unfold Deps at hd; rw [HSZ.out] at hd; have hfin := (set_same (set_same (set_same (set_same (set_same (set_same (set_same HBX.out 0 (.int .i64 1)) 1 (.string (tx t))) 2 (.int .u64 u)) 3 (.slice A4 n c4)) 4 (.int .u64 o)) 5 (.int .u64 m)) 6 (.string (tx g))); have hzz := ((Below.heap_setCell ((((((w2.setCell ⟨w.heap.size, 0, none⟩ (.int .i64 1)).setCell ⟨w.heap.size, 1, none⟩ (.string (tx t))).setCell ⟨w.heap.size, 2, none⟩ (.int .u64 u)).setCell ⟨w.heap.size, 3, none⟩ (.slice A4 n c4)).setCell ⟨w.heap.size, 4, none⟩ (.int .u64 o)).setCell ⟨w.heap.size, 5, none⟩ (.int .u64 m)) ⟨w.heap.size, 6, none⟩ (.string (tx g)) (w.heap.size + 1) (by show w.heap.size + 1 ≠ w.heap.size; omega)).trans ((Below.heap_setCell (((((w2.setCell ⟨w.heap.size, 0, none⟩ (.int .i64 1)).setCell ⟨w.heap.size, 1, none⟩ (.string (tx t))).setCell ⟨w.heap.size, 2, none⟩ (.int .u64 u)).setCell ⟨w.heap.size, 3, none⟩ (.slice A4 n c4)).setCell ⟨w.heap.size, 4, none⟩ (.int .u64 o)) ⟨w.heap.size, 5, none⟩ (.int .u64 m) (w.heap.size + 1) (by show w.heap.size + 1 ≠ w.heap.size; omega)).trans ((Below.heap_setCell ((((w2.setCell ⟨w.heap.size, 0, none⟩ (.int .i64 1)).setCell ⟨w.heap.size, 1, none⟩ (.string (tx t))).setCell ⟨w.heap.size, 2, none⟩ (.int .u64 u)).setCell ⟨w.heap.size, 3, none⟩ (.slice A4 n c4)) ⟨w.heap.size, 4, none⟩ (.int .u64 o) (w.heap.size + 1) (by show w.heap.size + 1 ≠ w.heap.size; omega)).trans ((Below.heap_setCell (((w2.setCell ⟨w.heap.size, 0, none⟩ (.int .i64 1)).setCell ⟨w.heap.size, 1, none⟩ (.string (tx t))).setCell ⟨w.heap.size, 2, none⟩ (.int .u64 u)) ⟨w.heap.size, 3, none⟩ (.slice A4 n c4) (w.heap.size + 1) (by show w.heap.size + 1 ≠ w.heap.size; omega)).trans ((Below.heap_setCell ((w2.setCell ⟨w.heap.size, 0, none⟩ (.int .i64 1)).setCell ⟨w.heap.size, 1, none⟩ (.string (tx t))) ⟨w.heap.size, 2, none⟩ (.int .u64 u) (w.heap.size + 1) (by show w.heap.size + 1 ≠ w.heap.size; omega)).trans ((Below.heap_setCell (w2.setCell ⟨w.heap.size, 0, none⟩ (.int .i64 1)) ⟨w.heap.size, 1, none⟩ (.string (tx t)) (w.heap.size + 1) (by show w.heap.size + 1 ≠ w.heap.size; omega)).trans ((Below.heap_setCell w2 ⟨w.heap.size, 0, none⟩ (.int .i64 1) (w.heap.size + 1) (by show w.heap.size + 1 ≠ w.heap.size; omega)).trans HBZ.out))))))); have hrow := (ownsRow_setCell_below (ownsRow_setCell_below (ownsRow_setCell_below (ownsRow_setCell_below (ownsRow_setCell_below (ownsRow_setCell_below (ownsRow_setCell_below hd.1 (a := ⟨w.heap.size, 0, none⟩) (show w.heap.size < w.heap.size + 2 by omega) (.int .i64 1)) (a := ⟨w.heap.size, 1, none⟩) (show w.heap.size < w.heap.size + 2 by omega) (.string (tx t))) (a := ⟨w.heap.size, 2, none⟩) (show w.heap.size < w.heap.size + 2 by omega) (.int .u64 u)) (a := ⟨w.heap.size, 3, none⟩) (show w.heap.size < w.heap.size + 2 by omega) (.slice A4 n c4)) (a := ⟨w.heap.size, 4, none⟩) (show w.heap.size < w.heap.size + 2 by omega) (.int .u64 o)) (a := ⟨w.heap.size, 5, none⟩) (show w.heap.size < w.heap.size + 2 by omega) (.int .u64 m)) (a := ⟨w.heap.size, 6, none⟩) (show w.heap.size < w.heap.size + 2 by omega) (.string (tx g))); have hbl := (Below.setCell (Below.setCell (Below.setCell (Below.setCell (Below.setCell (Below.setCell (Below.setCell HB2.out (p := ⟨w.heap.size, 0, none⟩) (show w.heap.size ≤ w.heap.size by omega) (.int .i64 1)) (p := ⟨w.heap.size, 1, none⟩) (show w.heap.size ≤ w.heap.size by omega) (.string (tx t))) (p := ⟨w.heap.size, 2, none⟩) (show w.heap.size ≤ w.heap.size by omega) (.int .u64 u)) (p := ⟨w.heap.size, 3, none⟩) (show w.heap.size ≤ w.heap.size by omega) (.slice A4 n c4)) (p := ⟨w.heap.size, 4, none⟩) (show w.heap.size ≤ w.heap.size by omega) (.int .u64 o)) (p := ⟨w.heap.size, 5, none⟩) (show w.heap.size ≤ w.heap.size by omega) (.int .u64 m)) (p := ⟨w.heap.size, 6, none⟩) (show w.heap.size ≤ w.heap.size by omega) (.string (tx g))); have hzs : w.heap.size + 2 ≤ ((((((((w2.setCell ⟨w.heap.size, 0, none⟩ (.int .i64 1)).setCell ⟨w.heap.size, 1, none⟩ (.string (tx t))).setCell ⟨w.heap.size, 2, none⟩ (.int .u64 u)).setCell ⟨w.heap.size, 3, none⟩ (.slice A4 n c4)).setCell ⟨w.heap.size, 4, none⟩ (.int .u64 o)).setCell ⟨w.heap.size, 5, none⟩ (.int .u64 m)).setCell ⟨w.heap.size, 6, none⟩ (.string (tx g)))).heap.size := (by have h1 := W2Z.out; simpa [World.setCell] using h1); have HC3 := Lib.hid hd.2; have hbx3 := Lib.hid ((hb3.block w.heap.size (by omega)).trans hfin); have hbz3 := Lib.hid ((hb3.block (w.heap.size + 1) (by omega)).trans hzz); have hrow3 := Lib.hid (own_below hrow hb3); have HB3 := Lib.hid (hbl.trans (hb3.mono hbl.size)); have HW3 : Hid (w.heap.size + 2 ≤ w3.heap.size) := (Nat.le_trans hzs hb3.size); unfold stepsV; clear hd hfin hzz hrow hbl hzs hb3)
    | (go_at_call 26; refine HCL.out.mono ?_; rintro e w2 ⟨A4, c4, rfl, hd4, hb2⟩; have hbx := (hb2.block w.heap.size (by rw [HSZ.out]; omega)).trans HA0.out; have hbz := (hb2.block (w.heap.size + 1) (by rw [HSZ.out]; omega)).trans HA1.out; have HB2 := Lib.hid (HB0.out.trans (hb2.mono HB0.out.size)); have y0 := at_cell (i := 0) hbx rfl; have z0 := at_frozen (i := 0) hbx; have y1 := at_cell (i := 1) hbx rfl; have z1 := at_frozen (i := 1) hbx; have y2 := at_cell (i := 2) hbx rfl; have z2 := at_frozen (i := 2) hbx; have y3 := at_cell (i := 3) hbx rfl; have z3 := at_frozen (i := 3) hbx; have y4 := at_cell (i := 4) hbx rfl; have z4 := at_frozen (i := 4) hbx; have y5 := at_cell (i := 5) hbx rfl; have z5 := at_frozen (i := 5) hbx; have y6 := at_cell (i := 6) hbx rfl; have z6 := at_frozen (i := 6) hbx; have HBX := Lib.hid hbx; have HBZ := Lib.hid hbz; have HD4 := Lib.hid hd4; have W2Z : Hid (w.heap.size + 2 ≤ w2.heap.size) := (by have h1 := hb2.size; have h2 := HSZ.out; show _ ≤ _; omega); clear hd4 hbx hbz hb2))
  have hs4 : Hid (w.heap.size + 2 ≤ (w3.alloc (.cells #[.func (.func 45) #[] #[], .func (.func 46) #[] #[]] 69)).heap.size) := by have h1 := HW3.out; show _ ≤ _; simp; omega
  have HST4 := Lib.hid (one_new w3 (.cells #[.func (.func 45) #[] #[], .func (.func 46) #[] #[]] 69))
  have HBX4 := Lib.hid ((Below.heap_alloc w3 (.cells #[.func (.func 45) #[] #[], .func (.func 46) #[] #[]] 69) w.heap.size (by have := HW3.out; omega)).trans hbx3.out)
  have HBZ4 := Lib.hid ((Below.heap_alloc w3 (.cells #[.func (.func 45) #[] #[], .func (.func 46) #[] #[]] 69) (w.heap.size + 1) (by have := HW3.out; omega)).trans hbz3.out)
  have HROW4 := Lib.hid (World.ownsRow.alloc hrow3.out (.cells #[.func (.func 45) #[] #[], .func (.func 46) #[] #[]] 69))
  have HB4 := Lib.hid (HB3.out.alloc HB3.out.size (.cells #[.func (.func 45) #[] #[], .func (.func 46) #[] #[]] 69))
  have HLT4 : Hid (w3.heap.size < (w3.alloc (.cells #[.func (.func 45) #[] #[], .func (.func 46) #[] #[]] 69)).heap.size) := by show _ < _; simp
  have hw3 := HW3.out
  go_loopw [23] (fun idx wr => ∃ (i : Nat) (cs : Array Value), i ≤ 2 ∧ idx = .int .i64 (i : Int) ∧ ([#[.int .i64 1, .string (tx t), .int .u64 u, .slice A4 n c4, .int .u64 o, .int .u64 m, .string (tx g)], #[.int .i64 1, .string (tx t), .int .u64 u, .slice A4 n c4, .int .u64 o, .int .u64 1, .string (tx g)], #[.int .i64 1, .string (tx t), .int .u64 u, .slice A4 n c4, .int .u64 o, .int .u64 1, .string (tx [111, 108, 100])]] : List (Array Value))[i]? = some cs ∧ wr.heap[w.heap.size]? = some (.cells cs 26 (0, 0)) ∧ wr.heap[w.heap.size + 1]? = some (.cells #[.int .i64 0, .string { data := #[] }, .int .u64 0, .slice none 0 0, .int .u64 0, .int .u64 0, .string { data := #[] }] 26 (0, 0)) ∧ wr.heap[w3.heap.size]? = some (.cells #[.func (.func 45) #[] #[], .func (.func 46) #[] #[]] 69 (0, 0)) ∧ wr.ownsRow (w.heap.size + 2) 34 3 (.slice A4 n c4) n (dps l) ∧ Below w.heap.size w wr ∧ w3.heap.size < wr.heap.size) (fun idx wr => 2 - (intOf idx).toNat)
  case atStart => exact ⟨0, _, by omega, rfl, rfl, HBX4.out, HBZ4.out, HST4.out, HROW4.out, HB4.out, HLT4.out⟩
  case round =>
    obtain ⟨i, cs, hi, rfl, hcs, hbx, hbz, hst, hrow, hbl, hlt⟩ := hrel
    have HBX := Lib.hid hbx
    have HBZ := Lib.hid hbz
    have HST := Lib.hid hst
    have HROW := Lib.hid hrow
    have HBL := Lib.hid hbl
    have HLT := Lib.hid hlt
    have s0 := at_cell (i := 0) hst rfl
    have s1 := at_cell (i := 1) hst rfl
    obtain rfl | rfl | rfl : i = 0 ∨ i = 1 ∨ i = 2 := by omega
    · obtain rfl : #[.int .i64 1, .string (tx t), .int .u64 u, .slice A4 n c4, .int .u64 o, .int .u64 m, .string (tx g)] = cs := by injection hcs
      have hab := (Below.heap_alloc wr (.cells #[.func (.func 45) #[] #[]] 68) w.heap.size (by omega)).trans hbx
      have HSTEP := Lib.hid (step1_any w.heap.size #[.int .i64 1, .string (tx t), .int .u64 u, .slice A4 n c4, .int .u64 o, .int .u64 m, .string (tx g)] (wr.alloc (.cells #[.func (.func 45) #[] #[]] 68)) hab _ rfl)
      have HN1 := Lib.hid (set_same hab 5 (.int .u64 1))
      have HN2 := Lib.hid ((Below.heap_setCell (wr.alloc (.cells #[.func (.func 45) #[] #[]] 68)) ⟨w.heap.size, 5, none⟩ (.int .u64 1) (w.heap.size + 1) (by show w.heap.size + 1 ≠ w.heap.size; omega)).trans ((Below.heap_alloc wr (.cells #[.func (.func 45) #[] #[]] 68) (w.heap.size + 1) (by omega)).trans hbz))
      have HN3 := Lib.hid ((Below.heap_setCell (wr.alloc (.cells #[.func (.func 45) #[] #[]] 68)) ⟨w.heap.size, 5, none⟩ (.int .u64 1) w3.heap.size (by show w3.heap.size ≠ w.heap.size; omega)).trans ((Below.heap_alloc wr (.cells #[.func (.func 45) #[] #[]] 68) w3.heap.size hlt).trans hst))
      have HN4 := Lib.hid (ownsRow_setCell_below (World.ownsRow.alloc hrow (.cells #[.func (.func 45) #[] #[]] 68)) (a := ⟨w.heap.size, 5, none⟩) (show w.heap.size < w.heap.size + 2 by omega) (.int .u64 1))
      have HN5 := Lib.hid ((hbl.alloc hbl.size (.cells #[.func (.func 45) #[] #[]] 68)).setCell (p := ⟨w.heap.size, 5, none⟩) (show w.heap.size ≤ w.heap.size by omega) (.int .u64 1))
      have HN6 : Hid (w3.heap.size < ((wr.alloc (.cells #[.func (.func 45) #[] #[]] 68)).setCell ⟨w.heap.size, 5, none⟩ (.int .u64 1)).heap.size) := by show _ < _; simp [World.setCell]; omega
      clear hcs hbx hbz hst hrow hbl hlt hab
      go_wp2_with (go_at_call 45; refine HSTEP.out.mono ?_; rintro e w5 ⟨rfl, rfl⟩)
      exact ⟨⟨1, _, by omega, by go_num, rfl, HN1.out, HN2.out, HN3.out, HN4.out, HN5.out, HN6.out⟩, by simp [intOf]⟩
    · obtain rfl : #[.int .i64 1, .string (tx t), .int .u64 u, .slice A4 n c4, .int .u64 o, .int .u64 1, .string (tx g)] = cs := by injection hcs
      have hab := (Below.heap_alloc wr (.cells #[.func (.func 46) #[] #[]] 68) w.heap.size (by omega)).trans hbx
      have HSTEP := Lib.hid (step2_any w.heap.size #[.int .i64 1, .string (tx t), .int .u64 u, .slice A4 n c4, .int .u64 o, .int .u64 1, .string (tx g)] (wr.alloc (.cells #[.func (.func 46) #[] #[]] 68)) hab _ rfl)
      have HN1 := Lib.hid (set_same hab 6 (.string (tx [111, 108, 100])))
      have HN2 := Lib.hid ((Below.heap_setCell (wr.alloc (.cells #[.func (.func 46) #[] #[]] 68)) ⟨w.heap.size, 6, none⟩ (.string (tx [111, 108, 100])) (w.heap.size + 1) (by show w.heap.size + 1 ≠ w.heap.size; omega)).trans ((Below.heap_alloc wr (.cells #[.func (.func 46) #[] #[]] 68) (w.heap.size + 1) (by omega)).trans hbz))
      have HN3 := Lib.hid ((Below.heap_setCell (wr.alloc (.cells #[.func (.func 46) #[] #[]] 68)) ⟨w.heap.size, 6, none⟩ (.string (tx [111, 108, 100])) w3.heap.size (by show w3.heap.size ≠ w.heap.size; omega)).trans ((Below.heap_alloc wr (.cells #[.func (.func 46) #[] #[]] 68) w3.heap.size hlt).trans hst))
      have HN4 := Lib.hid (ownsRow_setCell_below (World.ownsRow.alloc hrow (.cells #[.func (.func 46) #[] #[]] 68)) (a := ⟨w.heap.size, 6, none⟩) (show w.heap.size < w.heap.size + 2 by omega) (.string (tx [111, 108, 100])))
      have HN5 := Lib.hid ((hbl.alloc hbl.size (.cells #[.func (.func 46) #[] #[]] 68)).setCell (p := ⟨w.heap.size, 6, none⟩) (show w.heap.size ≤ w.heap.size by omega) (.string (tx [111, 108, 100])))
      have HN6 : Hid (w3.heap.size < ((wr.alloc (.cells #[.func (.func 46) #[] #[]] 68)).setCell ⟨w.heap.size, 6, none⟩ (.string (tx [111, 108, 100]))).heap.size) := by show _ < _; simp [World.setCell]; omega
      clear hcs hbx hbz hst hrow hbl hlt hab
      go_wp2_with (go_at_call 46; refine HSTEP.out.mono ?_; rintro e w5 ⟨rfl, rfl⟩)
      exact ⟨⟨2, _, by omega, by go_num, rfl, HN1.out, HN2.out, HN3.out, HN4.out, HN5.out, HN6.out⟩, by simp [intOf]⟩
    · obtain rfl : #[.int .i64 1, .string (tx t), .int .u64 u, .slice A4 n c4, .int .u64 o, .int .u64 1, .string (tx [111, 108, 100])] = cs := by injection hcs
      have y0 := at_cell (i := 0) hbx rfl
      have j0 := at_cell (i := 0) hbz rfl
      have x0 := at_frozen (i := 0) hbz
      have y1 := at_cell (i := 1) hbx rfl
      have j1 := at_cell (i := 1) hbz rfl
      have x1 := at_frozen (i := 1) hbz
      have y2 := at_cell (i := 2) hbx rfl
      have j2 := at_cell (i := 2) hbz rfl
      have x2 := at_frozen (i := 2) hbz
      have y3 := at_cell (i := 3) hbx rfl
      have j3 := at_cell (i := 3) hbz rfl
      have x3 := at_frozen (i := 3) hbz
      have y4 := at_cell (i := 4) hbx rfl
      have j4 := at_cell (i := 4) hbz rfl
      have x4 := at_frozen (i := 4) hbz
      have y5 := at_cell (i := 5) hbx rfl
      have j5 := at_cell (i := 5) hbz rfl
      have x5 := at_frozen (i := 5) hbz
      have y6 := at_cell (i := 6) hbx rfl
      have j6 := at_cell (i := 6) hbz rfl
      have x6 := at_frozen (i := 6) hbz
      have hfin := (set_same (set_same (set_same (set_same (set_same (set_same (set_same hbz 0 (.int .i64 1)) 1 (.string (tx t))) 2 (.int .u64 u)) 3 (.slice A4 n c4)) 4 (.int .u64 o)) 5 (.int .u64 1)) 6 (.string (tx [111, 108, 100])))
      have hrw := (ownsRow_setCell_below (ownsRow_setCell_below (ownsRow_setCell_below (ownsRow_setCell_below (ownsRow_setCell_below (ownsRow_setCell_below (ownsRow_setCell_below hrow (a := ⟨w.heap.size + 1, 0, none⟩) (show w.heap.size + 1 < w.heap.size + 2 by omega) (.int .i64 1)) (a := ⟨w.heap.size + 1, 1, none⟩) (show w.heap.size + 1 < w.heap.size + 2 by omega) (.string (tx t))) (a := ⟨w.heap.size + 1, 2, none⟩) (show w.heap.size + 1 < w.heap.size + 2 by omega) (.int .u64 u)) (a := ⟨w.heap.size + 1, 3, none⟩) (show w.heap.size + 1 < w.heap.size + 2 by omega) (.slice A4 n c4)) (a := ⟨w.heap.size + 1, 4, none⟩) (show w.heap.size + 1 < w.heap.size + 2 by omega) (.int .u64 o)) (a := ⟨w.heap.size + 1, 5, none⟩) (show w.heap.size + 1 < w.heap.size + 2 by omega) (.int .u64 1)) (a := ⟨w.heap.size + 1, 6, none⟩) (show w.heap.size + 1 < w.heap.size + 2 by omega) (.string (tx [111, 108, 100])))
      have hbb := (Below.setCell (Below.setCell (Below.setCell (Below.setCell (Below.setCell (Below.setCell (Below.setCell hbl (p := ⟨w.heap.size + 1, 0, none⟩) (show w.heap.size ≤ w.heap.size + 1 by omega) (.int .i64 1)) (p := ⟨w.heap.size + 1, 1, none⟩) (show w.heap.size ≤ w.heap.size + 1 by omega) (.string (tx t))) (p := ⟨w.heap.size + 1, 2, none⟩) (show w.heap.size ≤ w.heap.size + 1 by omega) (.int .u64 u)) (p := ⟨w.heap.size + 1, 3, none⟩) (show w.heap.size ≤ w.heap.size + 1 by omega) (.slice A4 n c4)) (p := ⟨w.heap.size + 1, 4, none⟩) (show w.heap.size ≤ w.heap.size + 1 by omega) (.int .u64 o)) (p := ⟨w.heap.size + 1, 5, none⟩) (show w.heap.size ≤ w.heap.size + 1 by omega) (.int .u64 1)) (p := ⟨w.heap.size + 1, 6, none⟩) (show w.heap.size ≤ w.heap.size + 1 by omega) (.string (tx [111, 108, 100])))
      have HFIN := Lib.hid hfin
      have HRW := Lib.hid hrw
      have HBB := Lib.hid hbb
      clear hcs hbx hbz hst hrow hbl hlt hfin hrw hbb
      go_wp2
      refine bodyPost_ret (results_cell_row rfl _ _ _ _ _ _ _ rfl HFIN.out Try.underlying26 rfl (by kernel_rfl)) rfl ?_
      exact ⟨A4, c4, rfl, ⟨own_less HRW.out (show w.heap.size ≤ w.heap.size + 2 by omega), HC3.out⟩, HBB.out⟩

set_option maxRecDepth 100000 in
set_option maxHeartbeats 2000000 in
theorem moved_22 (t g : List UInt8) (u o m : Int) (A : Option Addr) (n c : Nat) (l : List Dp) (hA : A = none → c = 0) (hn : n ≤ 1000000) (w : World) (h : Reads w w.heap.size 3 A n (dps l)) :
    Calls Try.prog 34 #[.int .i64 2, .int .i64 2, rcv ⟨1, t, u, o, m, g⟩ A n c] w fun e w' => ∃ A' c', e = .returned (rcv ⟨1, t, u, o, m, g⟩ A' n c') ∧ Deps w' w.heap.size A' n c' l ∧ Below w.heap.size w w' := by
  have h00 := two_new w (.cells #[.int .i64 1, .string (tx t), .int .u64 u, .slice A n c, .int .u64 o, .int .u64 m, .string (tx g)] 26) (.cells #[.int .i64 0, .string { data := #[] }, .int .u64 0, .slice none 0 0, .int .u64 0, .int .u64 0, .string { data := #[] }] 26)
  have HA0 := Lib.hid h00.1
  have HA1 := Lib.hid h00.2.1
  have HSZ := Lib.hid h00.2.2
  have hb0 := ((Below.refl w.heap.size w).alloc (Nat.le_refl _) (.cells #[.int .i64 1, .string (tx t), .int .u64 u, .slice A n c, .int .u64 o, .int .u64 m, .string (tx g)] 26)).alloc (by simp) (.cells #[.int .i64 0, .string { data := #[] }, .int .u64 0, .slice none 0 0, .int .u64 0, .int .u64 0, .string { data := #[] }] 26)
  have HCL := Lib.hid (rclone_any ⟨1, t, u, o, m, g⟩ A n c l hA hn ((w.alloc (.cells #[.int .i64 1, .string (tx t), .int .u64 u, .slice A n c, .int .u64 o, .int .u64 m, .string (tx g)] 26)).alloc (.cells #[.int .i64 0, .string { data := #[] }, .int .u64 0, .slice none 0 0, .int .u64 0, .int .u64 0, .string { data := #[] }] 26)) ((h.below hb0).more hb0.size))
  have HB0 := Lib.hid hb0
  have q0 := at_cell (i := 0) h00.1 rfl
  have q1 := at_cell (i := 1) h00.1 rfl
  have q2 := at_cell (i := 2) h00.1 rfl
  have q3 := at_cell (i := 3) h00.1 rfl
  have q4 := at_cell (i := 4) h00.1 rfl
  have q5 := at_cell (i := 5) h00.1 rfl
  have q6 := at_cell (i := 6) h00.1 rfl
  clear h00 hb0 h
  unfold rcv rsv at *
  go_enter Try.func34, Try.ntmps34
  go_wp2_with (first
    | (go_at_call 40; have hk := HB2.out.size; refine (steps_any _).mono ?_; rintro e w3 ⟨rfl, hb3⟩; have hd := HD4.out; unfold Deps at hd; rw [HSZ.out] at hd; have hfin := (set_same (set_same (set_same (set_same (set_same (set_same (set_same HBX.out 0 (.int .i64 1)) 1 (.string (tx t))) 2 (.int .u64 u)) 3 (.slice A4 n c4)) 4 (.int .u64 o)) 5 (.int .u64 m)) 6 (.string (tx g))); have hzz := ((Below.heap_setCell ((((((w2.setCell ⟨w.heap.size, 0, none⟩ (.int .i64 1)).setCell ⟨w.heap.size, 1, none⟩ (.string (tx t))).setCell ⟨w.heap.size, 2, none⟩ (.int .u64 u)).setCell ⟨w.heap.size, 3, none⟩ (.slice A4 n c4)).setCell ⟨w.heap.size, 4, none⟩ (.int .u64 o)).setCell ⟨w.heap.size, 5, none⟩ (.int .u64 m)) ⟨w.heap.size, 6, none⟩ (.string (tx g)) (w.heap.size + 1) (by show w.heap.size + 1 ≠ w.heap.size; omega)).trans ((Below.heap_setCell (((((w2.setCell ⟨w.heap.size, 0, none⟩ (.int .i64 1)).setCell ⟨w.heap.size, 1, none⟩ (.string (tx t))).setCell ⟨w.heap.size, 2, none⟩ (.int .u64 u)).setCell ⟨w.heap.size, 3, none⟩ (.slice A4 n c4)).setCell ⟨w.heap.size, 4, none⟩ (.int .u64 o)) ⟨w.heap.size, 5, none⟩ (.int .u64 m) (w.heap.size + 1) (by show w.heap.size + 1 ≠ w.heap.size; omega)).trans ((Below.heap_setCell ((((w2.setCell ⟨w.heap.size, 0, none⟩ (.int .i64 1)).setCell ⟨w.heap.size, 1, none⟩ (.string (tx t))).setCell ⟨w.heap.size, 2, none⟩ (.int .u64 u)).setCell ⟨w.heap.size, 3, none⟩ (.slice A4 n c4)) ⟨w.heap.size, 4, none⟩ (.int .u64 o) (w.heap.size + 1) (by show w.heap.size + 1 ≠ w.heap.size; omega)).trans ((Below.heap_setCell (((w2.setCell ⟨w.heap.size, 0, none⟩ (.int .i64 1)).setCell ⟨w.heap.size, 1, none⟩ (.string (tx t))).setCell ⟨w.heap.size, 2, none⟩ (.int .u64 u)) ⟨w.heap.size, 3, none⟩ (.slice A4 n c4) (w.heap.size + 1) (by show w.heap.size + 1 ≠ w.heap.size; omega)).trans ((Below.heap_setCell ((w2.setCell ⟨w.heap.size, 0, none⟩ (.int .i64 1)).setCell ⟨w.heap.size, 1, none⟩ (.string (tx t))) ⟨w.heap.size, 2, none⟩ (.int .u64 u) (w.heap.size + 1) (by show w.heap.size + 1 ≠ w.heap.size; omega)).trans ((Below.heap_setCell (w2.setCell ⟨w.heap.size, 0, none⟩ (.int .i64 1)) ⟨w.heap.size, 1, none⟩ (.string (tx t)) (w.heap.size + 1) (by show w.heap.size + 1 ≠ w.heap.size; omega)).trans ((Below.heap_setCell w2 ⟨w.heap.size, 0, none⟩ (.int .i64 1) (w.heap.size + 1) (by show w.heap.size + 1 ≠ w.heap.size; omega)).trans HBZ.out))))))); have hrow := (ownsRow_setCell_below (ownsRow_setCell_below (ownsRow_setCell_below (ownsRow_setCell_below (ownsRow_setCell_below (ownsRow_setCell_below (ownsRow_setCell_below hd.1 (a := ⟨w.heap.size, 0, none⟩) (show w.heap.size < w.heap.size + 2 by omega) (.int .i64 1)) (a := ⟨w.heap.size, 1, none⟩) (show w.heap.size < w.heap.size + 2 by omega) (.string (tx t))) (a := ⟨w.heap.size, 2, none⟩) (show w.heap.size < w.heap.size + 2 by omega) (.int .u64 u)) (a := ⟨w.heap.size, 3, none⟩) (show w.heap.size < w.heap.size + 2 by omega) (.slice A4 n c4)) (a := ⟨w.heap.size, 4, none⟩) (show w.heap.size < w.heap.size + 2 by omega) (.int .u64 o)) (a := ⟨w.heap.size, 5, none⟩) (show w.heap.size < w.heap.size + 2 by omega) (.int .u64 m)) (a := ⟨w.heap.size, 6, none⟩) (show w.heap.size < w.heap.size + 2 by omega) (.string (tx g))); have hbl := (Below.setCell (Below.setCell (Below.setCell (Below.setCell (Below.setCell (Below.setCell (Below.setCell HB2.out (p := ⟨w.heap.size, 0, none⟩) (show w.heap.size ≤ w.heap.size by omega) (.int .i64 1)) (p := ⟨w.heap.size, 1, none⟩) (show w.heap.size ≤ w.heap.size by omega) (.string (tx t))) (p := ⟨w.heap.size, 2, none⟩) (show w.heap.size ≤ w.heap.size by omega) (.int .u64 u)) (p := ⟨w.heap.size, 3, none⟩) (show w.heap.size ≤ w.heap.size by omega) (.slice A4 n c4)) (p := ⟨w.heap.size, 4, none⟩) (show w.heap.size ≤ w.heap.size by omega) (.int .u64 o)) (p := ⟨w.heap.size, 5, none⟩) (show w.heap.size ≤ w.heap.size by omega) (.int .u64 m)) (p := ⟨w.heap.size, 6, none⟩) (show w.heap.size ≤ w.heap.size by omega) (.string (tx g))); have hzs : w.heap.size + 2 ≤ ((((((((w2.setCell ⟨w.heap.size, 0, none⟩ (.int .i64 1)).setCell ⟨w.heap.size, 1, none⟩ (.string (tx t))).setCell ⟨w.heap.size, 2, none⟩ (.int .u64 u)).setCell ⟨w.heap.size, 3, none⟩ (.slice A4 n c4)).setCell ⟨w.heap.size, 4, none⟩ (.int .u64 o)).setCell ⟨w.heap.size, 5, none⟩ (.int .u64 m)).setCell ⟨w.heap.size, 6, none⟩ (.string (tx g)))).heap.size := (by have h1 := W2Z.out; simpa [World.setCell] using h1); have HC3 := Lib.hid hd.2; have hbx3 := Lib.hid ((hb3.block w.heap.size (by omega)).trans hfin); have hbz3 := Lib.hid ((hb3.block (w.heap.size + 1) (by omega)).trans hzz); have hrow3 := Lib.hid (own_below hrow hb3); have HB3 := Lib.hid (hbl.trans (hb3.mono hbl.size)); have HW3 : Hid (w.heap.size + 2 ≤ w3.heap.size) := (Nat.le_trans hzs hb3.size); unfold stepsV; clear hd hfin hzz hrow hbl hzs hb3)
    | (go_at_call 26; refine HCL.out.mono ?_; rintro e w2 ⟨A4, c4, rfl, hd4, hb2⟩; have hbx := (hb2.block w.heap.size (by rw [HSZ.out]; omega)).trans HA0.out; have hbz := (hb2.block (w.heap.size + 1) (by rw [HSZ.out]; omega)).trans HA1.out; have HB2 := Lib.hid (HB0.out.trans (hb2.mono HB0.out.size)); have y0 := at_cell (i := 0) hbx rfl; have z0 := at_frozen (i := 0) hbx; have y1 := at_cell (i := 1) hbx rfl; have z1 := at_frozen (i := 1) hbx; have y2 := at_cell (i := 2) hbx rfl; have z2 := at_frozen (i := 2) hbx; have y3 := at_cell (i := 3) hbx rfl; have z3 := at_frozen (i := 3) hbx; have y4 := at_cell (i := 4) hbx rfl; have z4 := at_frozen (i := 4) hbx; have y5 := at_cell (i := 5) hbx rfl; have z5 := at_frozen (i := 5) hbx; have y6 := at_cell (i := 6) hbx rfl; have z6 := at_frozen (i := 6) hbx; have HBX := Lib.hid hbx; have HBZ := Lib.hid hbz; have HD4 := Lib.hid hd4; have W2Z : Hid (w.heap.size + 2 ≤ w2.heap.size) := (by have h1 := hb2.size; have h2 := HSZ.out; show _ ≤ _; omega); clear hd4 hbx hbz hb2))
  have hs4 : Hid (w.heap.size + 2 ≤ (w3.alloc (.cells #[.func (.func 45) #[] #[], .func (.func 46) #[] #[]] 69)).heap.size) := by have h1 := HW3.out; show _ ≤ _; simp; omega
  have HST4 := Lib.hid (one_new w3 (.cells #[.func (.func 45) #[] #[], .func (.func 46) #[] #[]] 69))
  have HBX4 := Lib.hid ((Below.heap_alloc w3 (.cells #[.func (.func 45) #[] #[], .func (.func 46) #[] #[]] 69) w.heap.size (by have := HW3.out; omega)).trans hbx3.out)
  have HBZ4 := Lib.hid ((Below.heap_alloc w3 (.cells #[.func (.func 45) #[] #[], .func (.func 46) #[] #[]] 69) (w.heap.size + 1) (by have := HW3.out; omega)).trans hbz3.out)
  have HROW4 := Lib.hid (World.ownsRow.alloc hrow3.out (.cells #[.func (.func 45) #[] #[], .func (.func 46) #[] #[]] 69))
  have HB4 := Lib.hid (HB3.out.alloc HB3.out.size (.cells #[.func (.func 45) #[] #[], .func (.func 46) #[] #[]] 69))
  have HLT4 : Hid (w3.heap.size < (w3.alloc (.cells #[.func (.func 45) #[] #[], .func (.func 46) #[] #[]] 69)).heap.size) := by show _ < _; simp
  have hw3 := HW3.out
  go_loopw [23] (fun idx wr => ∃ (i : Nat) (cs : Array Value), i ≤ 0 ∧ idx = .int .i64 (i : Int) ∧ ([#[.int .i64 1, .string (tx t), .int .u64 u, .slice A4 n c4, .int .u64 o, .int .u64 m, .string (tx g)]] : List (Array Value))[i]? = some cs ∧ wr.heap[w.heap.size]? = some (.cells cs 26 (0, 0)) ∧ wr.heap[w.heap.size + 1]? = some (.cells #[.int .i64 0, .string { data := #[] }, .int .u64 0, .slice none 0 0, .int .u64 0, .int .u64 0, .string { data := #[] }] 26 (0, 0)) ∧ wr.heap[w3.heap.size]? = some (.cells #[.func (.func 45) #[] #[], .func (.func 46) #[] #[]] 69 (0, 0)) ∧ wr.ownsRow (w.heap.size + 2) 34 3 (.slice A4 n c4) n (dps l) ∧ Below w.heap.size w wr ∧ w3.heap.size < wr.heap.size) (fun idx wr => 0 - (intOf idx).toNat)
  case atStart => exact ⟨0, _, by omega, rfl, rfl, HBX4.out, HBZ4.out, HST4.out, HROW4.out, HB4.out, HLT4.out⟩
  case round =>
    obtain ⟨i, cs, hi, rfl, hcs, hbx, hbz, hst, hrow, hbl, hlt⟩ := hrel
    have HBX := Lib.hid hbx
    have HBZ := Lib.hid hbz
    have HST := Lib.hid hst
    have HROW := Lib.hid hrow
    have HBL := Lib.hid hbl
    have HLT := Lib.hid hlt
    have s0 := at_cell (i := 0) hst rfl
    have s1 := at_cell (i := 1) hst rfl
    obtain rfl : i = 0 := by omega
    · obtain rfl : #[.int .i64 1, .string (tx t), .int .u64 u, .slice A4 n c4, .int .u64 o, .int .u64 m, .string (tx g)] = cs := by injection hcs
      have y0 := at_cell (i := 0) hbx rfl
      have j0 := at_cell (i := 0) hbz rfl
      have x0 := at_frozen (i := 0) hbz
      have y1 := at_cell (i := 1) hbx rfl
      have j1 := at_cell (i := 1) hbz rfl
      have x1 := at_frozen (i := 1) hbz
      have y2 := at_cell (i := 2) hbx rfl
      have j2 := at_cell (i := 2) hbz rfl
      have x2 := at_frozen (i := 2) hbz
      have y3 := at_cell (i := 3) hbx rfl
      have j3 := at_cell (i := 3) hbz rfl
      have x3 := at_frozen (i := 3) hbz
      have y4 := at_cell (i := 4) hbx rfl
      have j4 := at_cell (i := 4) hbz rfl
      have x4 := at_frozen (i := 4) hbz
      have y5 := at_cell (i := 5) hbx rfl
      have j5 := at_cell (i := 5) hbz rfl
      have x5 := at_frozen (i := 5) hbz
      have y6 := at_cell (i := 6) hbx rfl
      have j6 := at_cell (i := 6) hbz rfl
      have x6 := at_frozen (i := 6) hbz
      have hfin := (set_same (set_same (set_same (set_same (set_same (set_same (set_same hbz 0 (.int .i64 1)) 1 (.string (tx t))) 2 (.int .u64 u)) 3 (.slice A4 n c4)) 4 (.int .u64 o)) 5 (.int .u64 m)) 6 (.string (tx g)))
      have hrw := (ownsRow_setCell_below (ownsRow_setCell_below (ownsRow_setCell_below (ownsRow_setCell_below (ownsRow_setCell_below (ownsRow_setCell_below (ownsRow_setCell_below hrow (a := ⟨w.heap.size + 1, 0, none⟩) (show w.heap.size + 1 < w.heap.size + 2 by omega) (.int .i64 1)) (a := ⟨w.heap.size + 1, 1, none⟩) (show w.heap.size + 1 < w.heap.size + 2 by omega) (.string (tx t))) (a := ⟨w.heap.size + 1, 2, none⟩) (show w.heap.size + 1 < w.heap.size + 2 by omega) (.int .u64 u)) (a := ⟨w.heap.size + 1, 3, none⟩) (show w.heap.size + 1 < w.heap.size + 2 by omega) (.slice A4 n c4)) (a := ⟨w.heap.size + 1, 4, none⟩) (show w.heap.size + 1 < w.heap.size + 2 by omega) (.int .u64 o)) (a := ⟨w.heap.size + 1, 5, none⟩) (show w.heap.size + 1 < w.heap.size + 2 by omega) (.int .u64 m)) (a := ⟨w.heap.size + 1, 6, none⟩) (show w.heap.size + 1 < w.heap.size + 2 by omega) (.string (tx g)))
      have hbb := (Below.setCell (Below.setCell (Below.setCell (Below.setCell (Below.setCell (Below.setCell (Below.setCell hbl (p := ⟨w.heap.size + 1, 0, none⟩) (show w.heap.size ≤ w.heap.size + 1 by omega) (.int .i64 1)) (p := ⟨w.heap.size + 1, 1, none⟩) (show w.heap.size ≤ w.heap.size + 1 by omega) (.string (tx t))) (p := ⟨w.heap.size + 1, 2, none⟩) (show w.heap.size ≤ w.heap.size + 1 by omega) (.int .u64 u)) (p := ⟨w.heap.size + 1, 3, none⟩) (show w.heap.size ≤ w.heap.size + 1 by omega) (.slice A4 n c4)) (p := ⟨w.heap.size + 1, 4, none⟩) (show w.heap.size ≤ w.heap.size + 1 by omega) (.int .u64 o)) (p := ⟨w.heap.size + 1, 5, none⟩) (show w.heap.size ≤ w.heap.size + 1 by omega) (.int .u64 m)) (p := ⟨w.heap.size + 1, 6, none⟩) (show w.heap.size ≤ w.heap.size + 1 by omega) (.string (tx g)))
      have HFIN := Lib.hid hfin
      have HRW := Lib.hid hrw
      have HBB := Lib.hid hbb
      clear hcs hbx hbz hst hrow hbl hlt hfin hrw hbb
      go_wp2
      refine bodyPost_ret (results_cell_row rfl _ _ _ _ _ _ _ rfl HFIN.out Try.underlying26 rfl (by kernel_rfl)) rfl ?_
      exact ⟨A4, c4, rfl, ⟨own_less HRW.out (show w.heap.size ≤ w.heap.size + 2 by omega), HC3.out⟩, HBB.out⟩

set_option maxRecDepth 100000 in
set_option maxHeartbeats 2000000 in
theorem moved_23 (t g : List UInt8) (u o m : Int) (A : Option Addr) (n c : Nat) (l : List Dp) (hA : A = none → c = 0) (hn : n ≤ 1000000) (w : World) (h : Reads w w.heap.size 3 A n (dps l)) :
    Calls Try.prog 34 #[.int .i64 2, .int .i64 3, rcv ⟨1, t, u, o, m, g⟩ A n c] w fun e w' => ∃ A' c', e = .returned (rcv ⟨1, t, u, o, m, [111, 108, 100]⟩ A' n c') ∧ Deps w' w.heap.size A' n c' l ∧ Below w.heap.size w w' := by
  have h00 := two_new w (.cells #[.int .i64 1, .string (tx t), .int .u64 u, .slice A n c, .int .u64 o, .int .u64 m, .string (tx g)] 26) (.cells #[.int .i64 0, .string { data := #[] }, .int .u64 0, .slice none 0 0, .int .u64 0, .int .u64 0, .string { data := #[] }] 26)
  have HA0 := Lib.hid h00.1
  have HA1 := Lib.hid h00.2.1
  have HSZ := Lib.hid h00.2.2
  have hb0 := ((Below.refl w.heap.size w).alloc (Nat.le_refl _) (.cells #[.int .i64 1, .string (tx t), .int .u64 u, .slice A n c, .int .u64 o, .int .u64 m, .string (tx g)] 26)).alloc (by simp) (.cells #[.int .i64 0, .string { data := #[] }, .int .u64 0, .slice none 0 0, .int .u64 0, .int .u64 0, .string { data := #[] }] 26)
  have HCL := Lib.hid (rclone_any ⟨1, t, u, o, m, g⟩ A n c l hA hn ((w.alloc (.cells #[.int .i64 1, .string (tx t), .int .u64 u, .slice A n c, .int .u64 o, .int .u64 m, .string (tx g)] 26)).alloc (.cells #[.int .i64 0, .string { data := #[] }, .int .u64 0, .slice none 0 0, .int .u64 0, .int .u64 0, .string { data := #[] }] 26)) ((h.below hb0).more hb0.size))
  have HB0 := Lib.hid hb0
  have q0 := at_cell (i := 0) h00.1 rfl
  have q1 := at_cell (i := 1) h00.1 rfl
  have q2 := at_cell (i := 2) h00.1 rfl
  have q3 := at_cell (i := 3) h00.1 rfl
  have q4 := at_cell (i := 4) h00.1 rfl
  have q5 := at_cell (i := 5) h00.1 rfl
  have q6 := at_cell (i := 6) h00.1 rfl
  clear h00 hb0 h
  unfold rcv rsv at *
  go_enter Try.func34, Try.ntmps34
  go_wp2_with (first
    | (go_at_call 40; have hk := HB2.out.size; refine (steps_any _).mono ?_; rintro e w3 ⟨rfl, hb3⟩; have hd := HD4.out; unfold Deps at hd; rw [HSZ.out] at hd; have hfin := (set_same (set_same (set_same (set_same (set_same (set_same (set_same HBX.out 0 (.int .i64 1)) 1 (.string (tx t))) 2 (.int .u64 u)) 3 (.slice A4 n c4)) 4 (.int .u64 o)) 5 (.int .u64 m)) 6 (.string (tx g))); have hzz := ((Below.heap_setCell ((((((w2.setCell ⟨w.heap.size, 0, none⟩ (.int .i64 1)).setCell ⟨w.heap.size, 1, none⟩ (.string (tx t))).setCell ⟨w.heap.size, 2, none⟩ (.int .u64 u)).setCell ⟨w.heap.size, 3, none⟩ (.slice A4 n c4)).setCell ⟨w.heap.size, 4, none⟩ (.int .u64 o)).setCell ⟨w.heap.size, 5, none⟩ (.int .u64 m)) ⟨w.heap.size, 6, none⟩ (.string (tx g)) (w.heap.size + 1) (by show w.heap.size + 1 ≠ w.heap.size; omega)).trans ((Below.heap_setCell (((((w2.setCell ⟨w.heap.size, 0, none⟩ (.int .i64 1)).setCell ⟨w.heap.size, 1, none⟩ (.string (tx t))).setCell ⟨w.heap.size, 2, none⟩ (.int .u64 u)).setCell ⟨w.heap.size, 3, none⟩ (.slice A4 n c4)).setCell ⟨w.heap.size, 4, none⟩ (.int .u64 o)) ⟨w.heap.size, 5, none⟩ (.int .u64 m) (w.heap.size + 1) (by show w.heap.size + 1 ≠ w.heap.size; omega)).trans ((Below.heap_setCell ((((w2.setCell ⟨w.heap.size, 0, none⟩ (.int .i64 1)).setCell ⟨w.heap.size, 1, none⟩ (.string (tx t))).setCell ⟨w.heap.size, 2, none⟩ (.int .u64 u)).setCell ⟨w.heap.size, 3, none⟩ (.slice A4 n c4)) ⟨w.heap.size, 4, none⟩ (.int .u64 o) (w.heap.size + 1) (by show w.heap.size + 1 ≠ w.heap.size; omega)).trans ((Below.heap_setCell (((w2.setCell ⟨w.heap.size, 0, none⟩ (.int .i64 1)).setCell ⟨w.heap.size, 1, none⟩ (.string (tx t))).setCell ⟨w.heap.size, 2, none⟩ (.int .u64 u)) ⟨w.heap.size, 3, none⟩ (.slice A4 n c4) (w.heap.size + 1) (by show w.heap.size + 1 ≠ w.heap.size; omega)).trans ((Below.heap_setCell ((w2.setCell ⟨w.heap.size, 0, none⟩ (.int .i64 1)).setCell ⟨w.heap.size, 1, none⟩ (.string (tx t))) ⟨w.heap.size, 2, none⟩ (.int .u64 u) (w.heap.size + 1) (by show w.heap.size + 1 ≠ w.heap.size; omega)).trans ((Below.heap_setCell (w2.setCell ⟨w.heap.size, 0, none⟩ (.int .i64 1)) ⟨w.heap.size, 1, none⟩ (.string (tx t)) (w.heap.size + 1) (by show w.heap.size + 1 ≠ w.heap.size; omega)).trans ((Below.heap_setCell w2 ⟨w.heap.size, 0, none⟩ (.int .i64 1) (w.heap.size + 1) (by show w.heap.size + 1 ≠ w.heap.size; omega)).trans HBZ.out))))))); have hrow := (ownsRow_setCell_below (ownsRow_setCell_below (ownsRow_setCell_below (ownsRow_setCell_below (ownsRow_setCell_below (ownsRow_setCell_below (ownsRow_setCell_below hd.1 (a := ⟨w.heap.size, 0, none⟩) (show w.heap.size < w.heap.size + 2 by omega) (.int .i64 1)) (a := ⟨w.heap.size, 1, none⟩) (show w.heap.size < w.heap.size + 2 by omega) (.string (tx t))) (a := ⟨w.heap.size, 2, none⟩) (show w.heap.size < w.heap.size + 2 by omega) (.int .u64 u)) (a := ⟨w.heap.size, 3, none⟩) (show w.heap.size < w.heap.size + 2 by omega) (.slice A4 n c4)) (a := ⟨w.heap.size, 4, none⟩) (show w.heap.size < w.heap.size + 2 by omega) (.int .u64 o)) (a := ⟨w.heap.size, 5, none⟩) (show w.heap.size < w.heap.size + 2 by omega) (.int .u64 m)) (a := ⟨w.heap.size, 6, none⟩) (show w.heap.size < w.heap.size + 2 by omega) (.string (tx g))); have hbl := (Below.setCell (Below.setCell (Below.setCell (Below.setCell (Below.setCell (Below.setCell (Below.setCell HB2.out (p := ⟨w.heap.size, 0, none⟩) (show w.heap.size ≤ w.heap.size by omega) (.int .i64 1)) (p := ⟨w.heap.size, 1, none⟩) (show w.heap.size ≤ w.heap.size by omega) (.string (tx t))) (p := ⟨w.heap.size, 2, none⟩) (show w.heap.size ≤ w.heap.size by omega) (.int .u64 u)) (p := ⟨w.heap.size, 3, none⟩) (show w.heap.size ≤ w.heap.size by omega) (.slice A4 n c4)) (p := ⟨w.heap.size, 4, none⟩) (show w.heap.size ≤ w.heap.size by omega) (.int .u64 o)) (p := ⟨w.heap.size, 5, none⟩) (show w.heap.size ≤ w.heap.size by omega) (.int .u64 m)) (p := ⟨w.heap.size, 6, none⟩) (show w.heap.size ≤ w.heap.size by omega) (.string (tx g))); have hzs : w.heap.size + 2 ≤ ((((((((w2.setCell ⟨w.heap.size, 0, none⟩ (.int .i64 1)).setCell ⟨w.heap.size, 1, none⟩ (.string (tx t))).setCell ⟨w.heap.size, 2, none⟩ (.int .u64 u)).setCell ⟨w.heap.size, 3, none⟩ (.slice A4 n c4)).setCell ⟨w.heap.size, 4, none⟩ (.int .u64 o)).setCell ⟨w.heap.size, 5, none⟩ (.int .u64 m)).setCell ⟨w.heap.size, 6, none⟩ (.string (tx g)))).heap.size := (by have h1 := W2Z.out; simpa [World.setCell] using h1); have HC3 := Lib.hid hd.2; have hbx3 := Lib.hid ((hb3.block w.heap.size (by omega)).trans hfin); have hbz3 := Lib.hid ((hb3.block (w.heap.size + 1) (by omega)).trans hzz); have hrow3 := Lib.hid (own_below hrow hb3); have HB3 := Lib.hid (hbl.trans (hb3.mono hbl.size)); have HW3 : Hid (w.heap.size + 2 ≤ w3.heap.size) := (Nat.le_trans hzs hb3.size); unfold stepsV; clear hd hfin hzz hrow hbl hzs hb3)
    | (go_at_call 26; refine HCL.out.mono ?_; rintro e w2 ⟨A4, c4, rfl, hd4, hb2⟩; have hbx := (hb2.block w.heap.size (by rw [HSZ.out]; omega)).trans HA0.out; have hbz := (hb2.block (w.heap.size + 1) (by rw [HSZ.out]; omega)).trans HA1.out; have HB2 := Lib.hid (HB0.out.trans (hb2.mono HB0.out.size)); have y0 := at_cell (i := 0) hbx rfl; have z0 := at_frozen (i := 0) hbx; have y1 := at_cell (i := 1) hbx rfl; have z1 := at_frozen (i := 1) hbx; have y2 := at_cell (i := 2) hbx rfl; have z2 := at_frozen (i := 2) hbx; have y3 := at_cell (i := 3) hbx rfl; have z3 := at_frozen (i := 3) hbx; have y4 := at_cell (i := 4) hbx rfl; have z4 := at_frozen (i := 4) hbx; have y5 := at_cell (i := 5) hbx rfl; have z5 := at_frozen (i := 5) hbx; have y6 := at_cell (i := 6) hbx rfl; have z6 := at_frozen (i := 6) hbx; have HBX := Lib.hid hbx; have HBZ := Lib.hid hbz; have HD4 := Lib.hid hd4; have W2Z : Hid (w.heap.size + 2 ≤ w2.heap.size) := (by have h1 := hb2.size; have h2 := HSZ.out; show _ ≤ _; omega); clear hd4 hbx hbz hb2))
  have hs4 : Hid (w.heap.size + 2 ≤ (w3.alloc (.cells #[.func (.func 45) #[] #[], .func (.func 46) #[] #[]] 69)).heap.size) := by have h1 := HW3.out; show _ ≤ _; simp; omega
  have HST4 := Lib.hid (one_new w3 (.cells #[.func (.func 45) #[] #[], .func (.func 46) #[] #[]] 69))
  have HBX4 := Lib.hid ((Below.heap_alloc w3 (.cells #[.func (.func 45) #[] #[], .func (.func 46) #[] #[]] 69) w.heap.size (by have := HW3.out; omega)).trans hbx3.out)
  have HBZ4 := Lib.hid ((Below.heap_alloc w3 (.cells #[.func (.func 45) #[] #[], .func (.func 46) #[] #[]] 69) (w.heap.size + 1) (by have := HW3.out; omega)).trans hbz3.out)
  have HROW4 := Lib.hid (World.ownsRow.alloc hrow3.out (.cells #[.func (.func 45) #[] #[], .func (.func 46) #[] #[]] 69))
  have HB4 := Lib.hid (HB3.out.alloc HB3.out.size (.cells #[.func (.func 45) #[] #[], .func (.func 46) #[] #[]] 69))
  have HLT4 : Hid (w3.heap.size < (w3.alloc (.cells #[.func (.func 45) #[] #[], .func (.func 46) #[] #[]] 69)).heap.size) := by show _ < _; simp
  have hw3 := HW3.out
  go_loopw [23] (fun idx wr => ∃ (i : Nat) (cs : Array Value), i ≤ 1 ∧ idx = .int .i64 (i : Int) ∧ ([#[.int .i64 1, .string (tx t), .int .u64 u, .slice A4 n c4, .int .u64 o, .int .u64 m, .string (tx g)], #[.int .i64 1, .string (tx t), .int .u64 u, .slice A4 n c4, .int .u64 o, .int .u64 m, .string (tx [111, 108, 100])]] : List (Array Value))[i]? = some cs ∧ wr.heap[w.heap.size]? = some (.cells cs 26 (0, 0)) ∧ wr.heap[w.heap.size + 1]? = some (.cells #[.int .i64 0, .string { data := #[] }, .int .u64 0, .slice none 0 0, .int .u64 0, .int .u64 0, .string { data := #[] }] 26 (0, 0)) ∧ wr.heap[w3.heap.size]? = some (.cells #[.func (.func 45) #[] #[], .func (.func 46) #[] #[]] 69 (0, 0)) ∧ wr.ownsRow (w.heap.size + 2) 34 3 (.slice A4 n c4) n (dps l) ∧ Below w.heap.size w wr ∧ w3.heap.size < wr.heap.size) (fun idx wr => 1 - (intOf idx).toNat)
  case atStart => exact ⟨0, _, by omega, rfl, rfl, HBX4.out, HBZ4.out, HST4.out, HROW4.out, HB4.out, HLT4.out⟩
  case round =>
    obtain ⟨i, cs, hi, rfl, hcs, hbx, hbz, hst, hrow, hbl, hlt⟩ := hrel
    have HBX := Lib.hid hbx
    have HBZ := Lib.hid hbz
    have HST := Lib.hid hst
    have HROW := Lib.hid hrow
    have HBL := Lib.hid hbl
    have HLT := Lib.hid hlt
    have s0 := at_cell (i := 0) hst rfl
    have s1 := at_cell (i := 1) hst rfl
    obtain rfl | rfl : i = 0 ∨ i = 1 := by omega
    · obtain rfl : #[.int .i64 1, .string (tx t), .int .u64 u, .slice A4 n c4, .int .u64 o, .int .u64 m, .string (tx g)] = cs := by injection hcs
      have hab := (Below.heap_alloc wr (.cells #[.func (.func 46) #[] #[]] 68) w.heap.size (by omega)).trans hbx
      have HSTEP := Lib.hid (step2_any w.heap.size #[.int .i64 1, .string (tx t), .int .u64 u, .slice A4 n c4, .int .u64 o, .int .u64 m, .string (tx g)] (wr.alloc (.cells #[.func (.func 46) #[] #[]] 68)) hab _ rfl)
      have HN1 := Lib.hid (set_same hab 6 (.string (tx [111, 108, 100])))
      have HN2 := Lib.hid ((Below.heap_setCell (wr.alloc (.cells #[.func (.func 46) #[] #[]] 68)) ⟨w.heap.size, 6, none⟩ (.string (tx [111, 108, 100])) (w.heap.size + 1) (by show w.heap.size + 1 ≠ w.heap.size; omega)).trans ((Below.heap_alloc wr (.cells #[.func (.func 46) #[] #[]] 68) (w.heap.size + 1) (by omega)).trans hbz))
      have HN3 := Lib.hid ((Below.heap_setCell (wr.alloc (.cells #[.func (.func 46) #[] #[]] 68)) ⟨w.heap.size, 6, none⟩ (.string (tx [111, 108, 100])) w3.heap.size (by show w3.heap.size ≠ w.heap.size; omega)).trans ((Below.heap_alloc wr (.cells #[.func (.func 46) #[] #[]] 68) w3.heap.size hlt).trans hst))
      have HN4 := Lib.hid (ownsRow_setCell_below (World.ownsRow.alloc hrow (.cells #[.func (.func 46) #[] #[]] 68)) (a := ⟨w.heap.size, 6, none⟩) (show w.heap.size < w.heap.size + 2 by omega) (.string (tx [111, 108, 100])))
      have HN5 := Lib.hid ((hbl.alloc hbl.size (.cells #[.func (.func 46) #[] #[]] 68)).setCell (p := ⟨w.heap.size, 6, none⟩) (show w.heap.size ≤ w.heap.size by omega) (.string (tx [111, 108, 100])))
      have HN6 : Hid (w3.heap.size < ((wr.alloc (.cells #[.func (.func 46) #[] #[]] 68)).setCell ⟨w.heap.size, 6, none⟩ (.string (tx [111, 108, 100]))).heap.size) := by show _ < _; simp [World.setCell]; omega
      clear hcs hbx hbz hst hrow hbl hlt hab
      go_wp2_with (go_at_call 46; refine HSTEP.out.mono ?_; rintro e w5 ⟨rfl, rfl⟩)
      exact ⟨⟨1, _, by omega, by go_num, rfl, HN1.out, HN2.out, HN3.out, HN4.out, HN5.out, HN6.out⟩, by simp [intOf]⟩
    · obtain rfl : #[.int .i64 1, .string (tx t), .int .u64 u, .slice A4 n c4, .int .u64 o, .int .u64 m, .string (tx [111, 108, 100])] = cs := by injection hcs
      have y0 := at_cell (i := 0) hbx rfl
      have j0 := at_cell (i := 0) hbz rfl
      have x0 := at_frozen (i := 0) hbz
      have y1 := at_cell (i := 1) hbx rfl
      have j1 := at_cell (i := 1) hbz rfl
      have x1 := at_frozen (i := 1) hbz
      have y2 := at_cell (i := 2) hbx rfl
      have j2 := at_cell (i := 2) hbz rfl
      have x2 := at_frozen (i := 2) hbz
      have y3 := at_cell (i := 3) hbx rfl
      have j3 := at_cell (i := 3) hbz rfl
      have x3 := at_frozen (i := 3) hbz
      have y4 := at_cell (i := 4) hbx rfl
      have j4 := at_cell (i := 4) hbz rfl
      have x4 := at_frozen (i := 4) hbz
      have y5 := at_cell (i := 5) hbx rfl
      have j5 := at_cell (i := 5) hbz rfl
      have x5 := at_frozen (i := 5) hbz
      have y6 := at_cell (i := 6) hbx rfl
      have j6 := at_cell (i := 6) hbz rfl
      have x6 := at_frozen (i := 6) hbz
      have hfin := (set_same (set_same (set_same (set_same (set_same (set_same (set_same hbz 0 (.int .i64 1)) 1 (.string (tx t))) 2 (.int .u64 u)) 3 (.slice A4 n c4)) 4 (.int .u64 o)) 5 (.int .u64 m)) 6 (.string (tx [111, 108, 100])))
      have hrw := (ownsRow_setCell_below (ownsRow_setCell_below (ownsRow_setCell_below (ownsRow_setCell_below (ownsRow_setCell_below (ownsRow_setCell_below (ownsRow_setCell_below hrow (a := ⟨w.heap.size + 1, 0, none⟩) (show w.heap.size + 1 < w.heap.size + 2 by omega) (.int .i64 1)) (a := ⟨w.heap.size + 1, 1, none⟩) (show w.heap.size + 1 < w.heap.size + 2 by omega) (.string (tx t))) (a := ⟨w.heap.size + 1, 2, none⟩) (show w.heap.size + 1 < w.heap.size + 2 by omega) (.int .u64 u)) (a := ⟨w.heap.size + 1, 3, none⟩) (show w.heap.size + 1 < w.heap.size + 2 by omega) (.slice A4 n c4)) (a := ⟨w.heap.size + 1, 4, none⟩) (show w.heap.size + 1 < w.heap.size + 2 by omega) (.int .u64 o)) (a := ⟨w.heap.size + 1, 5, none⟩) (show w.heap.size + 1 < w.heap.size + 2 by omega) (.int .u64 m)) (a := ⟨w.heap.size + 1, 6, none⟩) (show w.heap.size + 1 < w.heap.size + 2 by omega) (.string (tx [111, 108, 100])))
      have hbb := (Below.setCell (Below.setCell (Below.setCell (Below.setCell (Below.setCell (Below.setCell (Below.setCell hbl (p := ⟨w.heap.size + 1, 0, none⟩) (show w.heap.size ≤ w.heap.size + 1 by omega) (.int .i64 1)) (p := ⟨w.heap.size + 1, 1, none⟩) (show w.heap.size ≤ w.heap.size + 1 by omega) (.string (tx t))) (p := ⟨w.heap.size + 1, 2, none⟩) (show w.heap.size ≤ w.heap.size + 1 by omega) (.int .u64 u)) (p := ⟨w.heap.size + 1, 3, none⟩) (show w.heap.size ≤ w.heap.size + 1 by omega) (.slice A4 n c4)) (p := ⟨w.heap.size + 1, 4, none⟩) (show w.heap.size ≤ w.heap.size + 1 by omega) (.int .u64 o)) (p := ⟨w.heap.size + 1, 5, none⟩) (show w.heap.size ≤ w.heap.size + 1 by omega) (.int .u64 m)) (p := ⟨w.heap.size + 1, 6, none⟩) (show w.heap.size ≤ w.heap.size + 1 by omega) (.string (tx [111, 108, 100])))
      have HFIN := Lib.hid hfin
      have HRW := Lib.hid hrw
      have HBB := Lib.hid hbb
      clear hcs hbx hbz hst hrow hbl hlt hfin hrw hbb
      go_wp2
      refine bodyPost_ret (results_cell_row rfl _ _ _ _ _ _ _ rfl HFIN.out Try.underlying26 rfl (by kernel_rfl)) rfl ?_
      exact ⟨A4, c4, rfl, ⟨own_less HRW.out (show w.heap.size ≤ w.heap.size + 2 by omega), HC3.out⟩, HBB.out⟩

set_option maxRecDepth 100000 in
set_option maxHeartbeats 2000000 in
theorem moved_33 (t g : List UInt8) (u o m : Int) (A : Option Addr) (n c : Nat) (l : List Dp) (hA : A = none → c = 0) (hn : n ≤ 1000000) (w : World) (h : Reads w w.heap.size 3 A n (dps l)) :
    Calls Try.prog 34 #[.int .i64 3, .int .i64 3, rcv ⟨1, t, u, o, m, g⟩ A n c] w fun e w' => ∃ A' c', e = .returned (rcv ⟨1, t, u, o, m, g⟩ A' n c') ∧ Deps w' w.heap.size A' n c' l ∧ Below w.heap.size w w' := by
  have h00 := two_new w (.cells #[.int .i64 1, .string (tx t), .int .u64 u, .slice A n c, .int .u64 o, .int .u64 m, .string (tx g)] 26) (.cells #[.int .i64 0, .string { data := #[] }, .int .u64 0, .slice none 0 0, .int .u64 0, .int .u64 0, .string { data := #[] }] 26)
  have HA0 := Lib.hid h00.1
  have HA1 := Lib.hid h00.2.1
  have HSZ := Lib.hid h00.2.2
  have hb0 := ((Below.refl w.heap.size w).alloc (Nat.le_refl _) (.cells #[.int .i64 1, .string (tx t), .int .u64 u, .slice A n c, .int .u64 o, .int .u64 m, .string (tx g)] 26)).alloc (by simp) (.cells #[.int .i64 0, .string { data := #[] }, .int .u64 0, .slice none 0 0, .int .u64 0, .int .u64 0, .string { data := #[] }] 26)
  have HCL := Lib.hid (rclone_any ⟨1, t, u, o, m, g⟩ A n c l hA hn ((w.alloc (.cells #[.int .i64 1, .string (tx t), .int .u64 u, .slice A n c, .int .u64 o, .int .u64 m, .string (tx g)] 26)).alloc (.cells #[.int .i64 0, .string { data := #[] }, .int .u64 0, .slice none 0 0, .int .u64 0, .int .u64 0, .string { data := #[] }] 26)) ((h.below hb0).more hb0.size))
  have HB0 := Lib.hid hb0
  have q0 := at_cell (i := 0) h00.1 rfl
  have q1 := at_cell (i := 1) h00.1 rfl
  have q2 := at_cell (i := 2) h00.1 rfl
  have q3 := at_cell (i := 3) h00.1 rfl
  have q4 := at_cell (i := 4) h00.1 rfl
  have q5 := at_cell (i := 5) h00.1 rfl
  have q6 := at_cell (i := 6) h00.1 rfl
  clear h00 hb0 h
  unfold rcv rsv at *
  go_enter Try.func34, Try.ntmps34
  go_wp2_with (first
    | (go_at_call 40; have hk := HB2.out.size; refine (steps_any _).mono ?_; rintro e w3 ⟨rfl, hb3⟩; have hd := HD4.out; unfold Deps at hd; rw [HSZ.out] at hd; have hfin := (set_same (set_same (set_same (set_same (set_same (set_same (set_same HBX.out 0 (.int .i64 1)) 1 (.string (tx t))) 2 (.int .u64 u)) 3 (.slice A4 n c4)) 4 (.int .u64 o)) 5 (.int .u64 m)) 6 (.string (tx g))); have hzz := ((Below.heap_setCell ((((((w2.setCell ⟨w.heap.size, 0, none⟩ (.int .i64 1)).setCell ⟨w.heap.size, 1, none⟩ (.string (tx t))).setCell ⟨w.heap.size, 2, none⟩ (.int .u64 u)).setCell ⟨w.heap.size, 3, none⟩ (.slice A4 n c4)).setCell ⟨w.heap.size, 4, none⟩ (.int .u64 o)).setCell ⟨w.heap.size, 5, none⟩ (.int .u64 m)) ⟨w.heap.size, 6, none⟩ (.string (tx g)) (w.heap.size + 1) (by show w.heap.size + 1 ≠ w.heap.size; omega)).trans ((Below.heap_setCell (((((w2.setCell ⟨w.heap.size, 0, none⟩ (.int .i64 1)).setCell ⟨w.heap.size, 1, none⟩ (.string (tx t))).setCell ⟨w.heap.size, 2, none⟩ (.int .u64 u)).setCell ⟨w.heap.size, 3, none⟩ (.slice A4 n c4)).setCell ⟨w.heap.size, 4, none⟩ (.int .u64 o)) ⟨w.heap.size, 5, none⟩ (.int .u64 m) (w.heap.size + 1) (by show w.heap.size + 1 ≠ w.heap.size; omega)).trans ((Below.heap_setCell ((((w2.setCell ⟨w.heap.size, 0, none⟩ (.int .i64 1)).setCell ⟨w.heap.size, 1, none⟩ (.string (tx t))).setCell ⟨w.heap.size, 2, none⟩ (.int .u64 u)).setCell ⟨w.heap.size, 3, none⟩ (.slice A4 n c4)) ⟨w.heap.size, 4, none⟩ (.int .u64 o) (w.heap.size + 1) (by show w.heap.size + 1 ≠ w.heap.size; omega)).trans ((Below.heap_setCell (((w2.setCell ⟨w.heap.size, 0, none⟩ (.int .i64 1)).setCell ⟨w.heap.size, 1, none⟩ (.string (tx t))).setCell ⟨w.heap.size, 2, none⟩ (.int .u64 u)) ⟨w.heap.size, 3, none⟩ (.slice A4 n c4) (w.heap.size + 1) (by show w.heap.size + 1 ≠ w.heap.size; omega)).trans ((Below.heap_setCell ((w2.setCell ⟨w.heap.size, 0, none⟩ (.int .i64 1)).setCell ⟨w.heap.size, 1, none⟩ (.string (tx t))) ⟨w.heap.size, 2, none⟩ (.int .u64 u) (w.heap.size + 1) (by show w.heap.size + 1 ≠ w.heap.size; omega)).trans ((Below.heap_setCell (w2.setCell ⟨w.heap.size, 0, none⟩ (.int .i64 1)) ⟨w.heap.size, 1, none⟩ (.string (tx t)) (w.heap.size + 1) (by show w.heap.size + 1 ≠ w.heap.size; omega)).trans ((Below.heap_setCell w2 ⟨w.heap.size, 0, none⟩ (.int .i64 1) (w.heap.size + 1) (by show w.heap.size + 1 ≠ w.heap.size; omega)).trans HBZ.out))))))); have hrow := (ownsRow_setCell_below (ownsRow_setCell_below (ownsRow_setCell_below (ownsRow_setCell_below (ownsRow_setCell_below (ownsRow_setCell_below (ownsRow_setCell_below hd.1 (a := ⟨w.heap.size, 0, none⟩) (show w.heap.size < w.heap.size + 2 by omega) (.int .i64 1)) (a := ⟨w.heap.size, 1, none⟩) (show w.heap.size < w.heap.size + 2 by omega) (.string (tx t))) (a := ⟨w.heap.size, 2, none⟩) (show w.heap.size < w.heap.size + 2 by omega) (.int .u64 u)) (a := ⟨w.heap.size, 3, none⟩) (show w.heap.size < w.heap.size + 2 by omega) (.slice A4 n c4)) (a := ⟨w.heap.size, 4, none⟩) (show w.heap.size < w.heap.size + 2 by omega) (.int .u64 o)) (a := ⟨w.heap.size, 5, none⟩) (show w.heap.size < w.heap.size + 2 by omega) (.int .u64 m)) (a := ⟨w.heap.size, 6, none⟩) (show w.heap.size < w.heap.size + 2 by omega) (.string (tx g))); have hbl := (Below.setCell (Below.setCell (Below.setCell (Below.setCell (Below.setCell (Below.setCell (Below.setCell HB2.out (p := ⟨w.heap.size, 0, none⟩) (show w.heap.size ≤ w.heap.size by omega) (.int .i64 1)) (p := ⟨w.heap.size, 1, none⟩) (show w.heap.size ≤ w.heap.size by omega) (.string (tx t))) (p := ⟨w.heap.size, 2, none⟩) (show w.heap.size ≤ w.heap.size by omega) (.int .u64 u)) (p := ⟨w.heap.size, 3, none⟩) (show w.heap.size ≤ w.heap.size by omega) (.slice A4 n c4)) (p := ⟨w.heap.size, 4, none⟩) (show w.heap.size ≤ w.heap.size by omega) (.int .u64 o)) (p := ⟨w.heap.size, 5, none⟩) (show w.heap.size ≤ w.heap.size by omega) (.int .u64 m)) (p := ⟨w.heap.size, 6, none⟩) (show w.heap.size ≤ w.heap.size by omega) (.string (tx g))); have hzs : w.heap.size + 2 ≤ ((((((((w2.setCell ⟨w.heap.size, 0, none⟩ (.int .i64 1)).setCell ⟨w.heap.size, 1, none⟩ (.string (tx t))).setCell ⟨w.heap.size, 2, none⟩ (.int .u64 u)).setCell ⟨w.heap.size, 3, none⟩ (.slice A4 n c4)).setCell ⟨w.heap.size, 4, none⟩ (.int .u64 o)).setCell ⟨w.heap.size, 5, none⟩ (.int .u64 m)).setCell ⟨w.heap.size, 6, none⟩ (.string (tx g)))).heap.size := (by have h1 := W2Z.out; simpa [World.setCell] using h1); have HC3 := Lib.hid hd.2; have hbx3 := Lib.hid ((hb3.block w.heap.size (by omega)).trans hfin); have hbz3 := Lib.hid ((hb3.block (w.heap.size + 1) (by omega)).trans hzz); have hrow3 := Lib.hid (own_below hrow hb3); have HB3 := Lib.hid (hbl.trans (hb3.mono hbl.size)); have HW3 : Hid (w.heap.size + 2 ≤ w3.heap.size) := (Nat.le_trans hzs hb3.size); unfold stepsV; clear hd hfin hzz hrow hbl hzs hb3)
    | (go_at_call 26; refine HCL.out.mono ?_; rintro e w2 ⟨A4, c4, rfl, hd4, hb2⟩; have hbx := (hb2.block w.heap.size (by rw [HSZ.out]; omega)).trans HA0.out; have hbz := (hb2.block (w.heap.size + 1) (by rw [HSZ.out]; omega)).trans HA1.out; have HB2 := Lib.hid (HB0.out.trans (hb2.mono HB0.out.size)); have y0 := at_cell (i := 0) hbx rfl; have z0 := at_frozen (i := 0) hbx; have y1 := at_cell (i := 1) hbx rfl; have z1 := at_frozen (i := 1) hbx; have y2 := at_cell (i := 2) hbx rfl; have z2 := at_frozen (i := 2) hbx; have y3 := at_cell (i := 3) hbx rfl; have z3 := at_frozen (i := 3) hbx; have y4 := at_cell (i := 4) hbx rfl; have z4 := at_frozen (i := 4) hbx; have y5 := at_cell (i := 5) hbx rfl; have z5 := at_frozen (i := 5) hbx; have y6 := at_cell (i := 6) hbx rfl; have z6 := at_frozen (i := 6) hbx; have HBX := Lib.hid hbx; have HBZ := Lib.hid hbz; have HD4 := Lib.hid hd4; have W2Z : Hid (w.heap.size + 2 ≤ w2.heap.size) := (by have h1 := hb2.size; have h2 := HSZ.out; show _ ≤ _; omega); clear hd4 hbx hbz hb2))
  have hs4 : Hid (w.heap.size + 2 ≤ (w3.alloc (.cells #[.func (.func 45) #[] #[], .func (.func 46) #[] #[]] 69)).heap.size) := by have h1 := HW3.out; show _ ≤ _; simp; omega
  have HST4 := Lib.hid (one_new w3 (.cells #[.func (.func 45) #[] #[], .func (.func 46) #[] #[]] 69))
  have HBX4 := Lib.hid ((Below.heap_alloc w3 (.cells #[.func (.func 45) #[] #[], .func (.func 46) #[] #[]] 69) w.heap.size (by have := HW3.out; omega)).trans hbx3.out)
  have HBZ4 := Lib.hid ((Below.heap_alloc w3 (.cells #[.func (.func 45) #[] #[], .func (.func 46) #[] #[]] 69) (w.heap.size + 1) (by have := HW3.out; omega)).trans hbz3.out)
  have HROW4 := Lib.hid (World.ownsRow.alloc hrow3.out (.cells #[.func (.func 45) #[] #[], .func (.func 46) #[] #[]] 69))
  have HB4 := Lib.hid (HB3.out.alloc HB3.out.size (.cells #[.func (.func 45) #[] #[], .func (.func 46) #[] #[]] 69))
  have HLT4 : Hid (w3.heap.size < (w3.alloc (.cells #[.func (.func 45) #[] #[], .func (.func 46) #[] #[]] 69)).heap.size) := by show _ < _; simp
  have hw3 := HW3.out
  go_loopw [23] (fun idx wr => ∃ (i : Nat) (cs : Array Value), i ≤ 0 ∧ idx = .int .i64 (i : Int) ∧ ([#[.int .i64 1, .string (tx t), .int .u64 u, .slice A4 n c4, .int .u64 o, .int .u64 m, .string (tx g)]] : List (Array Value))[i]? = some cs ∧ wr.heap[w.heap.size]? = some (.cells cs 26 (0, 0)) ∧ wr.heap[w.heap.size + 1]? = some (.cells #[.int .i64 0, .string { data := #[] }, .int .u64 0, .slice none 0 0, .int .u64 0, .int .u64 0, .string { data := #[] }] 26 (0, 0)) ∧ wr.heap[w3.heap.size]? = some (.cells #[.func (.func 45) #[] #[], .func (.func 46) #[] #[]] 69 (0, 0)) ∧ wr.ownsRow (w.heap.size + 2) 34 3 (.slice A4 n c4) n (dps l) ∧ Below w.heap.size w wr ∧ w3.heap.size < wr.heap.size) (fun idx wr => 0 - (intOf idx).toNat)
  case atStart => exact ⟨0, _, by omega, rfl, rfl, HBX4.out, HBZ4.out, HST4.out, HROW4.out, HB4.out, HLT4.out⟩
  case round =>
    obtain ⟨i, cs, hi, rfl, hcs, hbx, hbz, hst, hrow, hbl, hlt⟩ := hrel
    have HBX := Lib.hid hbx
    have HBZ := Lib.hid hbz
    have HST := Lib.hid hst
    have HROW := Lib.hid hrow
    have HBL := Lib.hid hbl
    have HLT := Lib.hid hlt
    have s0 := at_cell (i := 0) hst rfl
    have s1 := at_cell (i := 1) hst rfl
    obtain rfl : i = 0 := by omega
    · obtain rfl : #[.int .i64 1, .string (tx t), .int .u64 u, .slice A4 n c4, .int .u64 o, .int .u64 m, .string (tx g)] = cs := by injection hcs
      have y0 := at_cell (i := 0) hbx rfl
      have j0 := at_cell (i := 0) hbz rfl
      have x0 := at_frozen (i := 0) hbz
      have y1 := at_cell (i := 1) hbx rfl
      have j1 := at_cell (i := 1) hbz rfl
      have x1 := at_frozen (i := 1) hbz
      have y2 := at_cell (i := 2) hbx rfl
      have j2 := at_cell (i := 2) hbz rfl
      have x2 := at_frozen (i := 2) hbz
      have y3 := at_cell (i := 3) hbx rfl
      have j3 := at_cell (i := 3) hbz rfl
      have x3 := at_frozen (i := 3) hbz
      have y4 := at_cell (i := 4) hbx rfl
      have j4 := at_cell (i := 4) hbz rfl
      have x4 := at_frozen (i := 4) hbz
      have y5 := at_cell (i := 5) hbx rfl
      have j5 := at_cell (i := 5) hbz rfl
      have x5 := at_frozen (i := 5) hbz
      have y6 := at_cell (i := 6) hbx rfl
      have j6 := at_cell (i := 6) hbz rfl
      have x6 := at_frozen (i := 6) hbz
      have hfin := (set_same (set_same (set_same (set_same (set_same (set_same (set_same hbz 0 (.int .i64 1)) 1 (.string (tx t))) 2 (.int .u64 u)) 3 (.slice A4 n c4)) 4 (.int .u64 o)) 5 (.int .u64 m)) 6 (.string (tx g)))
      have hrw := (ownsRow_setCell_below (ownsRow_setCell_below (ownsRow_setCell_below (ownsRow_setCell_below (ownsRow_setCell_below (ownsRow_setCell_below (ownsRow_setCell_below hrow (a := ⟨w.heap.size + 1, 0, none⟩) (show w.heap.size + 1 < w.heap.size + 2 by omega) (.int .i64 1)) (a := ⟨w.heap.size + 1, 1, none⟩) (show w.heap.size + 1 < w.heap.size + 2 by omega) (.string (tx t))) (a := ⟨w.heap.size + 1, 2, none⟩) (show w.heap.size + 1 < w.heap.size + 2 by omega) (.int .u64 u)) (a := ⟨w.heap.size + 1, 3, none⟩) (show w.heap.size + 1 < w.heap.size + 2 by omega) (.slice A4 n c4)) (a := ⟨w.heap.size + 1, 4, none⟩) (show w.heap.size + 1 < w.heap.size + 2 by omega) (.int .u64 o)) (a := ⟨w.heap.size + 1, 5, none⟩) (show w.heap.size + 1 < w.heap.size + 2 by omega) (.int .u64 m)) (a := ⟨w.heap.size + 1, 6, none⟩) (show w.heap.size + 1 < w.heap.size + 2 by omega) (.string (tx g)))
      have hbb := (Below.setCell (Below.setCell (Below.setCell (Below.setCell (Below.setCell (Below.setCell (Below.setCell hbl (p := ⟨w.heap.size + 1, 0, none⟩) (show w.heap.size ≤ w.heap.size + 1 by omega) (.int .i64 1)) (p := ⟨w.heap.size + 1, 1, none⟩) (show w.heap.size ≤ w.heap.size + 1 by omega) (.string (tx t))) (p := ⟨w.heap.size + 1, 2, none⟩) (show w.heap.size ≤ w.heap.size + 1 by omega) (.int .u64 u)) (p := ⟨w.heap.size + 1, 3, none⟩) (show w.heap.size ≤ w.heap.size + 1 by omega) (.slice A4 n c4)) (p := ⟨w.heap.size + 1, 4, none⟩) (show w.heap.size ≤ w.heap.size + 1 by omega) (.int .u64 o)) (p := ⟨w.heap.size + 1, 5, none⟩) (show w.heap.size ≤ w.heap.size + 1 by omega) (.int .u64 m)) (p := ⟨w.heap.size + 1, 6, none⟩) (show w.heap.size ≤ w.heap.size + 1 by omega) (.string (tx g)))
      have HFIN := Lib.hid hfin
      have HRW := Lib.hid hrw
      have HBB := Lib.hid hbb
      clear hcs hbx hbz hst hrow hbl hlt hfin hrw hbb
      go_wp2
      refine bodyPost_ret (results_cell_row rfl _ _ _ _ _ _ _ rfl HFIN.out Try.underlying26 rfl (by kernel_rfl)) rfl ?_
      exact ⟨A4, c4, rfl, ⟨own_less HRW.out (show w.heap.size ≤ w.heap.size + 2 by omega), HC3.out⟩, HBB.out⟩

end Go.Proofs.Ytbgjlkbfelgglaa
