/- migrate.To: what it refuses. -/
import Derived.Test.YtbgjlkbfelgglaaSh0
namespace Go.Proofs.Ytbgjlkbfelgglaa
open Go.RowKit

set_option maxRecDepth 100000 in
set_option maxHeartbeats 1000000 in
theorem to_way (v v2 k : Int) (t g : List UInt8) (u o m : Int) (A : Option Addr) (n c : Nat) (hw : isWayB v v2 = false) (w : World) :
    Calls Try.prog 30 #[.int .i64 v, .int .i64 v2, .agg #[.int .i64 k, .string (tx t), .int .u64 u, .slice A n c, .int .u64 o, .int .u64 m, .string (tx g)]] w fun e w' => e = .returned (.tuple #[.agg #[.int .i64 0, .string { data := #[] }, .int .u64 0, .slice none 0 0, .int .u64 0, .int .u64 0, .string { data := #[] }], .int .i64 11]) ∧ Below w.heap.size w w' := by
  have h00 := two_new w (.cells #[.int .i64 k, .string (tx t), .int .u64 u, .slice A n c, .int .u64 o, .int .u64 m, .string (tx g)] 26) (.cells #[.int .i64 0, .string { data := #[] }, .int .u64 0, .slice none 0 0, .int .u64 0, .int .u64 0, .string { data := #[] }] 26)
  have HA0 := Lib.hid h00.1
  have HA1 := Lib.hid h00.2.1
  have HSZ := Lib.hid h00.2.2
  have HB0 := Lib.hid (((Below.refl w.heap.size w).alloc (Nat.le_refl _) (.cells #[.int .i64 k, .string (tx t), .int .u64 u, .slice A n c, .int .u64 o, .int .u64 m, .string (tx g)] 26)).alloc (by simp) (.cells #[.int .i64 0, .string { data := #[] }, .int .u64 0, .slice none 0 0, .int .u64 0, .int .u64 0, .string { data := #[] }] 26))
  have q0 := at_cell (i := 0) h00.1 rfl
  have q1 := at_cell (i := 1) h00.1 rfl
  have q2 := at_cell (i := 2) h00.1 rfl
  have q3 := at_cell (i := 3) h00.1 rfl
  have q4 := at_cell (i := 4) h00.1 rfl
  have q5 := at_cell (i := 5) h00.1 rfl
  have q6 := at_cell (i := 6) h00.1 rfl
  clear h00
  have HWAY := Lib.hid (way_any v v2)
  rw [hw] at HWAY
  go_enter Try.func30, Try.ntmps30
  go_wp2_with (go_at_call 29; refine (HWAY.out _).mono ?_; rintro e w2 ⟨rfl, rfl⟩)
  refine bodyPost_ret (results_cell_tmp_row rfl _ _ _ _ _ _ _ rfl HA1.out Try.underlying26 rfl (by kernel_rfl)) rfl ?_
  exact ⟨rfl, HB0.out⟩

set_option maxRecDepth 100000 in
set_option maxHeartbeats 1000000 in
theorem to_arg (v v2 k : Int) (t g : List UInt8) (u o m : Int) (A : Option Addr) (n c : Nat) (hw : isWayB v v2 = true) (w : World)
    (HM : Hid (∀ W, Below w.heap.size w W → Calls Try.prog 33 #[.int .i64 v, .agg #[.int .i64 k, .string (tx t), .int .u64 u, .slice A n c, .int .u64 o, .int .u64 m, .string (tx g)]] W fun e w' => e = .returned (.bool false) ∧ Below W.heap.size W w')) :
    Calls Try.prog 30 #[.int .i64 v, .int .i64 v2, .agg #[.int .i64 k, .string (tx t), .int .u64 u, .slice A n c, .int .u64 o, .int .u64 m, .string (tx g)]] w fun e w' => e = .returned (.tuple #[.agg #[.int .i64 0, .string { data := #[] }, .int .u64 0, .slice none 0 0, .int .u64 0, .int .u64 0, .string { data := #[] }], .int .i64 1]) ∧ Below w.heap.size w w' := by
  have h00 := two_new w (.cells #[.int .i64 k, .string (tx t), .int .u64 u, .slice A n c, .int .u64 o, .int .u64 m, .string (tx g)] 26) (.cells #[.int .i64 0, .string { data := #[] }, .int .u64 0, .slice none 0 0, .int .u64 0, .int .u64 0, .string { data := #[] }] 26)
  have HA0 := Lib.hid h00.1
  have HA1 := Lib.hid h00.2.1
  have HSZ := Lib.hid h00.2.2
  have HB0 := Lib.hid (((Below.refl w.heap.size w).alloc (Nat.le_refl _) (.cells #[.int .i64 k, .string (tx t), .int .u64 u, .slice A n c, .int .u64 o, .int .u64 m, .string (tx g)] 26)).alloc (by simp) (.cells #[.int .i64 0, .string { data := #[] }, .int .u64 0, .slice none 0 0, .int .u64 0, .int .u64 0, .string { data := #[] }] 26))
  have q0 := at_cell (i := 0) h00.1 rfl
  have q1 := at_cell (i := 1) h00.1 rfl
  have q2 := at_cell (i := 2) h00.1 rfl
  have q3 := at_cell (i := 3) h00.1 rfl
  have q4 := at_cell (i := 4) h00.1 rfl
  have q5 := at_cell (i := 5) h00.1 rfl
  have q6 := at_cell (i := 6) h00.1 rfl
  clear h00
  have HWAY := Lib.hid (way_any v v2)
  rw [hw] at HWAY
  go_enter Try.func30, Try.ntmps30
  go_wp2_with (first
    | (go_at_call 33; refine (HM.out _ HB0.out).mono ?_; rintro e w2 ⟨rfl, hb2⟩; have hbz := (hb2.block (w.heap.size + 1) (by rw [HSZ.out]; omega)).trans HA1.out; have j0 := at_cell (i := 0) hbz rfl; have x0 := at_frozen (i := 0) hbz; have j1 := at_cell (i := 1) hbz rfl; have x1 := at_frozen (i := 1) hbz; have j2 := at_cell (i := 2) hbz rfl; have x2 := at_frozen (i := 2) hbz; have j3 := at_cell (i := 3) hbz rfl; have x3 := at_frozen (i := 3) hbz; have j4 := at_cell (i := 4) hbz rfl; have x4 := at_frozen (i := 4) hbz; have j5 := at_cell (i := 5) hbz rfl; have x5 := at_frozen (i := 5) hbz; have j6 := at_cell (i := 6) hbz rfl; have x6 := at_frozen (i := 6) hbz; have HBZ := Lib.hid hbz; have HB2 := Lib.hid (HB0.out.trans (hb2.mono HB0.out.size)); clear hbz hb2)
    | (go_at_call 29; refine (HWAY.out _).mono ?_; rintro e w2 ⟨rfl, rfl⟩))
  have hfin := (set_same (set_same (set_same (set_same (set_same (set_same (set_same HBZ.out 0 (.int .i64 0)) 1 (.string { data := #[] })) 2 (.int .u64 0)) 3 (.slice none 0 0)) 4 (.int .u64 0)) 5 (.int .u64 0)) 6 (.string { data := #[] }))
  have hbb := (Below.setCell (Below.setCell (Below.setCell (Below.setCell (Below.setCell (Below.setCell (Below.setCell HB2.out (p := ⟨w.heap.size + 1, 0, none⟩) (show w.heap.size ≤ w.heap.size + 1 by omega) (.int .i64 0)) (p := ⟨w.heap.size + 1, 1, none⟩) (show w.heap.size ≤ w.heap.size + 1 by omega) (.string { data := #[] })) (p := ⟨w.heap.size + 1, 2, none⟩) (show w.heap.size ≤ w.heap.size + 1 by omega) (.int .u64 0)) (p := ⟨w.heap.size + 1, 3, none⟩) (show w.heap.size ≤ w.heap.size + 1 by omega) (.slice none 0 0)) (p := ⟨w.heap.size + 1, 4, none⟩) (show w.heap.size ≤ w.heap.size + 1 by omega) (.int .u64 0)) (p := ⟨w.heap.size + 1, 5, none⟩) (show w.heap.size ≤ w.heap.size + 1 by omega) (.int .u64 0)) (p := ⟨w.heap.size + 1, 6, none⟩) (show w.heap.size ≤ w.heap.size + 1 by omega) (.string { data := #[] }))
  refine bodyPost_ret (results_cell_tmp_row rfl _ _ _ _ _ _ _ rfl hfin Try.underlying26 rfl (by kernel_rfl)) rfl ?_
  exact ⟨rfl, hbb⟩

end Go.Proofs.Ytbgjlkbfelgglaa
