/- record.Clone. -/
import Derived.Test.YtbaokcigfgfoaaaRk0
namespace Go.Proofs.Ytbaokcigfgfoaaa
open Go.RowKit

set_option maxRecDepth 100000 in
set_option maxHeartbeats 1000000 in
theorem rclone_any (r : Rc) (A : Option Addr) (n c : Nat) (l : List Dp) (hA : A = none → c = 0) (hn : n ≤ 1000000) (w : World) (h : Reads w w.heap.size 3 A n (dps l)) :
    Calls Try.prog 27 #[rcv r A n c] w fun e w' => ∃ A' c', e = .returned (rcv r A' n c') ∧ Deps w' w.heap.size A' n c' l ∧ Below w.heap.size w w' := by
  obtain ⟨i0, hi0, hz0, hz1, hz2⟩ := info_parts (show (Try.prog.info? 60).map (fun i => (i.zero, i.size, i.bytes)) = some (some (.agg #[.string { data := #[] }, .int .u64 0, .bool false]), 3, 32) from by kernel_rfl)
  unfold rcv rsv
  obtain ⟨ha0, ha1, hsz⟩ := two_new w (.cells #[.int .i64 r.kind, .string (tx r.target), .int .u64 r.rule, .slice A n c, .int .u64 r.out, .int .u64 r.time, .string (tx r.tag)] 36) (.cells #[.int .i64 0, .string { data := #[] }, .int .u64 0, .slice none 0 0, .int .u64 0, .int .u64 0, .string { data := #[] }] 36)
  have hr := (h.alloc (Nat.le_refl _) (.cells #[.int .i64 r.kind, .string (tx r.target), .int .u64 r.rule, .slice A n c, .int .u64 r.out, .int .u64 r.time, .string (tx r.tag)] 36)).alloc (by simp) (.cells #[.int .i64 0, .string { data := #[] }, .int .u64 0, .slice none 0 0, .int .u64 0, .int .u64 0, .string { data := #[] }] 36)
  have hb := (((Below.refl w.heap.size w).alloc (Nat.le_refl _) (.cells #[.int .i64 r.kind, .string (tx r.target), .int .u64 r.rule, .slice A n c, .int .u64 r.out, .int .u64 r.time, .string (tx r.tag)] 36)).alloc (by simp) (.cells #[.int .i64 0, .string { data := #[] }, .int .u64 0, .slice none 0 0, .int .u64 0, .int .u64 0, .string { data := #[] }] 36))
  have HR := Lib.hid hr
  have HB := Lib.hid hb
  have HA0 := Lib.hid ha0
  have HA1 := Lib.hid ha1
  have HSZ := Lib.hid hsz
  clear h hr hb ha0 ha1 hsz
  go_enter Try.func27, Try.ntmps27
  go_wp2_with (at_builtin; refine wpList_append_many _ rfl (.const (.slice none 0 0)) (.tmp 4) 34 rfl (w.heap.size + 2) 60 i0 _ 3 32 Try.underlying34 hi0 hz0 hz1 hz2 rfl (by decide) (.slice none 0 0) 0 [] rfl (World.ownsRow_nil _ _ _ _) A n c w.heap.size (dps l) rfl hA HR.out (dps_one l) (by unfold maxLen; omega) (by omega) (by rw [HSZ.out]; exact Nat.le_refl _) ?_; intro v1 w1 ho1 hg1; rw [Nat.zero_add, List.nil_append] at ho1; obtain ⟨A1, c1, rfl, hc1⟩ := own_slice ho1; have hh0 := (hg1.block w.heap.size (by rw [HSZ.out]; omega) (by simp [Value.ownBlock])).trans HA0.out; have hh1 := (hg1.block (w.heap.size + 1) (by rw [HSZ.out]; omega) (by simp [Value.ownBlock])).trans HA1.out; have HB1 := Lib.hid (HB.out.grown hg1 (by rw [HSZ.out]; omega) (by simp [Value.ownBlock])); have HO1 := Lib.hid ho1; have q0 := at_cell (i := 0) hh0 rfl; have q1 := at_cell (i := 1) hh0 rfl; have q2 := at_cell (i := 2) hh0 rfl; have q3 := at_cell (i := 3) hh0 rfl; have q4 := at_cell (i := 4) hh0 rfl; have q5 := at_cell (i := 5) hh0 rfl; have q6 := at_cell (i := 6) hh0 rfl; have p0 := at_cell (i := 0) hh1 rfl; have p1 := at_cell (i := 1) hh1 rfl; have p2 := at_cell (i := 2) hh1 rfl; have p3 := at_cell (i := 3) hh1 rfl; have p4 := at_cell (i := 4) hh1 rfl; have p5 := at_cell (i := 5) hh1 rfl; have p6 := at_cell (i := 6) hh1 rfl; have z3 := at_frozen (i := 3) hh0; have y0 := at_frozen (i := 0) hh1; have y1 := at_frozen (i := 1) hh1; have y2 := at_frozen (i := 2) hh1; have y3 := at_frozen (i := 3) hh1; have y4 := at_frozen (i := 4) hh1; have y5 := at_frozen (i := 5) hh1; have y6 := at_frozen (i := 6) hh1; have HH0 := Lib.hid hh0; have HH1 := Lib.hid hh1; clear hh0 hh1 ho1 hg1)
  have hfin := set_same (set_same (set_same (set_same (set_same (set_same (set_same ((Below.heap_setCell w1 ⟨w.heap.size, 3, none⟩ (.slice A1 n c1) (w.heap.size + 1) (by show w.heap.size + 1 ≠ w.heap.size; omega)).trans HH1.out) 0 (.int .i64 r.kind)) 1 (.string (tx r.target))) 2 (.int .u64 r.rule)) 3 (.slice A1 n c1)) 4 (.int .u64 r.out)) 5 (.int .u64 r.time)) 6 (.string (tx r.tag))
  refine bodyPost_ret (results_cell_row rfl _ _ _ _ _ _ _ rfl hfin Try.underlying36 rfl (by kernel_rfl)) rfl ?_
  refine ⟨A1, c1, rfl, ⟨own_less ?_ (show w.heap.size ≤ w.heap.size + 2 by omega), hc1⟩, ?_⟩
  · exact ownsRow_setCell_below (ownsRow_setCell_below (ownsRow_setCell_below (ownsRow_setCell_below (ownsRow_setCell_below (ownsRow_setCell_below (ownsRow_setCell_below (ownsRow_setCell_below HO1.out (show w.heap.size < w.heap.size + 2 by omega) _) (show w.heap.size + 1 < w.heap.size + 2 by omega) _) (show w.heap.size + 1 < w.heap.size + 2 by omega) _) (show w.heap.size + 1 < w.heap.size + 2 by omega) _) (show w.heap.size + 1 < w.heap.size + 2 by omega) _) (show w.heap.size + 1 < w.heap.size + 2 by omega) _) (show w.heap.size + 1 < w.heap.size + 2 by omega) _) (show w.heap.size + 1 < w.heap.size + 2 by omega) _
  · exact (((((((HB1.out.setCell (show w.heap.size ≤ w.heap.size by omega) _).setCell (show w.heap.size ≤ w.heap.size + 1 by omega) _).setCell (show w.heap.size ≤ w.heap.size + 1 by omega) _).setCell (show w.heap.size ≤ w.heap.size + 1 by omega) _).setCell (show w.heap.size ≤ w.heap.size + 1 by omega) _).setCell (show w.heap.size ≤ w.heap.size + 1 by omega) _).setCell (show w.heap.size ≤ w.heap.size + 1 by omega) _).setCell (show w.heap.size ≤ w.heap.size + 1 by omega) _

end Go.Proofs.Ytbaokcigfgfoaaa
