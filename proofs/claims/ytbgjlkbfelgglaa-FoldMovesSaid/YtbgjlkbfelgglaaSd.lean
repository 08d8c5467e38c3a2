/- migrate.To: a record that may be moved. -/
import Derived.Test.YtbgjlkbfelgglaaSc
namespace Go.Proofs.Ytbgjlkbfelgglaa
open Go.RowKit

theorem results_cell_tmp_row {P : Program} {fn : Func} {u p : Tmp} {ty : TypeId} (h : fn.results = #[.cell p ty, .tmp u]) (tmps : Array Value) (w : World) (g : Nat) (t : TypeId) (cs : Array Value) (fr : Nat × Nat) (d : TypeDesc)
    (hp : tmps.getD p undef = .pointer (some ⟨g, 0, none⟩)) (hg : w.heap[g]? = some (.cells cs t fr))
    (hu : P.underlying ty = some d) (hd : (match d with | .struct _ | .array _ _ => true | _ => false) = true) (hi : (P.info? ty).map (·.size) = some cs.size) :
    (results fn tmps).run P w = .ok (.tuple #[.agg cs, tmps.getD u undef]) w := by
  have hp' : tmps[p]?.getD undef = .pointer (some ⟨g, 0, none⟩) := by simpa using hp
  simp [results, h, hp', asAddr, run_loadVar_row w g t ty cs fr d hg hu hd hi]

set_option maxRecDepth 100000 in
set_option maxHeartbeats 2000000 in
theorem to_ok (v v2 k : Int) (t g g2 : List UInt8) (u o m m2 : Int) (A : Option Addr) (n c : Nat) (l : List Dp) (hw : isWayB v v2 = true) (w : World)
    (HM : Hid (∀ W, Below w.heap.size w W → Calls Try.prog 33 #[.int .i64 v, .agg #[.int .i64 k, .string (tx t), .int .u64 u, .slice A n c, .int .u64 o, .int .u64 m, .string (tx g)]] W fun e w' => e = .returned (.bool true) ∧ Below W.heap.size W w'))
    (HV : Hid (∀ W, Below w.heap.size w W → Calls Try.prog 34 #[.int .i64 v, .int .i64 v2, .agg #[.int .i64 k, .string (tx t), .int .u64 u, .slice A n c, .int .u64 o, .int .u64 m, .string (tx g)]] W fun e w' => ∃ A' c', e = .returned (.agg #[.int .i64 k, .string (tx t), .int .u64 u, .slice A' n c', .int .u64 o, .int .u64 m2, .string (tx g2)]) ∧ Deps w' W.heap.size A' n c' l ∧ Below W.heap.size W w')) :
    Calls Try.prog 30 #[.int .i64 v, .int .i64 v2, .agg #[.int .i64 k, .string (tx t), .int .u64 u, .slice A n c, .int .u64 o, .int .u64 m, .string (tx g)]] w fun e w' => ∃ A' c', e = .returned (.tuple #[.agg #[.int .i64 k, .string (tx t), .int .u64 u, .slice A' n c', .int .u64 o, .int .u64 m2, .string (tx g2)], .int .i64 0]) ∧ Deps w' w.heap.size A' n c' l ∧ Below w.heap.size w w' := by
  have h00 := two_new w (.cells #[.int .i64 k, .string (tx t), .int .u64 u, .slice A n c, .int .u64 o, .int .u64 m, .string (tx g)] 26) (.cells #[.int .i64 0, .string { data := #[] }, .int .u64 0, .slice none 0 0, .int .u64 0, .int .u64 0, .string { data := #[] }] 26)
  have HA0 := Lib.hid h00.1
  have HA1 := Lib.hid h00.2.1
  have HSZ := Lib.hid h00.2.2
  have HB0 := Lib.hid (((Below.refl w.heap.size w).alloc (Nat.le_refl _) (.cells #[.int .i64 k, .string (tx t), .int .u64 u, .slice A n c, .int .u64 o, .int .u64 m, .string (tx g)] 26)).alloc (by simp) (.cells #[.int .i64 0, .string { data := #[] }, .int .u64 0, .slice none 0 0, .int .u64 0, .int .u64 0, .string { data := #[] }] 26))
  have HCELL : Hid (∀ {i : Nat} {x : Value}, (#[.int .i64 k, .string (tx t), .int .u64 u, .slice A n c, .int .u64 o, .int .u64 m, .string (tx g)] : Array Value)[i]? = some x → ∀ {W : World}, Below (w.heap.size + 2) ((w.alloc (.cells #[.int .i64 k, .string (tx t), .int .u64 u, .slice A n c, .int .u64 o, .int .u64 m, .string (tx g)] 26)).alloc (.cells #[.int .i64 0, .string { data := #[] }, .int .u64 0, .slice none 0 0, .int .u64 0, .int .u64 0, .string { data := #[] }] 26)) W → W.cell? ⟨w.heap.size, i, none⟩ = some x) := fun hi W hb => (hb.cell (p := ⟨w.heap.size, _, none⟩) (show w.heap.size < w.heap.size + 2 by omega)).trans (at_cell HA0.out hi)
  have q0 := at_cell (i := 0) h00.1 rfl
  have q1 := at_cell (i := 1) h00.1 rfl
  have q2 := at_cell (i := 2) h00.1 rfl
  have q3 := at_cell (i := 3) h00.1 rfl
  have q4 := at_cell (i := 4) h00.1 rfl
  have q5 := at_cell (i := 5) h00.1 rfl
  have q6 := at_cell (i := 6) h00.1 rfl
  clear h00
  have HWAY := Lib.hid (way_any v v2)
  rw [hw] at HWAY
  go_enter Try.func30, Try.ntmps30
  go_wp2_with (first
    | (go_at_call 34; have hk := HB2.out.size; refine (HV.out _ HB2.out).mono ?_; rintro e w3 ⟨A4, c4, rfl, hd4, hb3⟩; have hbz := (hb3.block (w.heap.size + 1) (by have := HZ2.out; omega)).trans ((hS2.block (w.heap.size + 1) (by omega)).trans HA1.out); have j0 := at_cell (i := 0) hbz rfl; have x0 := at_frozen (i := 0) hbz; have j1 := at_cell (i := 1) hbz rfl; have x1 := at_frozen (i := 1) hbz; have j2 := at_cell (i := 2) hbz rfl; have x2 := at_frozen (i := 2) hbz; have j3 := at_cell (i := 3) hbz rfl; have x3 := at_frozen (i := 3) hbz; have j4 := at_cell (i := 4) hbz rfl; have x4 := at_frozen (i := 4) hbz; have j5 := at_cell (i := 5) hbz rfl; have x5 := at_frozen (i := 5) hbz; have j6 := at_cell (i := 6) hbz rfl; have x6 := at_frozen (i := 6) hbz; have HBZ := Lib.hid hbz; have HB3 := Lib.hid (HB2.out.trans (hb3.mono HB2.out.size)); have HD4 := Lib.hid hd4; clear hbz hd4 hb3)
    | (go_at_call 33; refine (HM.out _ HB0.out).mono ?_; rintro e w2 ⟨rfl, hb2⟩; have HB2 := Lib.hid (HB0.out.trans (hb2.mono HB0.out.size)); have hS2 : Below (w.heap.size + 2) ((w.alloc (.cells #[.int .i64 k, .string (tx t), .int .u64 u, .slice A n c, .int .u64 o, .int .u64 m, .string (tx g)] 26)).alloc (.cells #[.int .i64 0, .string { data := #[] }, .int .u64 0, .slice none 0 0, .int .u64 0, .int .u64 0, .string { data := #[] }] 26)) w2 := (hb2.mono (Nat.le_of_eq HSZ.out.symm)); have HZ2 : Hid (w.heap.size + 2 ≤ w2.heap.size) := (by have h1 := hb2.size; rw [HSZ.out] at h1; exact h1); have r0 := HCELL.out (i := 0) rfl hS2; have r1 := HCELL.out (i := 1) rfl hS2; have r2 := HCELL.out (i := 2) rfl hS2; have r3 := HCELL.out (i := 3) rfl hS2; have r4 := HCELL.out (i := 4) rfl hS2; have r5 := HCELL.out (i := 5) rfl hS2; have r6 := HCELL.out (i := 6) rfl hS2; clear hb2)
    | (go_at_call 29; refine (HWAY.out _).mono ?_; rintro e w2 ⟨rfl, rfl⟩))
  have hfin := (set_same (set_same (set_same (set_same (set_same (set_same (set_same HBZ.out 0 (.int .i64 k)) 1 (.string (tx t))) 2 (.int .u64 u)) 3 (.slice A4 n c4)) 4 (.int .u64 o)) 5 (.int .u64 m2)) 6 (.string (tx g2)))
  have hd := HD4.out
  have hrw := (ownsRow_setCell_below (ownsRow_setCell_below (ownsRow_setCell_below (ownsRow_setCell_below (ownsRow_setCell_below (ownsRow_setCell_below (ownsRow_setCell_below hd.1 (a := ⟨w.heap.size + 1, 0, none⟩) (show w.heap.size + 1 < w2.heap.size by have := HZ2.out; omega) (.int .i64 k)) (a := ⟨w.heap.size + 1, 1, none⟩) (show w.heap.size + 1 < w2.heap.size by have := HZ2.out; omega) (.string (tx t))) (a := ⟨w.heap.size + 1, 2, none⟩) (show w.heap.size + 1 < w2.heap.size by have := HZ2.out; omega) (.int .u64 u)) (a := ⟨w.heap.size + 1, 3, none⟩) (show w.heap.size + 1 < w2.heap.size by have := HZ2.out; omega) (.slice A4 n c4)) (a := ⟨w.heap.size + 1, 4, none⟩) (show w.heap.size + 1 < w2.heap.size by have := HZ2.out; omega) (.int .u64 o)) (a := ⟨w.heap.size + 1, 5, none⟩) (show w.heap.size + 1 < w2.heap.size by have := HZ2.out; omega) (.int .u64 m2)) (a := ⟨w.heap.size + 1, 6, none⟩) (show w.heap.size + 1 < w2.heap.size by have := HZ2.out; omega) (.string (tx g2)))
  have hbb := (Below.setCell (Below.setCell (Below.setCell (Below.setCell (Below.setCell (Below.setCell (Below.setCell HB3.out (p := ⟨w.heap.size + 1, 0, none⟩) (show w.heap.size ≤ w.heap.size + 1 by omega) (.int .i64 k)) (p := ⟨w.heap.size + 1, 1, none⟩) (show w.heap.size ≤ w.heap.size + 1 by omega) (.string (tx t))) (p := ⟨w.heap.size + 1, 2, none⟩) (show w.heap.size ≤ w.heap.size + 1 by omega) (.int .u64 u)) (p := ⟨w.heap.size + 1, 3, none⟩) (show w.heap.size ≤ w.heap.size + 1 by omega) (.slice A4 n c4)) (p := ⟨w.heap.size + 1, 4, none⟩) (show w.heap.size ≤ w.heap.size + 1 by omega) (.int .u64 o)) (p := ⟨w.heap.size + 1, 5, none⟩) (show w.heap.size ≤ w.heap.size + 1 by omega) (.int .u64 m2)) (p := ⟨w.heap.size + 1, 6, none⟩) (show w.heap.size ≤ w.heap.size + 1 by omega) (.string (tx g2)))
  refine bodyPost_ret (results_cell_tmp_row rfl _ _ _ _ _ _ _ rfl hfin Try.underlying26 rfl (by kernel_rfl)) rfl ?_
  exact ⟨A4, c4, rfl, ⟨own_less hrw HB2.out.size, hd.2⟩, hbb⟩

end Go.Proofs.Ytbgjlkbfelgglaa
