/- RecordSame's walk. -/
import Derived.Test.YtigkpcildopmfaaRj
import Derived.Test.YtigkpcildopmfaaRza
import Derived.Test.YtigkpcildopmfaaRt
import Derived.Test.YtigkpcildopmfaaH3
namespace Go.Proofs.Ytigkpcildopmfaa
open Go.RowKit

def HmRel (W0 : World) (bo bc B1 B2 : Nat) (ob cb : Obj) (v v4 : Value) (n : Nat) (l : List Dp) (idx : Value) (wr : World) : Prop :=
  ∃ i : Nat, i ≤ n ∧ idx = .int .i64 (i : Int) ∧ (∃ l', wr.ownsRow B1 36 3 v n (dps l')) ∧ wr.heap[bo]? = some ob ∧ wr.heap[bc]? = some cb ∧ wr.ownsRow B2 36 3 v4 n (dps l) ∧ Below B1 W0 wr ∧ bc < wr.heap.size

set_option maxRecDepth 100000 in
set_option maxHeartbeats 4000000 in
theorem slaw_small (r1 r2 : Rc) (A B : Option Addr) (n1 n2 c1 c2 : Nat) (l1 : List Dp) (b : Bool) (hn : n1 ≤ 60) (hA : A = none → c1 = 0) (w : World) (h1 : Reads w w.heap.size 3 A n1 (dps l1))
    (HG1 : Hid (∀ W, Below w.heap.size w W → Calls Try.prog 6 #[.agg #[.int .i64 r1.kind, .string (tx r1.target), .int .u64 r1.rule, .slice A n1 c1, .int .u64 r1.out, .int .u64 r1.time, .string (tx r1.tag)]] W fun e w' => e = .returned (.bool false) ∧ Below W.heap.size W w'))
    (HG2 : Hid (∀ W, Below w.heap.size w W → Calls Try.prog 6 #[.agg #[.int .i64 r2.kind, .string (tx r2.target), .int .u64 r2.rule, .slice B n2 c2, .int .u64 r2.out, .int .u64 r2.time, .string (tx r2.tag)]] W fun e w' => e = .returned (.bool false) ∧ Below W.heap.size W w'))
    (HFX : Hid (∀ W, Calls Try.prog 7 #[] W fun e w' => e = .returned (.bool true) ∧ Below W.heap.size W w'))
    (HS12 : Hid (∀ W, Below w.heap.size w W → Calls Try.prog 15 #[.agg #[.int .i64 r1.kind, .string (tx r1.target), .int .u64 r1.rule, .slice A n1 c1, .int .u64 r1.out, .int .u64 r1.time, .string (tx r1.tag)], .agg #[.int .i64 r2.kind, .string (tx r2.target), .int .u64 r2.rule, .slice B n2 c2, .int .u64 r2.out, .int .u64 r2.time, .string (tx r2.tag)]] W fun e w' => e = .returned (.bool b) ∧ Below W.heap.size W w'))
    (HS21 : Hid (∀ W, Below w.heap.size w W → Calls Try.prog 15 #[.agg #[.int .i64 r2.kind, .string (tx r2.target), .int .u64 r2.rule, .slice B n2 c2, .int .u64 r2.out, .int .u64 r2.time, .string (tx r2.tag)], .agg #[.int .i64 r1.kind, .string (tx r1.target), .int .u64 r1.rule, .slice A n1 c1, .int .u64 r1.out, .int .u64 r1.time, .string (tx r1.tag)]] W fun e w' => e = .returned (.bool b) ∧ Below W.heap.size W w'))
    (HS11 : Hid (∀ W, Below w.heap.size w W → Calls Try.prog 15 #[.agg #[.int .i64 r1.kind, .string (tx r1.target), .int .u64 r1.rule, .slice A n1 c1, .int .u64 r1.out, .int .u64 r1.time, .string (tx r1.tag)], .agg #[.int .i64 r1.kind, .string (tx r1.target), .int .u64 r1.rule, .slice A n1 c1, .int .u64 r1.out, .int .u64 r1.time, .string (tx r1.tag)]] W fun e w' => e = .returned (.bool true) ∧ Below W.heap.size W w'))
    (HR12 : Hid (∀ W, Below w.heap.size w W → Calls Try.prog 16 #[.agg #[.int .i64 r1.kind, .string (tx r1.target), .int .u64 r1.rule, .slice A n1 c1, .int .u64 r1.out, .int .u64 r1.time, .string (tx r1.tag)], .agg #[.int .i64 r2.kind, .string (tx r2.target), .int .u64 r2.rule, .slice B n2 c2, .int .u64 r2.out, .int .u64 r2.time, .string (tx r2.tag)]] W fun e w' => e = .returned (.bool b) ∧ Below W.heap.size W w')) :
    Calls Try.prog 4 #[.agg #[.int .i64 r1.kind, .string (tx r1.target), .int .u64 r1.rule, .slice A n1 c1, .int .u64 r1.out, .int .u64 r1.time, .string (tx r1.tag)], .agg #[.int .i64 r2.kind, .string (tx r2.target), .int .u64 r2.rule, .slice B n2 c2, .int .u64 r2.out, .int .u64 r2.time, .string (tx r2.tag)]] w fun e w' => e = .returned (.bool true) ∧ Below w.heap.size w w' := by
  obtain ⟨i0, hi0, hz0, hz1, hz2⟩ := info_parts (show (Try.prog.info? 36).map (fun i => (i.zero, i.size, i.bytes)) = some (some (.agg #[.string { data := #[] }, .int .u64 0, .bool false]), 3, 32) from by kernel_rfl)
  have h00 := two_new w (.cells #[.int .i64 r1.kind, .string (tx r1.target), .int .u64 r1.rule, .slice A n1 c1, .int .u64 r1.out, .int .u64 r1.time, .string (tx r1.tag)] 25) (.cells #[.int .i64 r2.kind, .string (tx r2.target), .int .u64 r2.rule, .slice B n2 c2, .int .u64 r2.out, .int .u64 r2.time, .string (tx r2.tag)] 25)
  have HA0 := Lib.hid h00.1
  have HA1 := Lib.hid h00.2.1
  have HSZ := Lib.hid h00.2.2
  have HB0 := Lib.hid (((Below.refl w.heap.size w).alloc (Nat.le_refl _) (.cells #[.int .i64 r1.kind, .string (tx r1.target), .int .u64 r1.rule, .slice A n1 c1, .int .u64 r1.out, .int .u64 r1.time, .string (tx r1.tag)] 25)).alloc (by simp) (.cells #[.int .i64 r2.kind, .string (tx r2.target), .int .u64 r2.rule, .slice B n2 c2, .int .u64 r2.out, .int .u64 r2.time, .string (tx r2.tag)] 25))
  have H1 := Lib.hid h1
  have HL : Hid (l1.length = n1) := by have := h1.1; rw [dps_len] at this; show _ = _; omega
  have HCA : Hid (∀ {i : Nat} {x : Value}, (#[.int .i64 r1.kind, .string (tx r1.target), .int .u64 r1.rule, .slice A n1 c1, .int .u64 r1.out, .int .u64 r1.time, .string (tx r1.tag)] : Array Value)[i]? = some x → ∀ {W : World}, Below (w.heap.size + 2) ((w.alloc (.cells #[.int .i64 r1.kind, .string (tx r1.target), .int .u64 r1.rule, .slice A n1 c1, .int .u64 r1.out, .int .u64 r1.time, .string (tx r1.tag)] 25)).alloc (.cells #[.int .i64 r2.kind, .string (tx r2.target), .int .u64 r2.rule, .slice B n2 c2, .int .u64 r2.out, .int .u64 r2.time, .string (tx r2.tag)] 25)) W → W.cell? ⟨w.heap.size, i, none⟩ = some x) := fun hi W hb => (hb.cell (p := ⟨w.heap.size, _, none⟩) (show w.heap.size < w.heap.size + 2 by omega)).trans (at_cell HA0.out hi)
  have HCB : Hid (∀ {i : Nat} {x : Value}, (#[.int .i64 r2.kind, .string (tx r2.target), .int .u64 r2.rule, .slice B n2 c2, .int .u64 r2.out, .int .u64 r2.time, .string (tx r2.tag)] : Array Value)[i]? = some x → ∀ {W : World}, Below (w.heap.size + 2) ((w.alloc (.cells #[.int .i64 r1.kind, .string (tx r1.target), .int .u64 r1.rule, .slice A n1 c1, .int .u64 r1.out, .int .u64 r1.time, .string (tx r1.tag)] 25)).alloc (.cells #[.int .i64 r2.kind, .string (tx r2.target), .int .u64 r2.rule, .slice B n2 c2, .int .u64 r2.out, .int .u64 r2.time, .string (tx r2.tag)] 25)) W → W.cell? ⟨w.heap.size + 1, i, none⟩ = some x) := fun hi W hb => (hb.cell (p := ⟨w.heap.size + 1, _, none⟩) (show w.heap.size + 1 < w.heap.size + 2 by omega)).trans (at_cell HA1.out hi)
  clear h00 h1
  have hs0 := Below.refl (w.heap.size + 2) ((w.alloc (.cells #[.int .i64 r1.kind, .string (tx r1.target), .int .u64 r1.rule, .slice A n1 c1, .int .u64 r1.out, .int .u64 r1.time, .string (tx r1.tag)] 25)).alloc (.cells #[.int .i64 r2.kind, .string (tx r2.target), .int .u64 r2.rule, .slice B n2 c2, .int .u64 r2.out, .int .u64 r2.time, .string (tx r2.tag)] 25))
  have q0 := HCA.out (i := 0) rfl hs0
  have q1 := HCA.out (i := 1) rfl hs0
  have q2 := HCA.out (i := 2) rfl hs0
  have q3 := HCA.out (i := 3) rfl hs0
  have q4 := HCA.out (i := 4) rfl hs0
  have q5 := HCA.out (i := 5) rfl hs0
  have q6 := HCA.out (i := 6) rfl hs0
  clear hs0
  go_enter Try.func4, Try.ntmps4
  go_wp2_with (first
    | (go_at_call 6; have hk := HB2.out.size; refine (HG2.out _ HB2.out).mono ?_; rintro e w3 ⟨rfl, hb3⟩; have HB3 := Lib.hid (HB2.out.trans (hb3.mono HB2.out.size)); have HS3 := Lib.hid (HS2.out.trans (hb3.mono HS2Z.out)); have HS3Z : Hid (w.heap.size + 2 ≤ w3.heap.size) := (Nat.le_trans HS2Z.out hb3.size); clear hb3)
    | (go_at_call 6; refine (HG1.out _ HB0.out).mono ?_; rintro e w2 ⟨rfl, hb2⟩; have HB2 := Lib.hid (HB0.out.trans (hb2.mono HB0.out.size)); have HS2 := Lib.hid (hb2.mono (Nat.le_of_eq HSZ.out.symm)); have HS2Z : Hid (w.heap.size + 2 ≤ w2.heap.size) := by { have h1 := hb2.size; rw [HSZ.out] at h1; exact h1 }; have m0 := HCB.out (i := 0) rfl HS2.out; have m1 := HCB.out (i := 1) rfl HS2.out; have m2 := HCB.out (i := 2) rfl HS2.out; have m3 := HCB.out (i := 3) rfl HS2.out; have m4 := HCB.out (i := 4) rfl HS2.out; have m5 := HCB.out (i := 5) rfl HS2.out; have m6 := HCB.out (i := 6) rfl HS2.out; clear hb2))
  generalize (World.alloc (World.alloc w _) _) = W0 at *
  refine wp_region_held (S := fun v1 => Below (w.heap.size + 2) W0 v1) (by kernel_rfl) ?_
  have hS : Below (w.heap.size + 2) W0 w3.drew := HS3.out.drew
  refine h_take 0 (.agg #[.int .i64 r1.kind, .string (tx r1.target), .int .u64 r1.rule, .slice A n1 c1, .int .u64 r1.out, .int .u64 r1.time, .string (tx r1.tag)]) rfl (by kernel_rfl) (by kernel_rfl) (by kernel_rfl) (fun _ _ _ h => h) (by kernel_rfl) hS (by intro v1 hv; have q0 := HCA.out (i := 0) rfl hv; have q1 := HCA.out (i := 1) rfl hv; have q2 := HCA.out (i := 2) rfl hv; have q3 := HCA.out (i := 3) rfl hv; have q4 := HCA.out (i := 4) rfl hv; have q5 := HCA.out (i := 5) rfl hv; have q6 := HCA.out (i := 6) rfl hv; go_simp; try rfl) ?_
  refine h_take 1 (.agg #[.int .i64 r2.kind, .string (tx r2.target), .int .u64 r2.rule, .slice B n2 c2, .int .u64 r2.out, .int .u64 r2.time, .string (tx r2.tag)]) rfl (by kernel_rfl) (by kernel_rfl) (by kernel_rfl) (fun _ _ _ h => h) (by kernel_rfl) hS (by intro v1 hv; have q0 := HCB.out (i := 0) rfl hv; have q1 := HCB.out (i := 1) rfl hv; have q2 := HCB.out (i := 2) rfl hv; have q3 := HCB.out (i := 3) rfl hv; have q4 := HCB.out (i := 4) rfl hv; have q5 := HCB.out (i := 5) rfl hv; have q6 := HCB.out (i := 6) rfl hv; go_simp; try rfl) ?_
  refine h_take 3 (.agg #[.int .i64 r1.kind, .string (tx r1.target), .int .u64 r1.rule, .slice A n1 c1, .int .u64 r1.out, .int .u64 r1.time, .string (tx r1.tag)]) rfl (by kernel_rfl) (by kernel_rfl) (by kernel_rfl) (fun _ _ _ h => h) (by kernel_rfl) hS (by intro v1 hv; have q0 := HCA.out (i := 0) rfl hv; have q1 := HCA.out (i := 1) rfl hv; have q2 := HCA.out (i := 2) rfl hv; have q3 := HCA.out (i := 3) rfl hv; have q4 := HCA.out (i := 4) rfl hv; have q5 := HCA.out (i := 5) rfl hv; have q6 := HCA.out (i := 6) rfl hv; go_simp; try rfl) ?_
  refine h_take 4 (.agg #[.int .i64 r2.kind, .string (tx r2.target), .int .u64 r2.rule, .slice B n2 c2, .int .u64 r2.out, .int .u64 r2.time, .string (tx r2.tag)]) rfl (by kernel_rfl) (by kernel_rfl) (by kernel_rfl) (fun _ _ _ h => h) (by kernel_rfl) hS (by intro v1 hv; have q0 := HCB.out (i := 0) rfl hv; have q1 := HCB.out (i := 1) rfl hv; have q2 := HCB.out (i := 2) rfl hv; have q3 := HCB.out (i := 3) rfl hv; have q4 := HCB.out (i := 4) rfl hv; have q5 := HCB.out (i := 5) rfl hv; have q6 := HCB.out (i := 6) rfl hv; go_simp; try rfl) ?_
  refine h_one 2 rfl (by kernel_rfl) (by kernel_rfl) (fun K hK => ?_)
  go_simp
  refine (HS12.out _ (HB3.out.drew)).mono ?_
  rintro e w4 ⟨rfl, hb4⟩
  have HB4 := Lib.hid ((HB3.out.drew).trans (hb4.mono (HB3.out.drew).size))
  have hS4 : Below (w.heap.size + 2) W0 w4 := hS.trans (hb4.mono (by have h1 := hS.size; have h2 := HSZ.out; omega))
  clear hb4
  refine hK _ _ hS4 ?_
  clear hK K
  refine h_one 5 rfl (by kernel_rfl) (by kernel_rfl) (fun K hK => ?_)
  go_simp
  refine (HR12.out _ (HB4.out)).mono ?_
  rintro e w5 ⟨rfl, hb5⟩
  have HB5 := Lib.hid ((HB4.out).trans (hb5.mono (HB4.out).size))
  have hS5 : Below (w.heap.size + 2) W0 w5 := hS4.trans (hb5.mono (by have h1 := hS4.size; have h2 := HSZ.out; omega))
  clear hb5
  refine hK _ _ hS5 ?_
  clear hK K
  refine h_take 6 (.bool false) rfl (by kernel_rfl) (by kernel_rfl) (by kernel_rfl) (fun _ _ _ h => h) (by kernel_rfl) hS5 (by intro v1 hv; go_simp) ?_
  refine h_take 7 (.bool false) rfl (by kernel_rfl) (by kernel_rfl) (by kernel_rfl) (fun _ _ _ h => h) (by kernel_rfl) hS5 (fun _ _ => by kernel_rfl) ?_
  refine h_take 8 (.agg #[.int .i64 r2.kind, .string (tx r2.target), .int .u64 r2.rule, .slice B n2 c2, .int .u64 r2.out, .int .u64 r2.time, .string (tx r2.tag)]) rfl (by kernel_rfl) (by kernel_rfl) (by kernel_rfl) (fun _ _ _ h => h) (by kernel_rfl) hS5 (by intro v1 hv; have q0 := HCB.out (i := 0) rfl hv; have q1 := HCB.out (i := 1) rfl hv; have q2 := HCB.out (i := 2) rfl hv; have q3 := HCB.out (i := 3) rfl hv; have q4 := HCB.out (i := 4) rfl hv; have q5 := HCB.out (i := 5) rfl hv; have q6 := HCB.out (i := 6) rfl hv; go_simp; try rfl) ?_
  refine h_take 9 (.agg #[.int .i64 r1.kind, .string (tx r1.target), .int .u64 r1.rule, .slice A n1 c1, .int .u64 r1.out, .int .u64 r1.time, .string (tx r1.tag)]) rfl (by kernel_rfl) (by kernel_rfl) (by kernel_rfl) (fun _ _ _ h => h) (by kernel_rfl) hS5 (by intro v1 hv; have q0 := HCA.out (i := 0) rfl hv; have q1 := HCA.out (i := 1) rfl hv; have q2 := HCA.out (i := 2) rfl hv; have q3 := HCA.out (i := 3) rfl hv; have q4 := HCA.out (i := 4) rfl hv; have q5 := HCA.out (i := 5) rfl hv; have q6 := HCA.out (i := 6) rfl hv; go_simp; try rfl) ?_
  refine h_take 11 (.agg #[.int .i64 r1.kind, .string (tx r1.target), .int .u64 r1.rule, .slice A n1 c1, .int .u64 r1.out, .int .u64 r1.time, .string (tx r1.tag)]) rfl (by kernel_rfl) (by kernel_rfl) (by kernel_rfl) (fun _ _ _ h => h) (by kernel_rfl) hS5 (by intro v1 hv; have q0 := HCA.out (i := 0) rfl hv; have q1 := HCA.out (i := 1) rfl hv; have q2 := HCA.out (i := 2) rfl hv; have q3 := HCA.out (i := 3) rfl hv; have q4 := HCA.out (i := 4) rfl hv; have q5 := HCA.out (i := 5) rfl hv; have q6 := HCA.out (i := 6) rfl hv; go_simp; try rfl) ?_
  refine h_take 12 (.agg #[.int .i64 r2.kind, .string (tx r2.target), .int .u64 r2.rule, .slice B n2 c2, .int .u64 r2.out, .int .u64 r2.time, .string (tx r2.tag)]) rfl (by kernel_rfl) (by kernel_rfl) (by kernel_rfl) (fun _ _ _ h => h) (by kernel_rfl) hS5 (by intro v1 hv; have q0 := HCB.out (i := 0) rfl hv; have q1 := HCB.out (i := 1) rfl hv; have q2 := HCB.out (i := 2) rfl hv; have q3 := HCB.out (i := 3) rfl hv; have q4 := HCB.out (i := 4) rfl hv; have q5 := HCB.out (i := 5) rfl hv; have q6 := HCB.out (i := 6) rfl hv; go_simp; try rfl) ?_
  refine h_one 10 rfl (by kernel_rfl) (by kernel_rfl) (fun K hK => ?_)
  go_simp
  refine (HS21.out _ (HB5.out)).mono ?_
  rintro e w6 ⟨rfl, hb6⟩
  have HB6 := Lib.hid ((HB5.out).trans (hb6.mono (HB5.out).size))
  have hS6 : Below (w.heap.size + 2) W0 w6 := hS5.trans (hb6.mono (by have h1 := hS5.size; have h2 := HSZ.out; omega))
  clear hb6
  refine hK _ _ hS6 ?_
  clear hK K
  refine h_one 13 rfl (by kernel_rfl) (by kernel_rfl) (fun K hK => ?_)
  go_simp
  refine (HR12.out _ (HB6.out)).mono ?_
  rintro e w7 ⟨rfl, hb7⟩
  have HB7 := Lib.hid ((HB6.out).trans (hb7.mono (HB6.out).size))
  have hS7 : Below (w.heap.size + 2) W0 w7 := hS6.trans (hb7.mono (by have h1 := hS6.size; have h2 := HSZ.out; omega))
  clear hb7
  refine hK _ _ hS7 ?_
  clear hK K
  refine h_take 14 (.bool false) rfl (by kernel_rfl) (by kernel_rfl) (by kernel_rfl) (fun _ _ _ h => h) (by kernel_rfl) hS7 (by intro v1 hv; go_simp) ?_
  refine h_take 15 (.bool false) rfl (by kernel_rfl) (by kernel_rfl) (by kernel_rfl) (fun _ _ _ h => h) (by kernel_rfl) hS7 (fun _ _ => by kernel_rfl) ?_
  refine h_take 16 (.bool false) rfl (by kernel_rfl) (by kernel_rfl) (by kernel_rfl) (fun _ _ _ h => h) (by kernel_rfl) hS7 (fun _ _ => by kernel_rfl) ?_
  refine h_take 17 (.agg #[.int .i64 r1.kind, .string (tx r1.target), .int .u64 r1.rule, .slice A n1 c1, .int .u64 r1.out, .int .u64 r1.time, .string (tx r1.tag)]) rfl (by kernel_rfl) (by kernel_rfl) (by kernel_rfl) (fun _ _ _ h => h) (by kernel_rfl) hS7 (by intro v1 hv; have q0 := HCA.out (i := 0) rfl hv; have q1 := HCA.out (i := 1) rfl hv; have q2 := HCA.out (i := 2) rfl hv; have q3 := HCA.out (i := 3) rfl hv; have q4 := HCA.out (i := 4) rfl hv; have q5 := HCA.out (i := 5) rfl hv; have q6 := HCA.out (i := 6) rfl hv; go_simp; try rfl) ?_
  refine h_take 18 (.agg #[.int .i64 r1.kind, .string (tx r1.target), .int .u64 r1.rule, .slice A n1 c1, .int .u64 r1.out, .int .u64 r1.time, .string (tx r1.tag)]) rfl (by kernel_rfl) (by kernel_rfl) (by kernel_rfl) (fun _ _ _ h => h) (by kernel_rfl) hS7 (by intro v1 hv; have q0 := HCA.out (i := 0) rfl hv; have q1 := HCA.out (i := 1) rfl hv; have q2 := HCA.out (i := 2) rfl hv; have q3 := HCA.out (i := 3) rfl hv; have q4 := HCA.out (i := 4) rfl hv; have q5 := HCA.out (i := 5) rfl hv; have q6 := HCA.out (i := 6) rfl hv; go_simp; try rfl) ?_
  refine h_one 19 rfl (by kernel_rfl) (by kernel_rfl) (fun K hK => ?_)
  go_simp
  refine (HS11.out _ (HB7.out)).mono ?_
  rintro e w8 ⟨rfl, hb8⟩
  have HB8 := Lib.hid ((HB7.out).trans (hb8.mono (HB7.out).size))
  have hS8 : Below (w.heap.size + 2) W0 w8 := hS7.trans (hb8.mono (by have h1 := hS7.size; have h2 := HSZ.out; omega))
  clear hb8
  refine hK _ _ hS8 ?_
  clear hK K
  refine h_take 20 (.bool false) rfl (by kernel_rfl) (by kernel_rfl) (by kernel_rfl) (fun _ _ _ h => h) (by kernel_rfl) hS8 (by intro v1 hv; go_simp) ?_
  refine h_take 21 (.bool false) rfl (by kernel_rfl) (by kernel_rfl) (by kernel_rfl) (fun _ _ _ h => h) (by kernel_rfl) hS8 (fun _ _ => by kernel_rfl) ?_
  refine wpAnyH_done (by kernel_rfl) ?_ _
  go_simp
  have HS8 := Lib.hid hS8
  clear hS hS4 hS5 hS6 hS7 hS8
  go_wp2_with fail
  refine wp_region_held (S := fun v1 => Below (w.heap.size + 2) W0 v1) (by kernel_rfl) ?_
  have hS8x : Below (w.heap.size + 2) W0 w8.drew := HS8.out.drew
  have hB8x : Below w.heap.size w w8.drew := HB8.out.drew
  change wpAnyH _ _ _ _ _ _ _ _ w8.drew
  generalize hX8 : w8.drew = x8 at *
  clear hX8
  refine h_take 0 (.pointer (some ⟨w.heap.size, 0, none⟩)) rfl (by kernel_rfl) (by kernel_rfl) (by kernel_rfl) (fun _ _ _ h => h) (by kernel_rfl) hS8x (fun _ _ => by kernel_rfl) ?_
  refine h_take 1 (.int .i64 r1.kind) rfl (by kernel_rfl) (by kernel_rfl) (by kernel_rfl) (fun _ _ _ h => h) (by kernel_rfl) hS8x (by intro v1 hv; have q := HCA.out (i := 0) rfl hv; go_simp; try rfl) ?_
  refine h_take 2 (.pointer (some ⟨w.heap.size, 1, none⟩)) rfl (by kernel_rfl) (by kernel_rfl) (by kernel_rfl) (fun _ _ _ h => h) (by kernel_rfl) hS8x (fun _ _ => by kernel_rfl) ?_
  refine h_take 3 (.string (tx r1.target)) rfl (by kernel_rfl) (by kernel_rfl) (by kernel_rfl) (fun _ _ _ h => h) (by kernel_rfl) hS8x (by intro v1 hv; have q := HCA.out (i := 1) rfl hv; go_simp; try rfl) ?_
  refine h_take 4 (.pointer (some ⟨w.heap.size, 2, none⟩)) rfl (by kernel_rfl) (by kernel_rfl) (by kernel_rfl) (fun _ _ _ h => h) (by kernel_rfl) hS8x (fun _ _ => by kernel_rfl) ?_
  refine h_take 5 (.int .u64 r1.rule) rfl (by kernel_rfl) (by kernel_rfl) (by kernel_rfl) (fun _ _ _ h => h) (by kernel_rfl) hS8x (by intro v1 hv; have q := HCA.out (i := 2) rfl hv; go_simp; try rfl) ?_
  refine h_take 7 (.pointer (some ⟨w.heap.size, 3, none⟩)) rfl (by kernel_rfl) (by kernel_rfl) (by kernel_rfl) (fun _ _ _ h => h) (by kernel_rfl) hS8x (fun _ _ => by kernel_rfl) ?_
  refine h_take 8 (.slice A n1 c1) rfl (by kernel_rfl) (by kernel_rfl) (by kernel_rfl) (fun _ _ _ h => h) (by kernel_rfl) hS8x (by intro v1 hv; have q := HCA.out (i := 3) rfl hv; go_simp; try rfl) ?_
  refine h_take 10 (.pointer (some ⟨w.heap.size, 4, none⟩)) rfl (by kernel_rfl) (by kernel_rfl) (by kernel_rfl) (fun _ _ _ h => h) (by kernel_rfl) hS8x (fun _ _ => by kernel_rfl) ?_
  refine h_take 11 (.int .u64 r1.out) rfl (by kernel_rfl) (by kernel_rfl) (by kernel_rfl) (fun _ _ _ h => h) (by kernel_rfl) hS8x (by intro v1 hv; have q := HCA.out (i := 4) rfl hv; go_simp; try rfl) ?_
  refine h_take 12 (.pointer (some ⟨w.heap.size, 5, none⟩)) rfl (by kernel_rfl) (by kernel_rfl) (by kernel_rfl) (fun _ _ _ h => h) (by kernel_rfl) hS8x (fun _ _ => by kernel_rfl) ?_
  refine h_take 13 (.int .u64 r1.time) rfl (by kernel_rfl) (by kernel_rfl) (by kernel_rfl) (fun _ _ _ h => h) (by kernel_rfl) hS8x (by intro v1 hv; have q := HCA.out (i := 5) rfl hv; go_simp; try rfl) ?_
  refine h_take 14 (.pointer (some ⟨w.heap.size, 6, none⟩)) rfl (by kernel_rfl) (by kernel_rfl) (by kernel_rfl) (fun _ _ _ h => h) (by kernel_rfl) hS8x (fun _ _ => by kernel_rfl) ?_
  refine h_take 15 (.string (tx r1.tag)) rfl (by kernel_rfl) (by kernel_rfl) (by kernel_rfl) (fun _ _ _ h => h) (by kernel_rfl) hS8x (by intro v1 hv; have q := HCA.out (i := 6) rfl hv; go_simp; try rfl) ?_
  refine h_either 6 17 rfl rfl (by kernel_rfl) (by kernel_rfl) (by kernel_rfl) (fun K hK => ?_) (fun K hK => ?_)
  · go_simp
    have hS9x : Below (w.heap.size + 2) W0 (x8.alloc (.cells #[] 36)) := hS8x.alloc (by have h1 := hS8x.size; have h2 := HSZ.out; omega) _
    have hB9x : Below w.heap.size w (x8.alloc (.cells #[] 36)) := hB8x.alloc hB8x.size _
    have hown9 : (x8.alloc (.cells #[] 36)).ownsRow x8.heap.size 36 3 (.slice (some ⟨x8.heap.size, 0, none⟩) 0 0) 0 [] := own_empty3 x8 _
    have hz9 : Hid ((x8.alloc (.cells #[] 36)).heap.size = x8.heap.size + 1) := by show _ = _; simp
    have hbs : w.heap.size + 2 ≤ x8.heap.size := by have h1 := hS8x.size; have h2 := HSZ.out; omega
    refine hK _ _ hS9x ?_
    clear hK K
    generalize hX9 : x8.alloc (.cells #[] 36) = x9 at *
    clear hX9
    refine h_either 9 17 rfl rfl (by kernel_rfl) (by kernel_rfl) (by kernel_rfl) (fun K hK => ?_) (fun K hK => ?_)
    · refine wp_append_many (.tmp 43) (.tmp 45) 23 rfl (w.heap.size + 2) 36 i0 _ 3 32 Try.underlying23 hi0 hz0 hz1 hz2 rfl (by decide) (.slice (some ⟨x8.heap.size, 0, none⟩) 0 0) 0 [] rfl (own_less hown9 hbs) A n1 c1 w.heap.size (dps l1) rfl hA (H1.out.below hB9x) (dps_one l1) (by unfold maxLen; omega) (by omega) (by have := hz9.out; omega) ?_
      intro v3 x10 hrow10 hg10 hv3
      rw [Nat.zero_add, List.nil_append] at hrow10
      obtain ⟨A3, c3, rfl, hA3⟩ := own_slice hrow10
      have hob : ∀ g, (Value.slice (some ⟨x8.heap.size, 0, none⟩) 0 0).ownBlock = some g → g = x8.heap.size := fun g hg => by simpa [Value.ownBlock] using hg.symm
      have hS10x : Below (w.heap.size + 2) W0 x10 := hS9x.grown hg10 (by have := hz9.out; omega) (fun g hg => by have := hob g hg; omega)
      have hB10x : Below w.heap.size w x10 := hB9x.grown hg10 (by have := hz9.out; omega) (fun g hg => by have := hob g hg; omega)
      clear hob hv3
      refine hK _ _ hS10x ?_
      clear hK K
      refine h_take 16 (.agg #[.int .i64 r1.kind, .string (tx r1.target), .int .u64 r1.rule, .slice A3 n1 c3, .int .u64 r1.out, .int .u64 r1.time, .string (tx r1.tag)]) rfl (by kernel_rfl) (by kernel_rfl) (by kernel_rfl) (fun _ _ _ h => h) (by kernel_rfl) hS10x (fun _ _ => by kernel_rfl) ?_
      refine h_one 17 rfl (by kernel_rfl) (by kernel_rfl) (fun K hK => ?_)
      go_simp
      have hS11x : Below (w.heap.size + 2) W0 (x10.alloc (.cells #[.int .i64 0, .string { data := #[] }, .int .u64 0, .slice none 0 0, .int .u64 0, .int .u64 0, .string { data := #[] }] 25)) := hS10x.alloc (by have h1 := hS10x.size; have h2 := HSZ.out; omega) _
      have hB11x : Below w.heap.size w (x10.alloc (.cells #[.int .i64 0, .string { data := #[] }, .int .u64 0, .slice none 0 0, .int .u64 0, .int .u64 0, .string { data := #[] }] 25)) := hB10x.alloc hB10x.size _
      have hob11 := one_new x10 (.cells #[.int .i64 0, .string { data := #[] }, .int .u64 0, .slice none 0 0, .int .u64 0, .int .u64 0, .string { data := #[] }] 25)
      have hz11 : Hid ((x10.alloc (.cells #[.int .i64 0, .string { data := #[] }, .int .u64 0, .slice none 0 0, .int .u64 0, .int .u64 0, .string { data := #[] }] 25)).heap.size = x10.heap.size + 1) := by show _ = _; simp
      have hboz : w.heap.size + 2 ≤ x10.heap.size := by have h1 := hS10x.size; have h2 := HSZ.out; omega
      have hne : Hid (∀ g, (Value.slice A3 n1 c3).ownBlock = some g → g ≠ x10.heap.size) := fun g hg => by have := own_lt hrow10 g hg; omega
      have hrow11 := World.ownsRow.alloc hrow10 (.cells #[.int .i64 0, .string { data := #[] }, .int .u64 0, .slice none 0 0, .int .u64 0, .int .u64 0, .string { data := #[] }] 25)
      refine hK _ _ hS11x ?_
      clear hK K
      generalize hX11 : x10.alloc (.cells #[.int .i64 0, .string { data := #[] }, .int .u64 0, .slice none 0 0, .int .u64 0, .int .u64 0, .string { data := #[] }] 25) = x11 at *
      clear hX11
      refine h_one 18 rfl (by kernel_rfl) (by kernel_rfl) (fun K hK => ?_)
      have f0 := at_cell (i := 0) hob11 rfl
      have z0 := at_frozen (i := 0) hob11
      have f1 := at_cell (i := 1) hob11 rfl
      have z1 := at_frozen (i := 1) hob11
      have f2 := at_cell (i := 2) hob11 rfl
      have z2 := at_frozen (i := 2) hob11
      have f3 := at_cell (i := 3) hob11 rfl
      have z3 := at_frozen (i := 3) hob11
      have f4 := at_cell (i := 4) hob11 rfl
      have z4 := at_frozen (i := 4) hob11
      have f5 := at_cell (i := 5) hob11 rfl
      have z5 := at_frozen (i := 5) hob11
      have f6 := at_cell (i := 6) hob11 rfl
      have z6 := at_frozen (i := 6) hob11
      go_simp
      have hoth : (Value.slice A3 n1 c3).ownBlock ≠ some (x10.heap.size) := fun h => hne.out _ h rfl
      have hboz1 : w.heap.size ≤ x10.heap.size := by omega
      have hOB : (((((((x11.setCell ⟨x10.heap.size, 0, none⟩ (.int .i64 r1.kind)).setCell ⟨x10.heap.size, 1, none⟩ (.string (tx r1.target))).setCell ⟨x10.heap.size, 2, none⟩ (.int .u64 r1.rule)).setCell ⟨x10.heap.size, 3, none⟩ (.slice A3 n1 c3)).setCell ⟨x10.heap.size, 4, none⟩ (.int .u64 r1.out)).setCell ⟨x10.heap.size, 5, none⟩ (.int .u64 r1.time)).setCell ⟨x10.heap.size, 6, none⟩ (.string (tx r1.tag))).heap[x10.heap.size]? = some (.cells #[.int .i64 r1.kind, .string (tx r1.target), .int .u64 r1.rule, .slice A3 n1 c3, .int .u64 r1.out, .int .u64 r1.time, .string (tx r1.tag)] 25 (0, 0)) := (set_same (set_same (set_same (set_same (set_same (set_same (set_same hob11 0 (.int .i64 r1.kind)) 1 (.string (tx r1.target))) 2 (.int .u64 r1.rule)) 3 (.slice A3 n1 c3)) 4 (.int .u64 r1.out)) 5 (.int .u64 r1.time)) 6 (.string (tx r1.tag)))
      have hOR := (ownsRow_setCell_other (ownsRow_setCell_other (ownsRow_setCell_other (ownsRow_setCell_other (ownsRow_setCell_other (ownsRow_setCell_other (ownsRow_setCell_other hrow11 (a := ⟨x10.heap.size, 0, none⟩) hoth (.int .i64 r1.kind)) (a := ⟨x10.heap.size, 1, none⟩) hoth (.string (tx r1.target))) (a := ⟨x10.heap.size, 2, none⟩) hoth (.int .u64 r1.rule)) (a := ⟨x10.heap.size, 3, none⟩) hoth (.slice A3 n1 c3)) (a := ⟨x10.heap.size, 4, none⟩) hoth (.int .u64 r1.out)) (a := ⟨x10.heap.size, 5, none⟩) hoth (.int .u64 r1.time)) (a := ⟨x10.heap.size, 6, none⟩) hoth (.string (tx r1.tag)))
      have hS20 := (Below.setCell (Below.setCell (Below.setCell (Below.setCell (Below.setCell (Below.setCell (Below.setCell hS11x (p := ⟨x10.heap.size, 0, none⟩) hboz (.int .i64 r1.kind)) (p := ⟨x10.heap.size, 1, none⟩) hboz (.string (tx r1.target))) (p := ⟨x10.heap.size, 2, none⟩) hboz (.int .u64 r1.rule)) (p := ⟨x10.heap.size, 3, none⟩) hboz (.slice A3 n1 c3)) (p := ⟨x10.heap.size, 4, none⟩) hboz (.int .u64 r1.out)) (p := ⟨x10.heap.size, 5, none⟩) hboz (.int .u64 r1.time)) (p := ⟨x10.heap.size, 6, none⟩) hboz (.string (tx r1.tag)))
      have hB20 := (Below.setCell (Below.setCell (Below.setCell (Below.setCell (Below.setCell (Below.setCell (Below.setCell hB11x (p := ⟨x10.heap.size, 0, none⟩) hboz1 (.int .i64 r1.kind)) (p := ⟨x10.heap.size, 1, none⟩) hboz1 (.string (tx r1.target))) (p := ⟨x10.heap.size, 2, none⟩) hboz1 (.int .u64 r1.rule)) (p := ⟨x10.heap.size, 3, none⟩) hboz1 (.slice A3 n1 c3)) (p := ⟨x10.heap.size, 4, none⟩) hboz1 (.int .u64 r1.out)) (p := ⟨x10.heap.size, 5, none⟩) hboz1 (.int .u64 r1.time)) (p := ⟨x10.heap.size, 6, none⟩) hboz1 (.string (tx r1.tag)))
      have hbolt : x10.heap.size < (((((((x11.setCell ⟨x10.heap.size, 0, none⟩ (.int .i64 r1.kind)).setCell ⟨x10.heap.size, 1, none⟩ (.string (tx r1.target))).setCell ⟨x10.heap.size, 2, none⟩ (.int .u64 r1.rule)).setCell ⟨x10.heap.size, 3, none⟩ (.slice A3 n1 c3)).setCell ⟨x10.heap.size, 4, none⟩ (.int .u64 r1.out)).setCell ⟨x10.heap.size, 5, none⟩ (.int .u64 r1.time)).setCell ⟨x10.heap.size, 6, none⟩ (.string (tx r1.tag))).heap.size := by
        rcases Nat.lt_or_ge (x10.heap.size) (((((((x11.setCell ⟨x10.heap.size, 0, none⟩ (.int .i64 r1.kind)).setCell ⟨x10.heap.size, 1, none⟩ (.string (tx r1.target))).setCell ⟨x10.heap.size, 2, none⟩ (.int .u64 r1.rule)).setCell ⟨x10.heap.size, 3, none⟩ (.slice A3 n1 c3)).setCell ⟨x10.heap.size, 4, none⟩ (.int .u64 r1.out)).setCell ⟨x10.heap.size, 5, none⟩ (.int .u64 r1.time)).setCell ⟨x10.heap.size, 6, none⟩ (.string (tx r1.tag))).heap.size with h | h
        · exact h
        · rw [Array.getElem?_eq_none h] at hOB; cases hOB
      refine hK _ _ hS20 ?_
      clear hK K
      generalize hX20 : (((((((x11.setCell ⟨x10.heap.size, 0, none⟩ (.int .i64 r1.kind)).setCell ⟨x10.heap.size, 1, none⟩ (.string (tx r1.target))).setCell ⟨x10.heap.size, 2, none⟩ (.int .u64 r1.rule)).setCell ⟨x10.heap.size, 3, none⟩ (.slice A3 n1 c3)).setCell ⟨x10.heap.size, 4, none⟩ (.int .u64 r1.out)).setCell ⟨x10.heap.size, 5, none⟩ (.int .u64 r1.time)).setCell ⟨x10.heap.size, 6, none⟩ (.string (tx r1.tag))) = w20 at *
      generalize hbo : x10.heap.size = bo at *
      clear hX20 hoth hboz1 f0 f1 f2 f3 f4 f5 f6 z0 z1 z2 z3 z4 z5 z6
      refine wpAnyH_done (by kernel_rfl) ?_ _
      go_simp
      have HOB := Lib.hid hOB
      have HOR := Lib.hid hOR
      have HS20 := Lib.hid hS20
      have HB20 := Lib.hid hB20
      have HBOLT := Lib.hid hbolt
      have HBOZ := Lib.hid hboz
      have HNE : Hid (∀ g, (Value.slice A3 n1 c3).ownBlock = some g → g ≠ bo) := hne.out
      have HA3 := Lib.hid hA3
      have o0 := at_cell (i := 0) hOB rfl
      have o1 := at_cell (i := 1) hOB rfl
      have o2 := at_cell (i := 2) hOB rfl
      have o3 := at_cell (i := 3) hOB rfl
      have o4 := at_cell (i := 4) hOB rfl
      have o5 := at_cell (i := 5) hOB rfl
      have o6 := at_cell (i := 6) hOB rfl
      have HCL := Lib.hid (clone_any r1 A3 n1 c3 l1 hA3 (by omega) w20 (Reads.of_own hOR))
      have hS20Z : Hid (w.heap.size + 2 ≤ w20.heap.size) := by have h1 := hS20.size; have h2 := HSZ.out; show _ ≤ _; omega
      have HLT20 : Hid (∀ g, (Value.slice A3 n1 c3).ownBlock = some g → g < w20.heap.size) := own_lt hOR
      unfold rcv rsv at HCL
      clear hOB hOR hS20 hB20 hbolt hne hA3
      go_wp2_with (go_at_call 17; refine HCL.out.mono ?_; rintro e w21 ⟨A4, c4, rfl, hd4, hb21⟩; have HD4 := Lib.hid (World.ownsRow.alloc hd4.1 (.cells #[.int .i64 r1.kind, .string (tx r1.target), .int .u64 r1.rule, .slice A4 n1 c4, .int .u64 r1.out, .int .u64 r1.time, .string (tx r1.tag)] 25)); have HB22 := Lib.hid ((HB20.out.trans (hb21.mono HB20.out.size)).alloc (by have h1 := HB20.out.size; have h2 := hb21.size; omega) (.cells #[.int .i64 r1.kind, .string (tx r1.target), .int .u64 r1.rule, .slice A4 n1 c4, .int .u64 r1.out, .int .u64 r1.time, .string (tx r1.tag)] 25)); have HS22 := Lib.hid ((HS20.out.trans (hb21.mono hS20Z.out)).alloc (by have h1 := hS20Z.out; have h2 := hb21.size; omega) (.cells #[.int .i64 r1.kind, .string (tx r1.target), .int .u64 r1.rule, .slice A4 n1 c4, .int .u64 r1.out, .int .u64 r1.time, .string (tx r1.tag)] 25)); have HOB22 := Lib.hid ((Below.heap_alloc w21 (.cells #[.int .i64 r1.kind, .string (tx r1.target), .int .u64 r1.rule, .slice A4 n1 c4, .int .u64 r1.out, .int .u64 r1.time, .string (tx r1.tag)] 25) bo (by have h1 := HBOLT.out; have h2 := hb21.size; omega)).trans ((hb21.block bo HBOLT.out).trans HOB.out)); have HC22 := Lib.hid (one_new w21 (.cells #[.int .i64 r1.kind, .string (tx r1.target), .int .u64 r1.rule, .slice A4 n1 c4, .int .u64 r1.out, .int .u64 r1.time, .string (tx r1.tag)] 25)); have HC22Z : Hid (w21.heap.size < (w21.alloc (.cells #[.int .i64 r1.kind, .string (tx r1.target), .int .u64 r1.rule, .slice A4 n1 c4, .int .u64 r1.out, .int .u64 r1.time, .string (tx r1.tag)] 25)).heap.size) := (by show _ < _; simp); have HOR22 := Lib.hid (World.ownsRow.alloc (own_below HOR.out hb21) (.cells #[.int .i64 r1.kind, .string (tx r1.target), .int .u64 r1.rule, .slice A4 n1 c4, .int .u64 r1.out, .int .u64 r1.time, .string (tx r1.tag)] 25)); have hs21 : Hid (w20.heap.size ≤ w21.heap.size) := hb21.size; have p3 := at_cell (i := 3) HOB22.out rfl; clear hd4 hb21)
      go_loopw [59] (fun idx wr => HmRel W0 bo w21.heap.size (w.heap.size + 2) w20.heap.size (.cells #[.int .i64 r1.kind, .string (tx r1.target), .int .u64 r1.rule, .slice A3 n1 c3, .int .u64 r1.out, .int .u64 r1.time, .string (tx r1.tag)] 25 (0, 0)) (.cells #[.int .i64 r1.kind, .string (tx r1.target), .int .u64 r1.rule, .slice A4 n1 c4, .int .u64 r1.out, .int .u64 r1.time, .string (tx r1.tag)] 25 (0, 0)) (.slice A3 n1 c3) (.slice A4 n1 c4) n1 l1 idx wr) (fun idx wr => n1 - (intOf idx).toNat)
      case atStart => exact ⟨0, by omega, rfl, ⟨l1, HOR22.out⟩, HOB22.out, HC22.out, HD4.out, HS22.out, HC22Z.out⟩
      case round =>
        obtain ⟨i, hi, rfl, ⟨l', hrow⟩, hob, hcb, hd4, hs, hcz⟩ := hrel
        have HROW := Lib.hid hrow
        have HOBR := Lib.hid hob
        have HCBR := Lib.hid hcb
        have HD4R := Lib.hid hd4
        have HSR := Lib.hid hs
        have HCZ := Lib.hid hcz
        have p3 := at_cell (i := 3) hob rfl
        by_cases hlt : i < n1
        · obtain ⟨g, cap, hv, hgb, hgs⟩ := hrow.form (by omega)
          obtain rfl : A3 = some ⟨g, 0, none⟩ := by injection hv
          obtain rfl : c3 = cap := by injection hv
          have hg20 : g < w20.heap.size := HLT20.out g rfl
          have hgo : g ≠ bo := HNE.out g rfl
          have hll : l'.length = n1 := by have := hrow.1; rw [dps_len] at this; omega
          obtain ⟨x, hx⟩ : ∃ x, l'[i]? = some x := ⟨_, List.getElem?_eq_getElem (by omega)⟩
          have hcl : wr.cell? ⟨g, i * 3 + 1, none⟩ = some (.int .u64 x.hash) := by
            have h1 := (Reads.of_own hrow).2 (by omega)
            obtain ⟨ad, had, _, hc⟩ := h1
            obtain rfl : ad = ⟨g, 0, none⟩ := by injection had with had; exact had.symm
            have h2 := hc _ _ (dps_at l' i x hx).2.1
            simpa [Addr.add] using h2
          have hfz : wr.frozen? ⟨g, i * 3 + 1, none⟩ = false := by
            obtain ⟨_, ⟨h2, _⟩ | ⟨g', cap, cur, hv2, _, hg2, _⟩⟩ := hrow
            · cases h2
            · obtain rfl : g = g' := by injection hv2 with e; injection e with e; injection e
              exact at_frozen hg2
          have HSET := Lib.hid (fun z => deps_hash hrow i x hx z)
          have hi0 : (0 : Int) ≤ (i : Int) := by omega
          have hi1 : (i : Int) < (n1 : Int) := by omega
          have hbo2 := HBOZ.out
          have hs2 := hs21.out
          clear hrow hob hcb hd4 hs hcz hx hv hll
          go_wp2
          refine ⟨⟨i + 1, by omega, by go_num, ⟨_, HSET.out _⟩, (Below.heap_setCell _ _ _ _ (by show bo ≠ g; omega)).trans HOBR.out, (Below.heap_setCell _ _ _ _ (by show w21.heap.size ≠ g; omega)).trans HCBR.out, ownsRow_setCell_below HD4R.out (by show g < w20.heap.size; omega) _, HSR.out.setCell (by show w.heap.size + 2 ≤ g; omega) _, by simpa [World.setCell] using HCZ.out⟩, by simp [intOf]; omega⟩
        · obtain rfl : i = n1 := by omega
          have e0 := at_cell (i := 0) hcb rfl
          have e1 := at_cell (i := 1) hcb rfl
          have e2 := at_cell (i := 2) hcb rfl
          have e3 := at_cell (i := 3) hcb rfl
          have e4 := at_cell (i := 4) hcb rfl
          have e5 := at_cell (i := 5) hcb rfl
          have e6 := at_cell (i := 6) hcb rfl
          have HBR := Lib.hid (HB0.out.trans (hs.mono (by omega)))
          have HSRZ : Hid (w.heap.size + 2 ≤ wr.heap.size) := by have h1 := hs.size; have h2 := HSZ.out; show _ ≤ _; omega
          have HRD := Lib.hid (Reads.of_own hd4)
          clear hrow hob hcb hd4 hs hcz
          go_wp2_with (first
            | (go_at_call 16; have hk := HB24.out.size; refine (rsame_any r1 r1 A4 A i i c4 c1 l1 l1 (by omega) _ HRD24.out HRA24.out).mono ?_; rintro e w25 ⟨q, hq, rfl, hb25⟩; obtain rfl : q = true := (hq.2 ⟨rfl, rfl⟩); have HB25 := Lib.hid (HB24.out.trans (hb25.mono HB24.out.size)); clear hb25)
            | (go_at_call 7; refine (HFX.out _).mono ?_; rintro e w24 ⟨rfl, hb24⟩; have HB24 := Lib.hid (HBR.out.trans (hb24.mono HBR.out.size)); have HS24 := Lib.hid (HSR.out.trans (hb24.mono HSRZ.out)); have a0 := HCA.out (i := 0) rfl HS24.out; have a1 := HCA.out (i := 1) rfl HS24.out; have a2 := HCA.out (i := 2) rfl HS24.out; have a3 := HCA.out (i := 3) rfl HS24.out; have a4 := HCA.out (i := 4) rfl HS24.out; have a5 := HCA.out (i := 5) rfl HS24.out; have a6 := HCA.out (i := 6) rfl HS24.out; have d0 := (hb24.cell (p := ⟨w21.heap.size, 0, none⟩) HCZ.out).trans e0; have d1 := (hb24.cell (p := ⟨w21.heap.size, 1, none⟩) HCZ.out).trans e1; have d2 := (hb24.cell (p := ⟨w21.heap.size, 2, none⟩) HCZ.out).trans e2; have d3 := (hb24.cell (p := ⟨w21.heap.size, 3, none⟩) HCZ.out).trans e3; have d4 := (hb24.cell (p := ⟨w21.heap.size, 4, none⟩) HCZ.out).trans e4; have d5 := (hb24.cell (p := ⟨w21.heap.size, 5, none⟩) HCZ.out).trans e5; have d6 := (hb24.cell (p := ⟨w21.heap.size, 6, none⟩) HCZ.out).trans e6; have HRD24 := Lib.hid ((HRD.out.below hb24).more hb24.size); have HRA24 := Lib.hid ((H1.out.below HB24.out).more HB24.out.size); clear hb24))
          go_ret
          exact ⟨rfl, HB25.out⟩
    · go_simp
      have hS11x : Below (w.heap.size + 2) W0 (x9.alloc (.cells #[.int .i64 0, .string { data := #[] }, .int .u64 0, .slice none 0 0, .int .u64 0, .int .u64 0, .string { data := #[] }] 25)) := hS9x.alloc (by have h1 := hS9x.size; have h2 := HSZ.out; omega) _
      have hB11x : Below w.heap.size w (x9.alloc (.cells #[.int .i64 0, .string { data := #[] }, .int .u64 0, .slice none 0 0, .int .u64 0, .int .u64 0, .string { data := #[] }] 25)) := hB9x.alloc hB9x.size _
      have hob11 := one_new x9 (.cells #[.int .i64 0, .string { data := #[] }, .int .u64 0, .slice none 0 0, .int .u64 0, .int .u64 0, .string { data := #[] }] 25)
      have hz11 : Hid ((x9.alloc (.cells #[.int .i64 0, .string { data := #[] }, .int .u64 0, .slice none 0 0, .int .u64 0, .int .u64 0, .string { data := #[] }] 25)).heap.size = x9.heap.size + 1) := by show _ = _; simp
      have hboz : w.heap.size + 2 ≤ x9.heap.size := by have h1 := hS9x.size; have h2 := HSZ.out; omega
      have hown11 := World.ownsRow.alloc hown9 (.cells #[.int .i64 0, .string { data := #[] }, .int .u64 0, .slice none 0 0, .int .u64 0, .int .u64 0, .string { data := #[] }] 25)
      refine hK _ _ hS11x ?_
      clear hK K
      generalize hX11 : x9.alloc (.cells #[.int .i64 0, .string { data := #[] }, .int .u64 0, .slice none 0 0, .int .u64 0, .int .u64 0, .string { data := #[] }] 25) = x11 at *
      clear hX11
      refine h_one 9 rfl (by kernel_rfl) (by kernel_rfl) (fun K hK => ?_)
      refine wp_append_many (.tmp 43) (.tmp 45) 23 rfl (w.heap.size + 2) 36 i0 _ 3 32 Try.underlying23 hi0 hz0 hz1 hz2 rfl (by decide) (.slice (some ⟨x8.heap.size, 0, none⟩) 0 0) 0 [] rfl (own_less hown11 hbs) A n1 c1 w.heap.size (dps l1) rfl hA (H1.out.below hB11x) (dps_one l1) (by unfold maxLen; omega) (by omega) (by have := hz9.out; have := hz11.out; omega) ?_
      intro v3 x10 hrow10 hg10 hv3
      rw [Nat.zero_add, List.nil_append] at hrow10
      obtain ⟨A3, c3, rfl, hA3⟩ := own_slice hrow10
      have hob : ∀ g, (Value.slice (some ⟨x8.heap.size, 0, none⟩) 0 0).ownBlock = some g → g = x8.heap.size := fun g hg => by simpa [Value.ownBlock] using hg.symm
      have hS10x : Below (w.heap.size + 2) W0 x10 := hS11x.grown hg10 (by have := hz9.out; have := hz11.out; omega) (fun g hg => by have := hob g hg; omega)
      have hB10x : Below w.heap.size w x10 := hB11x.grown hg10 (by have := hz9.out; have := hz11.out; omega) (fun g hg => by have := hob g hg; omega)
      have hob10 := (hg10.block (x9.heap.size) (by have := hz9.out; have := hz11.out; omega) (fun h => by have := hz9.out; have := hz11.out; have := hob _ h.symm; omega)).trans hob11
      have hne : Hid (∀ g, (Value.slice A3 n1 c3).ownBlock = some g → g ≠ x9.heap.size) := fun g hg2 => by
        have := hz9.out; have := hz11.out
        rcases hv3 with h | h
        · rw [h] at hg2
          have := hob g hg2
          omega
        · rw [h] at hg2
          have e : x11.heap.size = g := by simpa using hg2
          omega
      clear hob hv3
      refine hK _ _ hS10x ?_
      clear hK K
      refine h_take 16 (.agg #[.int .i64 r1.kind, .string (tx r1.target), .int .u64 r1.rule, .slice A3 n1 c3, .int .u64 r1.out, .int .u64 r1.time, .string (tx r1.tag)]) rfl (by kernel_rfl) (by kernel_rfl) (by kernel_rfl) (fun _ _ _ h => h) (by kernel_rfl) hS10x (fun _ _ => by kernel_rfl) ?_
      refine h_one 18 rfl (by kernel_rfl) (by kernel_rfl) (fun K hK => ?_)
      have f0 := at_cell (i := 0) hob10 rfl
      have z0 := at_frozen (i := 0) hob10
      have f1 := at_cell (i := 1) hob10 rfl
      have z1 := at_frozen (i := 1) hob10
      have f2 := at_cell (i := 2) hob10 rfl
      have z2 := at_frozen (i := 2) hob10
      have f3 := at_cell (i := 3) hob10 rfl
      have z3 := at_frozen (i := 3) hob10
      have f4 := at_cell (i := 4) hob10 rfl
      have z4 := at_frozen (i := 4) hob10
      have f5 := at_cell (i := 5) hob10 rfl
      have z5 := at_frozen (i := 5) hob10
      have f6 := at_cell (i := 6) hob10 rfl
      have z6 := at_frozen (i := 6) hob10
      go_simp
      have hoth : (Value.slice A3 n1 c3).ownBlock ≠ some (x9.heap.size) := fun h => hne.out _ h rfl
      have hboz1 : w.heap.size ≤ x9.heap.size := by omega
      have hOB : (((((((x10.setCell ⟨x9.heap.size, 0, none⟩ (.int .i64 r1.kind)).setCell ⟨x9.heap.size, 1, none⟩ (.string (tx r1.target))).setCell ⟨x9.heap.size, 2, none⟩ (.int .u64 r1.rule)).setCell ⟨x9.heap.size, 3, none⟩ (.slice A3 n1 c3)).setCell ⟨x9.heap.size, 4, none⟩ (.int .u64 r1.out)).setCell ⟨x9.heap.size, 5, none⟩ (.int .u64 r1.time)).setCell ⟨x9.heap.size, 6, none⟩ (.string (tx r1.tag))).heap[x9.heap.size]? = some (.cells #[.int .i64 r1.kind, .string (tx r1.target), .int .u64 r1.rule, .slice A3 n1 c3, .int .u64 r1.out, .int .u64 r1.time, .string (tx r1.tag)] 25 (0, 0)) := (set_same (set_same (set_same (set_same (set_same (set_same (set_same hob10 0 (.int .i64 r1.kind)) 1 (.string (tx r1.target))) 2 (.int .u64 r1.rule)) 3 (.slice A3 n1 c3)) 4 (.int .u64 r1.out)) 5 (.int .u64 r1.time)) 6 (.string (tx r1.tag)))
      have hOR := (ownsRow_setCell_other (ownsRow_setCell_other (ownsRow_setCell_other (ownsRow_setCell_other (ownsRow_setCell_other (ownsRow_setCell_other (ownsRow_setCell_other hrow10 (a := ⟨x9.heap.size, 0, none⟩) hoth (.int .i64 r1.kind)) (a := ⟨x9.heap.size, 1, none⟩) hoth (.string (tx r1.target))) (a := ⟨x9.heap.size, 2, none⟩) hoth (.int .u64 r1.rule)) (a := ⟨x9.heap.size, 3, none⟩) hoth (.slice A3 n1 c3)) (a := ⟨x9.heap.size, 4, none⟩) hoth (.int .u64 r1.out)) (a := ⟨x9.heap.size, 5, none⟩) hoth (.int .u64 r1.time)) (a := ⟨x9.heap.size, 6, none⟩) hoth (.string (tx r1.tag)))
      have hS20 := (Below.setCell (Below.setCell (Below.setCell (Below.setCell (Below.setCell (Below.setCell (Below.setCell hS10x (p := ⟨x9.heap.size, 0, none⟩) hboz (.int .i64 r1.kind)) (p := ⟨x9.heap.size, 1, none⟩) hboz (.string (tx r1.target))) (p := ⟨x9.heap.size, 2, none⟩) hboz (.int .u64 r1.rule)) (p := ⟨x9.heap.size, 3, none⟩) hboz (.slice A3 n1 c3)) (p := ⟨x9.heap.size, 4, none⟩) hboz (.int .u64 r1.out)) (p := ⟨x9.heap.size, 5, none⟩) hboz (.int .u64 r1.time)) (p := ⟨x9.heap.size, 6, none⟩) hboz (.string (tx r1.tag)))
      have hB20 := (Below.setCell (Below.setCell (Below.setCell (Below.setCell (Below.setCell (Below.setCell (Below.setCell hB10x (p := ⟨x9.heap.size, 0, none⟩) hboz1 (.int .i64 r1.kind)) (p := ⟨x9.heap.size, 1, none⟩) hboz1 (.string (tx r1.target))) (p := ⟨x9.heap.size, 2, none⟩) hboz1 (.int .u64 r1.rule)) (p := ⟨x9.heap.size, 3, none⟩) hboz1 (.slice A3 n1 c3)) (p := ⟨x9.heap.size, 4, none⟩) hboz1 (.int .u64 r1.out)) (p := ⟨x9.heap.size, 5, none⟩) hboz1 (.int .u64 r1.time)) (p := ⟨x9.heap.size, 6, none⟩) hboz1 (.string (tx r1.tag)))
      have hbolt : x9.heap.size < (((((((x10.setCell ⟨x9.heap.size, 0, none⟩ (.int .i64 r1.kind)).setCell ⟨x9.heap.size, 1, none⟩ (.string (tx r1.target))).setCell ⟨x9.heap.size, 2, none⟩ (.int .u64 r1.rule)).setCell ⟨x9.heap.size, 3, none⟩ (.slice A3 n1 c3)).setCell ⟨x9.heap.size, 4, none⟩ (.int .u64 r1.out)).setCell ⟨x9.heap.size, 5, none⟩ (.int .u64 r1.time)).setCell ⟨x9.heap.size, 6, none⟩ (.string (tx r1.tag))).heap.size := by
        rcases Nat.lt_or_ge (x9.heap.size) (((((((x10.setCell ⟨x9.heap.size, 0, none⟩ (.int .i64 r1.kind)).setCell ⟨x9.heap.size, 1, none⟩ (.string (tx r1.target))).setCell ⟨x9.heap.size, 2, none⟩ (.int .u64 r1.rule)).setCell ⟨x9.heap.size, 3, none⟩ (.slice A3 n1 c3)).setCell ⟨x9.heap.size, 4, none⟩ (.int .u64 r1.out)).setCell ⟨x9.heap.size, 5, none⟩ (.int .u64 r1.time)).setCell ⟨x9.heap.size, 6, none⟩ (.string (tx r1.tag))).heap.size with h | h
        · exact h
        · rw [Array.getElem?_eq_none h] at hOB; cases hOB
      refine hK _ _ hS20 ?_
      clear hK K
      generalize hX20 : (((((((x10.setCell ⟨x9.heap.size, 0, none⟩ (.int .i64 r1.kind)).setCell ⟨x9.heap.size, 1, none⟩ (.string (tx r1.target))).setCell ⟨x9.heap.size, 2, none⟩ (.int .u64 r1.rule)).setCell ⟨x9.heap.size, 3, none⟩ (.slice A3 n1 c3)).setCell ⟨x9.heap.size, 4, none⟩ (.int .u64 r1.out)).setCell ⟨x9.heap.size, 5, none⟩ (.int .u64 r1.time)).setCell ⟨x9.heap.size, 6, none⟩ (.string (tx r1.tag))) = w20 at *
      generalize hbo : x9.heap.size = bo at *
      clear hX20 hoth hboz1 f0 f1 f2 f3 f4 f5 f6 z0 z1 z2 z3 z4 z5 z6
      refine wpAnyH_done (by kernel_rfl) ?_ _
      go_simp
      have HOB := Lib.hid hOB
      have HOR := Lib.hid hOR
      have HS20 := Lib.hid hS20
      have HB20 := Lib.hid hB20
      have HBOLT := Lib.hid hbolt
      have HBOZ := Lib.hid hboz
      have HNE : Hid (∀ g, (Value.slice A3 n1 c3).ownBlock = some g → g ≠ bo) := hne.out
      have HA3 := Lib.hid hA3
      have o0 := at_cell (i := 0) hOB rfl
      have o1 := at_cell (i := 1) hOB rfl
      have o2 := at_cell (i := 2) hOB rfl
      have o3 := at_cell (i := 3) hOB rfl
      have o4 := at_cell (i := 4) hOB rfl
      have o5 := at_cell (i := 5) hOB rfl
      have o6 := at_cell (i := 6) hOB rfl
      have HCL := Lib.hid (clone_any r1 A3 n1 c3 l1 hA3 (by omega) w20 (Reads.of_own hOR))
      have hS20Z : Hid (w.heap.size + 2 ≤ w20.heap.size) := by have h1 := hS20.size; have h2 := HSZ.out; show _ ≤ _; omega
      have HLT20 : Hid (∀ g, (Value.slice A3 n1 c3).ownBlock = some g → g < w20.heap.size) := own_lt hOR
      unfold rcv rsv at HCL
      clear hOB hOR hS20 hB20 hbolt hne hA3
      go_wp2_with (go_at_call 17; refine HCL.out.mono ?_; rintro e w21 ⟨A4, c4, rfl, hd4, hb21⟩; have HD4 := Lib.hid (World.ownsRow.alloc hd4.1 (.cells #[.int .i64 r1.kind, .string (tx r1.target), .int .u64 r1.rule, .slice A4 n1 c4, .int .u64 r1.out, .int .u64 r1.time, .string (tx r1.tag)] 25)); have HB22 := Lib.hid ((HB20.out.trans (hb21.mono HB20.out.size)).alloc (by have h1 := HB20.out.size; have h2 := hb21.size; omega) (.cells #[.int .i64 r1.kind, .string (tx r1.target), .int .u64 r1.rule, .slice A4 n1 c4, .int .u64 r1.out, .int .u64 r1.time, .string (tx r1.tag)] 25)); have HS22 := Lib.hid ((HS20.out.trans (hb21.mono hS20Z.out)).alloc (by have h1 := hS20Z.out; have h2 := hb21.size; omega) (.cells #[.int .i64 r1.kind, .string (tx r1.target), .int .u64 r1.rule, .slice A4 n1 c4, .int .u64 r1.out, .int .u64 r1.time, .string (tx r1.tag)] 25)); have HOB22 := Lib.hid ((Below.heap_alloc w21 (.cells #[.int .i64 r1.kind, .string (tx r1.target), .int .u64 r1.rule, .slice A4 n1 c4, .int .u64 r1.out, .int .u64 r1.time, .string (tx r1.tag)] 25) bo (by have h1 := HBOLT.out; have h2 := hb21.size; omega)).trans ((hb21.block bo HBOLT.out).trans HOB.out)); have HC22 := Lib.hid (one_new w21 (.cells #[.int .i64 r1.kind, .string (tx r1.target), .int .u64 r1.rule, .slice A4 n1 c4, .int .u64 r1.out, .int .u64 r1.time, .string (tx r1.tag)] 25)); have HC22Z : Hid (w21.heap.size < (w21.alloc (.cells #[.int .i64 r1.kind, .string (tx r1.target), .int .u64 r1.rule, .slice A4 n1 c4, .int .u64 r1.out, .int .u64 r1.time, .string (tx r1.tag)] 25)).heap.size) := (by show _ < _; simp); have HOR22 := Lib.hid (World.ownsRow.alloc (own_below HOR.out hb21) (.cells #[.int .i64 r1.kind, .string (tx r1.target), .int .u64 r1.rule, .slice A4 n1 c4, .int .u64 r1.out, .int .u64 r1.time, .string (tx r1.tag)] 25)); have hs21 : Hid (w20.heap.size ≤ w21.heap.size) := hb21.size; have p3 := at_cell (i := 3) HOB22.out rfl; clear hd4 hb21)
      go_loopw [59] (fun idx wr => HmRel W0 bo w21.heap.size (w.heap.size + 2) w20.heap.size (.cells #[.int .i64 r1.kind, .string (tx r1.target), .int .u64 r1.rule, .slice A3 n1 c3, .int .u64 r1.out, .int .u64 r1.time, .string (tx r1.tag)] 25 (0, 0)) (.cells #[.int .i64 r1.kind, .string (tx r1.target), .int .u64 r1.rule, .slice A4 n1 c4, .int .u64 r1.out, .int .u64 r1.time, .string (tx r1.tag)] 25 (0, 0)) (.slice A3 n1 c3) (.slice A4 n1 c4) n1 l1 idx wr) (fun idx wr => n1 - (intOf idx).toNat)
      case atStart => exact ⟨0, by omega, rfl, ⟨l1, HOR22.out⟩, HOB22.out, HC22.out, HD4.out, HS22.out, HC22Z.out⟩
      case round =>
        obtain ⟨i, hi, rfl, ⟨l', hrow⟩, hob, hcb, hd4, hs, hcz⟩ := hrel
        have HROW := Lib.hid hrow
        have HOBR := Lib.hid hob
        have HCBR := Lib.hid hcb
        have HD4R := Lib.hid hd4
        have HSR := Lib.hid hs
        have HCZ := Lib.hid hcz
        have p3 := at_cell (i := 3) hob rfl
        by_cases hlt : i < n1
        · obtain ⟨g, cap, hv, hgb, hgs⟩ := hrow.form (by omega)
          obtain rfl : A3 = some ⟨g, 0, none⟩ := by injection hv
          obtain rfl : c3 = cap := by injection hv
          have hg20 : g < w20.heap.size := HLT20.out g rfl
          have hgo : g ≠ bo := HNE.out g rfl
          have hll : l'.length = n1 := by have := hrow.1; rw [dps_len] at this; omega
          obtain ⟨x, hx⟩ : ∃ x, l'[i]? = some x := ⟨_, List.getElem?_eq_getElem (by omega)⟩
          have hcl : wr.cell? ⟨g, i * 3 + 1, none⟩ = some (.int .u64 x.hash) := by
            have h1 := (Reads.of_own hrow).2 (by omega)
            obtain ⟨ad, had, _, hc⟩ := h1
            obtain rfl : ad = ⟨g, 0, none⟩ := by injection had with had; exact had.symm
            have h2 := hc _ _ (dps_at l' i x hx).2.1
            simpa [Addr.add] using h2
          have hfz : wr.frozen? ⟨g, i * 3 + 1, none⟩ = false := by
            obtain ⟨_, ⟨h2, _⟩ | ⟨g', cap, cur, hv2, _, hg2, _⟩⟩ := hrow
            · cases h2
            · obtain rfl : g = g' := by injection hv2 with e; injection e with e; injection e
              exact at_frozen hg2
          have HSET := Lib.hid (fun z => deps_hash hrow i x hx z)
          have hi0 : (0 : Int) ≤ (i : Int) := by omega
          have hi1 : (i : Int) < (n1 : Int) := by omega
          have hbo2 := HBOZ.out
          have hs2 := hs21.out
          clear hrow hob hcb hd4 hs hcz hx hv hll
          go_wp2
          refine ⟨⟨i + 1, by omega, by go_num, ⟨_, HSET.out _⟩, (Below.heap_setCell _ _ _ _ (by show bo ≠ g; omega)).trans HOBR.out, (Below.heap_setCell _ _ _ _ (by show w21.heap.size ≠ g; omega)).trans HCBR.out, ownsRow_setCell_below HD4R.out (by show g < w20.heap.size; omega) _, HSR.out.setCell (by show w.heap.size + 2 ≤ g; omega) _, by simpa [World.setCell] using HCZ.out⟩, by simp [intOf]; omega⟩
        · obtain rfl : i = n1 := by omega
          have e0 := at_cell (i := 0) hcb rfl
          have e1 := at_cell (i := 1) hcb rfl
          have e2 := at_cell (i := 2) hcb rfl
          have e3 := at_cell (i := 3) hcb rfl
          have e4 := at_cell (i := 4) hcb rfl
          have e5 := at_cell (i := 5) hcb rfl
          have e6 := at_cell (i := 6) hcb rfl
          have HBR := Lib.hid (HB0.out.trans (hs.mono (by omega)))
          have HSRZ : Hid (w.heap.size + 2 ≤ wr.heap.size) := by have h1 := hs.size; have h2 := HSZ.out; show _ ≤ _; omega
          have HRD := Lib.hid (Reads.of_own hd4)
          clear hrow hob hcb hd4 hs hcz
          go_wp2_with (first
            | (go_at_call 16; have hk := HB24.out.size; refine (rsame_any r1 r1 A4 A i i c4 c1 l1 l1 (by omega) _ HRD24.out HRA24.out).mono ?_; rintro e w25 ⟨q, hq, rfl, hb25⟩; obtain rfl : q = true := (hq.2 ⟨rfl, rfl⟩); have HB25 := Lib.hid (HB24.out.trans (hb25.mono HB24.out.size)); clear hb25)
            | (go_at_call 7; refine (HFX.out _).mono ?_; rintro e w24 ⟨rfl, hb24⟩; have HB24 := Lib.hid (HBR.out.trans (hb24.mono HBR.out.size)); have HS24 := Lib.hid (HSR.out.trans (hb24.mono HSRZ.out)); have a0 := HCA.out (i := 0) rfl HS24.out; have a1 := HCA.out (i := 1) rfl HS24.out; have a2 := HCA.out (i := 2) rfl HS24.out; have a3 := HCA.out (i := 3) rfl HS24.out; have a4 := HCA.out (i := 4) rfl HS24.out; have a5 := HCA.out (i := 5) rfl HS24.out; have a6 := HCA.out (i := 6) rfl HS24.out; have d0 := (hb24.cell (p := ⟨w21.heap.size, 0, none⟩) HCZ.out).trans e0; have d1 := (hb24.cell (p := ⟨w21.heap.size, 1, none⟩) HCZ.out).trans e1; have d2 := (hb24.cell (p := ⟨w21.heap.size, 2, none⟩) HCZ.out).trans e2; have d3 := (hb24.cell (p := ⟨w21.heap.size, 3, none⟩) HCZ.out).trans e3; have d4 := (hb24.cell (p := ⟨w21.heap.size, 4, none⟩) HCZ.out).trans e4; have d5 := (hb24.cell (p := ⟨w21.heap.size, 5, none⟩) HCZ.out).trans e5; have d6 := (hb24.cell (p := ⟨w21.heap.size, 6, none⟩) HCZ.out).trans e6; have HRD24 := Lib.hid ((HRD.out.below hb24).more hb24.size); have HRA24 := Lib.hid ((H1.out.below HB24.out).more HB24.out.size); clear hb24))
          go_ret
          exact ⟨rfl, HB25.out⟩
  · go_simp
    have hS11x : Below (w.heap.size + 2) W0 (x8.alloc (.cells #[.int .i64 0, .string { data := #[] }, .int .u64 0, .slice none 0 0, .int .u64 0, .int .u64 0, .string { data := #[] }] 25)) := hS8x.alloc (by have h1 := hS8x.size; have h2 := HSZ.out; omega) _
    have hB11x : Below w.heap.size w (x8.alloc (.cells #[.int .i64 0, .string { data := #[] }, .int .u64 0, .slice none 0 0, .int .u64 0, .int .u64 0, .string { data := #[] }] 25)) := hB8x.alloc hB8x.size _
    have hob11 := one_new x8 (.cells #[.int .i64 0, .string { data := #[] }, .int .u64 0, .slice none 0 0, .int .u64 0, .int .u64 0, .string { data := #[] }] 25)
    have hz11 : Hid ((x8.alloc (.cells #[.int .i64 0, .string { data := #[] }, .int .u64 0, .slice none 0 0, .int .u64 0, .int .u64 0, .string { data := #[] }] 25)).heap.size = x8.heap.size + 1) := by show _ = _; simp
    have hboz : w.heap.size + 2 ≤ x8.heap.size := by have h1 := hS8x.size; have h2 := HSZ.out; omega
    refine hK _ _ hS11x ?_
    clear hK K
    generalize hX11 : x8.alloc (.cells #[.int .i64 0, .string { data := #[] }, .int .u64 0, .slice none 0 0, .int .u64 0, .int .u64 0, .string { data := #[] }] 25) = x11 at *
    clear hX11
    refine h_one 6 rfl (by kernel_rfl) (by kernel_rfl) (fun K hK => ?_)
    go_simp
    have hS9x : Below (w.heap.size + 2) W0 (x11.alloc (.cells #[] 36)) := hS11x.alloc (by have h1 := hS11x.size; have h2 := HSZ.out; omega) _
    have hB9x : Below w.heap.size w (x11.alloc (.cells #[] 36)) := hB11x.alloc hB11x.size _
    have hown9 : (x11.alloc (.cells #[] 36)).ownsRow x11.heap.size 36 3 (.slice (some ⟨x11.heap.size, 0, none⟩) 0 0) 0 [] := own_empty3 x11 _
    have hz9 : Hid ((x11.alloc (.cells #[] 36)).heap.size = x11.heap.size + 1) := by show _ = _; simp
    have hbs : w.heap.size + 2 ≤ x11.heap.size := by have h1 := hS11x.size; have h2 := HSZ.out; omega
    have hob9 := (Below.heap_alloc x11 (.cells #[] 36) (x8.heap.size) (by have := hz11.out; omega)).trans hob11
    refine hK _ _ hS9x ?_
    clear hK K
    generalize hX9 : x11.alloc (.cells #[] 36) = x9 at *
    clear hX9
    refine h_one 9 rfl (by kernel_rfl) (by kernel_rfl) (fun K hK => ?_)
    refine wp_append_many (.tmp 43) (.tmp 45) 23 rfl (w.heap.size + 2) 36 i0 _ 3 32 Try.underlying23 hi0 hz0 hz1 hz2 rfl (by decide) (.slice (some ⟨x11.heap.size, 0, none⟩) 0 0) 0 [] rfl (own_less hown9 hbs) A n1 c1 w.heap.size (dps l1) rfl hA (H1.out.below hB9x) (dps_one l1) (by unfold maxLen; omega) (by omega) (by have := hz9.out; have := hz11.out; omega) ?_
    intro v3 x10 hrow10 hg10 hv3
    rw [Nat.zero_add, List.nil_append] at hrow10
    obtain ⟨A3, c3, rfl, hA3⟩ := own_slice hrow10
    have hob : ∀ g, (Value.slice (some ⟨x11.heap.size, 0, none⟩) 0 0).ownBlock = some g → g = x11.heap.size := fun g hg => by simpa [Value.ownBlock] using hg.symm
    have hS10x : Below (w.heap.size + 2) W0 x10 := hS9x.grown hg10 (by have := hz9.out; have := hz11.out; omega) (fun g hg => by have := hob g hg; omega)
    have hB10x : Below w.heap.size w x10 := hB9x.grown hg10 (by have := hz9.out; have := hz11.out; omega) (fun g hg => by have := hob g hg; omega)
    have hob10 := (hg10.block (x8.heap.size) (by have := hz9.out; have := hz11.out; omega) (fun h => by have := hz9.out; have := hz11.out; have := hob _ h.symm; omega)).trans hob9
    have hne : Hid (∀ g, (Value.slice A3 n1 c3).ownBlock = some g → g ≠ x8.heap.size) := fun g hg2 => by
      have := hz9.out; have := hz11.out
      rcases hv3 with h | h
      · rw [h] at hg2
        have := hob g hg2
        omega
      · rw [h] at hg2
        have e : x9.heap.size = g := by simpa using hg2
        omega
    clear hob hv3
    refine hK _ _ hS10x ?_
    clear hK K
    refine h_take 16 (.agg #[.int .i64 r1.kind, .string (tx r1.target), .int .u64 r1.rule, .slice A3 n1 c3, .int .u64 r1.out, .int .u64 r1.time, .string (tx r1.tag)]) rfl (by kernel_rfl) (by kernel_rfl) (by kernel_rfl) (fun _ _ _ h => h) (by kernel_rfl) hS10x (fun _ _ => by kernel_rfl) ?_
    refine h_one 18 rfl (by kernel_rfl) (by kernel_rfl) (fun K hK => ?_)
    have f0 := at_cell (i := 0) hob10 rfl
    have z0 := at_frozen (i := 0) hob10
    have f1 := at_cell (i := 1) hob10 rfl
    have z1 := at_frozen (i := 1) hob10
    have f2 := at_cell (i := 2) hob10 rfl
    have z2 := at_frozen (i := 2) hob10
    have f3 := at_cell (i := 3) hob10 rfl
    have z3 := at_frozen (i := 3) hob10
    have f4 := at_cell (i := 4) hob10 rfl
    have z4 := at_frozen (i := 4) hob10
    have f5 := at_cell (i := 5) hob10 rfl
    have z5 := at_frozen (i := 5) hob10
    have f6 := at_cell (i := 6) hob10 rfl
    have z6 := at_frozen (i := 6) hob10
    go_simp
    have hoth : (Value.slice A3 n1 c3).ownBlock ≠ some (x8.heap.size) := fun h => hne.out _ h rfl
    have hboz1 : w.heap.size ≤ x8.heap.size := by omega
    have hOB : (((((((x10.setCell ⟨x8.heap.size, 0, none⟩ (.int .i64 r1.kind)).setCell ⟨x8.heap.size, 1, none⟩ (.string (tx r1.target))).setCell ⟨x8.heap.size, 2, none⟩ (.int .u64 r1.rule)).setCell ⟨x8.heap.size, 3, none⟩ (.slice A3 n1 c3)).setCell ⟨x8.heap.size, 4, none⟩ (.int .u64 r1.out)).setCell ⟨x8.heap.size, 5, none⟩ (.int .u64 r1.time)).setCell ⟨x8.heap.size, 6, none⟩ (.string (tx r1.tag))).heap[x8.heap.size]? = some (.cells #[.int .i64 r1.kind, .string (tx r1.target), .int .u64 r1.rule, .slice A3 n1 c3, .int .u64 r1.out, .int .u64 r1.time, .string (tx r1.tag)] 25 (0, 0)) := (set_same (set_same (set_same (set_same (set_same (set_same (set_same hob10 0 (.int .i64 r1.kind)) 1 (.string (tx r1.target))) 2 (.int .u64 r1.rule)) 3 (.slice A3 n1 c3)) 4 (.int .u64 r1.out)) 5 (.int .u64 r1.time)) 6 (.string (tx r1.tag)))
    have hOR := (ownsRow_setCell_other (ownsRow_setCell_other (ownsRow_setCell_other (ownsRow_setCell_other (ownsRow_setCell_other (ownsRow_setCell_other (ownsRow_setCell_other hrow10 (a := ⟨x8.heap.size, 0, none⟩) hoth (.int .i64 r1.kind)) (a := ⟨x8.heap.size, 1, none⟩) hoth (.string (tx r1.target))) (a := ⟨x8.heap.size, 2, none⟩) hoth (.int .u64 r1.rule)) (a := ⟨x8.heap.size, 3, none⟩) hoth (.slice A3 n1 c3)) (a := ⟨x8.heap.size, 4, none⟩) hoth (.int .u64 r1.out)) (a := ⟨x8.heap.size, 5, none⟩) hoth (.int .u64 r1.time)) (a := ⟨x8.heap.size, 6, none⟩) hoth (.string (tx r1.tag)))
    have hS20 := (Below.setCell (Below.setCell (Below.setCell (Below.setCell (Below.setCell (Below.setCell (Below.setCell hS10x (p := ⟨x8.heap.size, 0, none⟩) hboz (.int .i64 r1.kind)) (p := ⟨x8.heap.size, 1, none⟩) hboz (.string (tx r1.target))) (p := ⟨x8.heap.size, 2, none⟩) hboz (.int .u64 r1.rule)) (p := ⟨x8.heap.size, 3, none⟩) hboz (.slice A3 n1 c3)) (p := ⟨x8.heap.size, 4, none⟩) hboz (.int .u64 r1.out)) (p := ⟨x8.heap.size, 5, none⟩) hboz (.int .u64 r1.time)) (p := ⟨x8.heap.size, 6, none⟩) hboz (.string (tx r1.tag)))
    have hB20 := (Below.setCell (Below.setCell (Below.setCell (Below.setCell (Below.setCell (Below.setCell (Below.setCell hB10x (p := ⟨x8.heap.size, 0, none⟩) hboz1 (.int .i64 r1.kind)) (p := ⟨x8.heap.size, 1, none⟩) hboz1 (.string (tx r1.target))) (p := ⟨x8.heap.size, 2, none⟩) hboz1 (.int .u64 r1.rule)) (p := ⟨x8.heap.size, 3, none⟩) hboz1 (.slice A3 n1 c3)) (p := ⟨x8.heap.size, 4, none⟩) hboz1 (.int .u64 r1.out)) (p := ⟨x8.heap.size, 5, none⟩) hboz1 (.int .u64 r1.time)) (p := ⟨x8.heap.size, 6, none⟩) hboz1 (.string (tx r1.tag)))
    have hbolt : x8.heap.size < (((((((x10.setCell ⟨x8.heap.size, 0, none⟩ (.int .i64 r1.kind)).setCell ⟨x8.heap.size, 1, none⟩ (.string (tx r1.target))).setCell ⟨x8.heap.size, 2, none⟩ (.int .u64 r1.rule)).setCell ⟨x8.heap.size, 3, none⟩ (.slice A3 n1 c3)).setCell ⟨x8.heap.size, 4, none⟩ (.int .u64 r1.out)).setCell ⟨x8.heap.size, 5, none⟩ (.int .u64 r1.time)).setCell ⟨x8.heap.size, 6, none⟩ (.string (tx r1.tag))).heap.size := by
      rcases Nat.lt_or_ge (x8.heap.size) (((((((x10.setCell ⟨x8.heap.size, 0, none⟩ (.int .i64 r1.kind)).setCell ⟨x8.heap.size, 1, none⟩ (.string (tx r1.target))).setCell ⟨x8.heap.size, 2, none⟩ (.int .u64 r1.rule)).setCell ⟨x8.heap.size, 3, none⟩ (.slice A3 n1 c3)).setCell ⟨x8.heap.size, 4, none⟩ (.int .u64 r1.out)).setCell ⟨x8.heap.size, 5, none⟩ (.int .u64 r1.time)).setCell ⟨x8.heap.size, 6, none⟩ (.string (tx r1.tag))).heap.size with h | h
      · exact h
      · rw [Array.getElem?_eq_none h] at hOB; cases hOB
    refine hK _ _ hS20 ?_
    clear hK K
    generalize hX20 : (((((((x10.setCell ⟨x8.heap.size, 0, none⟩ (.int .i64 r1.kind)).setCell ⟨x8.heap.size, 1, none⟩ (.string (tx r1.target))).setCell ⟨x8.heap.size, 2, none⟩ (.int .u64 r1.rule)).setCell ⟨x8.heap.size, 3, none⟩ (.slice A3 n1 c3)).setCell ⟨x8.heap.size, 4, none⟩ (.int .u64 r1.out)).setCell ⟨x8.heap.size, 5, none⟩ (.int .u64 r1.time)).setCell ⟨x8.heap.size, 6, none⟩ (.string (tx r1.tag))) = w20 at *
    generalize hbo : x8.heap.size = bo at *
    clear hX20 hoth hboz1 f0 f1 f2 f3 f4 f5 f6 z0 z1 z2 z3 z4 z5 z6
    refine wpAnyH_done (by kernel_rfl) ?_ _
    go_simp
    have HOB := Lib.hid hOB
    have HOR := Lib.hid hOR
    have HS20 := Lib.hid hS20
    have HB20 := Lib.hid hB20
    have HBOLT := Lib.hid hbolt
    have HBOZ := Lib.hid hboz
    have HNE : Hid (∀ g, (Value.slice A3 n1 c3).ownBlock = some g → g ≠ bo) := hne.out
    have HA3 := Lib.hid hA3
    have o0 := at_cell (i := 0) hOB rfl
    have o1 := at_cell (i := 1) hOB rfl
    have o2 := at_cell (i := 2) hOB rfl
    have o3 := at_cell (i := 3) hOB rfl
    have o4 := at_cell (i := 4) hOB rfl
    have o5 := at_cell (i := 5) hOB rfl
    have o6 := at_cell (i := 6) hOB rfl
    have HCL := Lib.hid (clone_any r1 A3 n1 c3 l1 hA3 (by omega) w20 (Reads.of_own hOR))
    have hS20Z : Hid (w.heap.size + 2 ≤ w20.heap.size) := by have h1 := hS20.size; have h2 := HSZ.out; show _ ≤ _; omega
    have HLT20 : Hid (∀ g, (Value.slice A3 n1 c3).ownBlock = some g → g < w20.heap.size) := own_lt hOR
    unfold rcv rsv at HCL
    clear hOB hOR hS20 hB20 hbolt hne hA3
    go_wp2_with (go_at_call 17; refine HCL.out.mono ?_; rintro e w21 ⟨A4, c4, rfl, hd4, hb21⟩; have HD4 := Lib.hid (World.ownsRow.alloc hd4.1 (.cells #[.int .i64 r1.kind, .string (tx r1.target), .int .u64 r1.rule, .slice A4 n1 c4, .int .u64 r1.out, .int .u64 r1.time, .string (tx r1.tag)] 25)); have HB22 := Lib.hid ((HB20.out.trans (hb21.mono HB20.out.size)).alloc (by have h1 := HB20.out.size; have h2 := hb21.size; omega) (.cells #[.int .i64 r1.kind, .string (tx r1.target), .int .u64 r1.rule, .slice A4 n1 c4, .int .u64 r1.out, .int .u64 r1.time, .string (tx r1.tag)] 25)); have HS22 := Lib.hid ((HS20.out.trans (hb21.mono hS20Z.out)).alloc (by have h1 := hS20Z.out; have h2 := hb21.size; omega) (.cells #[.int .i64 r1.kind, .string (tx r1.target), .int .u64 r1.rule, .slice A4 n1 c4, .int .u64 r1.out, .int .u64 r1.time, .string (tx r1.tag)] 25)); have HOB22 := Lib.hid ((Below.heap_alloc w21 (.cells #[.int .i64 r1.kind, .string (tx r1.target), .int .u64 r1.rule, .slice A4 n1 c4, .int .u64 r1.out, .int .u64 r1.time, .string (tx r1.tag)] 25) bo (by have h1 := HBOLT.out; have h2 := hb21.size; omega)).trans ((hb21.block bo HBOLT.out).trans HOB.out)); have HC22 := Lib.hid (one_new w21 (.cells #[.int .i64 r1.kind, .string (tx r1.target), .int .u64 r1.rule, .slice A4 n1 c4, .int .u64 r1.out, .int .u64 r1.time, .string (tx r1.tag)] 25)); have HC22Z : Hid (w21.heap.size < (w21.alloc (.cells #[.int .i64 r1.kind, .string (tx r1.target), .int .u64 r1.rule, .slice A4 n1 c4, .int .u64 r1.out, .int .u64 r1.time, .string (tx r1.tag)] 25)).heap.size) := (by show _ < _; simp); have HOR22 := Lib.hid (World.ownsRow.alloc (own_below HOR.out hb21) (.cells #[.int .i64 r1.kind, .string (tx r1.target), .int .u64 r1.rule, .slice A4 n1 c4, .int .u64 r1.out, .int .u64 r1.time, .string (tx r1.tag)] 25)); have hs21 : Hid (w20.heap.size ≤ w21.heap.size) := hb21.size; have p3 := at_cell (i := 3) HOB22.out rfl; clear hd4 hb21)
    go_loopw [59] (fun idx wr => HmRel W0 bo w21.heap.size (w.heap.size + 2) w20.heap.size (.cells #[.int .i64 r1.kind, .string (tx r1.target), .int .u64 r1.rule, .slice A3 n1 c3, .int .u64 r1.out, .int .u64 r1.time, .string (tx r1.tag)] 25 (0, 0)) (.cells #[.int .i64 r1.kind, .string (tx r1.target), .int .u64 r1.rule, .slice A4 n1 c4, .int .u64 r1.out, .int .u64 r1.time, .string (tx r1.tag)] 25 (0, 0)) (.slice A3 n1 c3) (.slice A4 n1 c4) n1 l1 idx wr) (fun idx wr => n1 - (intOf idx).toNat)
    case atStart => exact ⟨0, by omega, rfl, ⟨l1, HOR22.out⟩, HOB22.out, HC22.out, HD4.out, HS22.out, HC22Z.out⟩
    case round =>
      obtain ⟨i, hi, rfl, ⟨l', hrow⟩, hob, hcb, hd4, hs, hcz⟩ := hrel
      have HROW := Lib.hid hrow
      have HOBR := Lib.hid hob
      have HCBR := Lib.hid hcb
      have HD4R := Lib.hid hd4
      have HSR := Lib.hid hs
      have HCZ := Lib.hid hcz
      have p3 := at_cell (i := 3) hob rfl
      by_cases hlt : i < n1
      · obtain ⟨g, cap, hv, hgb, hgs⟩ := hrow.form (by omega)
        obtain rfl : A3 = some ⟨g, 0, none⟩ := by injection hv
        obtain rfl : c3 = cap := by injection hv
        have hg20 : g < w20.heap.size := HLT20.out g rfl
        have hgo : g ≠ bo := HNE.out g rfl
        have hll : l'.length = n1 := by have := hrow.1; rw [dps_len] at this; omega
        obtain ⟨x, hx⟩ : ∃ x, l'[i]? = some x := ⟨_, List.getElem?_eq_getElem (by omega)⟩
        have hcl : wr.cell? ⟨g, i * 3 + 1, none⟩ = some (.int .u64 x.hash) := by
          have h1 := (Reads.of_own hrow).2 (by omega)
          obtain ⟨ad, had, _, hc⟩ := h1
          obtain rfl : ad = ⟨g, 0, none⟩ := by injection had with had; exact had.symm
          have h2 := hc _ _ (dps_at l' i x hx).2.1
          simpa [Addr.add] using h2
        have hfz : wr.frozen? ⟨g, i * 3 + 1, none⟩ = false := by
          obtain ⟨_, ⟨h2, _⟩ | ⟨g', cap, cur, hv2, _, hg2, _⟩⟩ := hrow
          · cases h2
          · obtain rfl : g = g' := by injection hv2 with e; injection e with e; injection e
            exact at_frozen hg2
        have HSET := Lib.hid (fun z => deps_hash hrow i x hx z)
        have hi0 : (0 : Int) ≤ (i : Int) := by omega
        have hi1 : (i : Int) < (n1 : Int) := by omega
        have hbo2 := HBOZ.out
        have hs2 := hs21.out
        clear hrow hob hcb hd4 hs hcz hx hv hll
        go_wp2
        refine ⟨⟨i + 1, by omega, by go_num, ⟨_, HSET.out _⟩, (Below.heap_setCell _ _ _ _ (by show bo ≠ g; omega)).trans HOBR.out, (Below.heap_setCell _ _ _ _ (by show w21.heap.size ≠ g; omega)).trans HCBR.out, ownsRow_setCell_below HD4R.out (by show g < w20.heap.size; omega) _, HSR.out.setCell (by show w.heap.size + 2 ≤ g; omega) _, by simpa [World.setCell] using HCZ.out⟩, by simp [intOf]; omega⟩
      · obtain rfl : i = n1 := by omega
        have e0 := at_cell (i := 0) hcb rfl
        have e1 := at_cell (i := 1) hcb rfl
        have e2 := at_cell (i := 2) hcb rfl
        have e3 := at_cell (i := 3) hcb rfl
        have e4 := at_cell (i := 4) hcb rfl
        have e5 := at_cell (i := 5) hcb rfl
        have e6 := at_cell (i := 6) hcb rfl
        have HBR := Lib.hid (HB0.out.trans (hs.mono (by omega)))
        have HSRZ : Hid (w.heap.size + 2 ≤ wr.heap.size) := by have h1 := hs.size; have h2 := HSZ.out; show _ ≤ _; omega
        have HRD := Lib.hid (Reads.of_own hd4)
        clear hrow hob hcb hd4 hs hcz
        go_wp2_with (first
          | (go_at_call 16; have hk := HB24.out.size; refine (rsame_any r1 r1 A4 A i i c4 c1 l1 l1 (by omega) _ HRD24.out HRA24.out).mono ?_; rintro e w25 ⟨q, hq, rfl, hb25⟩; obtain rfl : q = true := (hq.2 ⟨rfl, rfl⟩); have HB25 := Lib.hid (HB24.out.trans (hb25.mono HB24.out.size)); clear hb25)
          | (go_at_call 7; refine (HFX.out _).mono ?_; rintro e w24 ⟨rfl, hb24⟩; have HB24 := Lib.hid (HBR.out.trans (hb24.mono HBR.out.size)); have HS24 := Lib.hid (HSR.out.trans (hb24.mono HSRZ.out)); have a0 := HCA.out (i := 0) rfl HS24.out; have a1 := HCA.out (i := 1) rfl HS24.out; have a2 := HCA.out (i := 2) rfl HS24.out; have a3 := HCA.out (i := 3) rfl HS24.out; have a4 := HCA.out (i := 4) rfl HS24.out; have a5 := HCA.out (i := 5) rfl HS24.out; have a6 := HCA.out (i := 6) rfl HS24.out; have d0 := (hb24.cell (p := ⟨w21.heap.size, 0, none⟩) HCZ.out).trans e0; have d1 := (hb24.cell (p := ⟨w21.heap.size, 1, none⟩) HCZ.out).trans e1; have d2 := (hb24.cell (p := ⟨w21.heap.size, 2, none⟩) HCZ.out).trans e2; have d3 := (hb24.cell (p := ⟨w21.heap.size, 3, none⟩) HCZ.out).trans e3; have d4 := (hb24.cell (p := ⟨w21.heap.size, 4, none⟩) HCZ.out).trans e4; have d5 := (hb24.cell (p := ⟨w21.heap.size, 5, none⟩) HCZ.out).trans e5; have d6 := (hb24.cell (p := ⟨w21.heap.size, 6, none⟩) HCZ.out).trans e6; have HRD24 := Lib.hid ((HRD.out.below hb24).more hb24.size); have HRA24 := Lib.hid ((H1.out.below HB24.out).more HB24.out.size); clear hb24))
        go_ret
        exact ⟨rfl, HB25.out⟩

end Go.Proofs.Ytigkpcildopmfaa
