/- RecordOnward's walk. -/
import Derived.Test.YtigkpcildopmfaaRp
namespace Go.Proofs.Ytigkpcildopmfaa
open Go.RowKit

set_option maxRecDepth 100000 in
set_option maxHeartbeats 2000000 in
theorem on_none (k : Int) (t g : List UInt8) (u o m : Int) (A : Option Addr) (n c : Nat) (w : World)
    (HG : Hid (Calls Try.prog 6 #[.agg #[.int .i64 k, .string (tx t), .int .u64 u, .slice A n c, .int .u64 o, .int .u64 m, .string (tx g)]] (w.alloc (.cells #[.int .i64 k, .string (tx t), .int .u64 u, .slice A n c, .int .u64 o, .int .u64 m, .string (tx g)] 25)) fun e w' => e = .returned (.bool false) ∧ Below (w.alloc (.cells #[.int .i64 k, .string (tx t), .int .u64 u, .slice A n c, .int .u64 o, .int .u64 m, .string (tx g)] 25)).heap.size (w.alloc (.cells #[.int .i64 k, .string (tx t), .int .u64 u, .slice A n c, .int .u64 o, .int .u64 m, .string (tx g)] 25)) w'))
    (HFX : Hid (∀ W, Calls Try.prog 7 #[] W fun e w' => e = .returned (.bool true) ∧ Below W.heap.size W w'))
    (HM0 : Hid (∀ W, Below w.heap.size w W → Calls Try.prog 8 #[.int .i64 0, .agg #[.int .i64 k, .string (tx t), .int .u64 u, .slice A n c, .int .u64 o, .int .u64 m, .string (tx g)]] W fun e w' => e = .returned (.bool false) ∧ Below W.heap.size W w'))
    (HM1 : Hid (∀ W, Below w.heap.size w W → Calls Try.prog 8 #[.int .i64 1, .agg #[.int .i64 k, .string (tx t), .int .u64 u, .slice A n c, .int .u64 o, .int .u64 m, .string (tx g)]] W fun e w' => e = .returned (.bool false) ∧ Below W.heap.size W w'))
    (HM2 : Hid (∀ W, Below w.heap.size w W → Calls Try.prog 8 #[.int .i64 2, .agg #[.int .i64 k, .string (tx t), .int .u64 u, .slice A n c, .int .u64 o, .int .u64 m, .string (tx g)]] W fun e w' => e = .returned (.bool false) ∧ Below W.heap.size W w'))
    (HM3 : Hid (∀ W, Below w.heap.size w W → Calls Try.prog 8 #[.int .i64 3, .agg #[.int .i64 k, .string (tx t), .int .u64 u, .slice A n c, .int .u64 o, .int .u64 m, .string (tx g)]] W fun e w' => e = .returned (.bool false) ∧ Below W.heap.size W w'))
    (HM4 : Hid (∀ W, Below w.heap.size w W → Calls Try.prog 8 #[.int .i64 4, .agg #[.int .i64 k, .string (tx t), .int .u64 u, .slice A n c, .int .u64 o, .int .u64 m, .string (tx g)]] W fun e w' => e = .returned (.bool false) ∧ Below W.heap.size W w'))
    (hk1 : k ≠ 1) (hk2 : k ≠ 2) :
    Calls Try.prog 5 #[.agg #[.int .i64 k, .string (tx t), .int .u64 u, .slice A n c, .int .u64 o, .int .u64 m, .string (tx g)]] w fun e w' => e = .returned (.bool true) ∧ Below w.heap.size w w' := by
  have H0 := Lib.hid (one_new w (.cells #[.int .i64 k, .string (tx t), .int .u64 u, .slice A n c, .int .u64 o, .int .u64 m, .string (tx g)] 25))
  have HB0 := Lib.hid ((Below.refl w.heap.size w).alloc (Nat.le_refl _) (.cells #[.int .i64 k, .string (tx t), .int .u64 u, .slice A n c, .int .u64 o, .int .u64 m, .string (tx g)] 25))
  have HZ : Hid ((w.alloc (.cells #[.int .i64 k, .string (tx t), .int .u64 u, .slice A n c, .int .u64 o, .int .u64 m, .string (tx g)] 25)).heap.size = w.heap.size + 1) := by show _ = _; simp
  have HCELL : Hid (∀ {i : Nat} {x : Value}, (#[.int .i64 k, .string (tx t), .int .u64 u, .slice A n c, .int .u64 o, .int .u64 m, .string (tx g)] : Array Value)[i]? = some x → ∀ {W : World}, Below (w.heap.size + 1) (w.alloc (.cells #[.int .i64 k, .string (tx t), .int .u64 u, .slice A n c, .int .u64 o, .int .u64 m, .string (tx g)] 25)) W → W.cell? ⟨w.heap.size, i, none⟩ = some x) := fun hi W hb => (hb.cell (p := ⟨w.heap.size, _, none⟩) (show w.heap.size < w.heap.size + 1 by omega)).trans (at_cell H0.out hi)
  have d1 : decide (k = 1) = false := decide_eq_false hk1
  have d2 : decide (k = 2) = false := decide_eq_false hk2
  have d3 : (k == 1) = false := by rw [beq_eq_false_iff_ne]; exact hk1
  have d4 : (k == 2) = false := by rw [beq_eq_false_iff_ne]; exact hk2
  have d5 : (k != 1) = true := by rw [bne_iff_ne]; exact hk1
  clear hk1 hk2
  go_enter Try.func5, Try.ntmps5
  go_wp2_with (go_at_call 6; refine HG.out.mono ?_; rintro e w2 ⟨rfl, hb2⟩; have HB2 := Lib.hid (HB0.out.trans (hb2.mono HB0.out.size)); have HS2 := Lib.hid (hb2.mono (Nat.le_of_eq HZ.out.symm)); have HS2Z : Hid (w.heap.size + 1 ≤ w2.heap.size) := by { have h1 := hb2.size; rw [HZ.out] at h1; exact h1 }; clear hb2)
  generalize (w.alloc _) = W0 at *
  refine wp_region_held (S := fun v1 => Below (w.heap.size + 1) W0 v1) (by kernel_rfl) ?_
  have hS : Below (w.heap.size + 1) W0 w2.drew := HS2.out.drew
  refine h_take 0 (.agg #[.int .i64 k, .string (tx t), .int .u64 u, .slice A n c, .int .u64 o, .int .u64 m, .string (tx g)]) rfl (by kernel_rfl) (by kernel_rfl) (by kernel_rfl) (fun _ _ _ h => h) (by kernel_rfl) hS (by intro v1 hv; have q0 := HCELL.out (i := 0) rfl hv; have q1 := HCELL.out (i := 1) rfl hv; have q2 := HCELL.out (i := 2) rfl hv; have q3 := HCELL.out (i := 3) rfl hv; have q4 := HCELL.out (i := 4) rfl hv; have q5 := HCELL.out (i := 5) rfl hv; have q6 := HCELL.out (i := 6) rfl hv; go_simp; try rfl) ?_
  refine h_take 2 (.agg #[.int .i64 k, .string (tx t), .int .u64 u, .slice A n c, .int .u64 o, .int .u64 m, .string (tx g)]) rfl (by kernel_rfl) (by kernel_rfl) (by kernel_rfl) (fun _ _ _ h => h) (by kernel_rfl) hS (by intro v1 hv; have q0 := HCELL.out (i := 0) rfl hv; have q1 := HCELL.out (i := 1) rfl hv; have q2 := HCELL.out (i := 2) rfl hv; have q3 := HCELL.out (i := 3) rfl hv; have q4 := HCELL.out (i := 4) rfl hv; have q5 := HCELL.out (i := 5) rfl hv; have q6 := HCELL.out (i := 6) rfl hv; go_simp; try rfl) ?_
  refine h_take 4 (.agg #[.int .i64 k, .string (tx t), .int .u64 u, .slice A n c, .int .u64 o, .int .u64 m, .string (tx g)]) rfl (by kernel_rfl) (by kernel_rfl) (by kernel_rfl) (fun _ _ _ h => h) (by kernel_rfl) hS (by intro v1 hv; have q0 := HCELL.out (i := 0) rfl hv; have q1 := HCELL.out (i := 1) rfl hv; have q2 := HCELL.out (i := 2) rfl hv; have q3 := HCELL.out (i := 3) rfl hv; have q4 := HCELL.out (i := 4) rfl hv; have q5 := HCELL.out (i := 5) rfl hv; have q6 := HCELL.out (i := 6) rfl hv; go_simp; try rfl) ?_
  refine h_one 1 rfl (by kernel_rfl) (by kernel_rfl) (fun K hK => ?_)
  go_simp
  refine (HM1.out _ (HB2.out.drew)).mono ?_
  rintro e w3 ⟨rfl, hb3⟩
  have HB3 := Lib.hid ((HB2.out.drew).trans (hb3.mono (HB2.out.drew).size))
  have hS3 : Below (w.heap.size + 1) W0 w3 := hS.trans (hb3.mono (by have h1 := hS.size; have h2 := HZ.out; omega))
  clear hb3
  refine hK _ _ hS3 ?_
  clear hK K
  refine h_one 3 rfl (by kernel_rfl) (by kernel_rfl) (fun K hK => ?_)
  go_simp
  refine (HM2.out _ (HB3.out)).mono ?_
  rintro e w4 ⟨rfl, hb4⟩
  have HB4 := Lib.hid ((HB3.out).trans (hb4.mono (HB3.out).size))
  have hS4 : Below (w.heap.size + 1) W0 w4 := hS3.trans (hb4.mono (by have h1 := hS3.size; have h2 := HZ.out; omega))
  clear hb4
  refine hK _ _ hS4 ?_
  clear hK K
  refine h_one 5 rfl (by kernel_rfl) (by kernel_rfl) (fun K hK => ?_)
  go_simp
  refine (HM3.out _ (HB4.out)).mono ?_
  rintro e w5 ⟨rfl, hb5⟩
  have HB5 := Lib.hid ((HB4.out).trans (hb5.mono (HB4.out).size))
  have hS5 : Below (w.heap.size + 1) W0 w5 := hS4.trans (hb5.mono (by have h1 := hS4.size; have h2 := HZ.out; omega))
  clear hb5
  refine hK _ _ hS5 ?_
  clear hK K
  refine h_take 6 (.bool false) rfl (by kernel_rfl) (by kernel_rfl) (by kernel_rfl) (fun _ _ _ h => h) (by kernel_rfl) hS5 (fun _ _ => by kernel_rfl) ?_
  refine h_take 7 (.bool false) rfl (by kernel_rfl) (by kernel_rfl) (by kernel_rfl) (fun _ _ _ h => h) (by kernel_rfl) hS5 (fun _ _ => by kernel_rfl) ?_
  refine h_take 8 (.bool false) rfl (by kernel_rfl) (by kernel_rfl) (by kernel_rfl) (fun _ _ _ h => h) (by kernel_rfl) hS5 (fun _ _ => by kernel_rfl) ?_
  refine wpAnyH_done (by kernel_rfl) ?_ _
  go_simp
  have HS5 := Lib.hid hS5
  clear hS hS3 hS4 hS5
  have r0 := HCELL.out (i := 0) rfl HS5.out
  have r1 := HCELL.out (i := 1) rfl HS5.out
  have r2 := HCELL.out (i := 2) rfl HS5.out
  have r3 := HCELL.out (i := 3) rfl HS5.out
  have r4 := HCELL.out (i := 4) rfl HS5.out
  have r5 := HCELL.out (i := 5) rfl HS5.out
  have r6 := HCELL.out (i := 6) rfl HS5.out
  have HB6 := Lib.hid (HB5.out.alloc HB5.out.size (.cells #[.int .i64 k, .string (tx t), .int .u64 u, .slice A n c, .int .u64 o, .int .u64 0, .string { data := #[] }] 25))
  have HS6 := Lib.hid (HS5.out.alloc (by have h1 := HS5.out.size; have h2 := HZ.out; omega) (.cells #[.int .i64 k, .string (tx t), .int .u64 u, .slice A n c, .int .u64 o, .int .u64 0, .string { data := #[] }] 25))
  have HX6 := Lib.hid (one_new w5 (.cells #[.int .i64 k, .string (tx t), .int .u64 u, .slice A n c, .int .u64 o, .int .u64 0, .string { data := #[] }] 25))
  have HX6Z : Hid (w5.heap.size < (w5.alloc (.cells #[.int .i64 k, .string (tx t), .int .u64 u, .slice A n c, .int .u64 o, .int .u64 0, .string { data := #[] }] 25)).heap.size) := by show _ < _; simp
  have HS6Z : Hid (w.heap.size + 1 ≤ (w5.alloc (.cells #[.int .i64 k, .string (tx t), .int .u64 u, .slice A n c, .int .u64 o, .int .u64 0, .string { data := #[] }] 25)).heap.size) := by have h1 := HS6.out.size; have h2 := HZ.out; show _ ≤ _; omega
  go_wp2_with (first
    | (go_at_call 8; have hk := HB9.out.size; refine (HM4.out _ HB9.out).mono ?_; rintro e w10 ⟨rfl, hb10⟩; have HB10 := Lib.hid (HB9.out.trans (hb10.mono HB9.out.size)); clear hb10)
    | (go_at_call 8; have hk := HB7.out.size; refine (HM0.out _ HB7.out).mono ?_; rintro e w9 ⟨rfl, hb9⟩; have HB9 := Lib.hid (HB7.out.trans (hb9.mono HB7.out.size)); have HS9 := Lib.hid (HS7.out.trans (hb9.mono HS7Z.out)); have n0 := HCELL.out (i := 0) rfl HS9.out; have n1 := HCELL.out (i := 1) rfl HS9.out; have n2 := HCELL.out (i := 2) rfl HS9.out; have n3 := HCELL.out (i := 3) rfl HS9.out; have n4 := HCELL.out (i := 4) rfl HS9.out; have n5 := HCELL.out (i := 5) rfl HS9.out; have n6 := HCELL.out (i := 6) rfl HS9.out; clear hb9)
    | (go_at_call 7; refine (HFX.out _).mono ?_; rintro e w7 ⟨rfl, hb7⟩; have HB7 := Lib.hid (HB6.out.trans (hb7.mono HB6.out.size)); have HS7 := Lib.hid (HS6.out.trans (hb7.mono HS6Z.out)); have HS7Z : Hid (w.heap.size + 1 ≤ w7.heap.size) := (Nat.le_trans HS6Z.out hb7.size); have s0 := HCELL.out (i := 0) rfl HS7.out; have s1 := HCELL.out (i := 1) rfl HS7.out; have s2 := HCELL.out (i := 2) rfl HS7.out; have s3 := HCELL.out (i := 3) rfl HS7.out; have s4 := HCELL.out (i := 4) rfl HS7.out; have s5 := HCELL.out (i := 5) rfl HS7.out; have s6 := HCELL.out (i := 6) rfl HS7.out; have x0 := (hb7.cell (p := ⟨w5.heap.size, 0, none⟩) HX6Z.out).trans (at_cell (i := 0) HX6.out rfl); have x1 := (hb7.cell (p := ⟨w5.heap.size, 1, none⟩) HX6Z.out).trans (at_cell (i := 1) HX6.out rfl); have x2 := (hb7.cell (p := ⟨w5.heap.size, 2, none⟩) HX6Z.out).trans (at_cell (i := 2) HX6.out rfl); have x3 := (hb7.cell (p := ⟨w5.heap.size, 3, none⟩) HX6Z.out).trans (at_cell (i := 3) HX6.out rfl); have x4 := (hb7.cell (p := ⟨w5.heap.size, 4, none⟩) HX6Z.out).trans (at_cell (i := 4) HX6.out rfl); have x5 := (hb7.cell (p := ⟨w5.heap.size, 5, none⟩) HX6Z.out).trans (at_cell (i := 5) HX6.out rfl); have x6 := (hb7.cell (p := ⟨w5.heap.size, 6, none⟩) HX6Z.out).trans (at_cell (i := 6) HX6.out rfl); clear hb7))
  go_ret
  exact ⟨rfl, HB10.out⟩

set_option maxRecDepth 100000 in
set_option maxHeartbeats 2000000 in
theorem on_one_fff (t g : List UInt8) (u o m : Int) (A : Option Addr) (n c : Nat) (w : World)
    (HG : Hid (Calls Try.prog 6 #[.agg #[.int .i64 1, .string (tx t), .int .u64 u, .slice A n c, .int .u64 o, .int .u64 m, .string (tx g)]] (w.alloc (.cells #[.int .i64 1, .string (tx t), .int .u64 u, .slice A n c, .int .u64 o, .int .u64 m, .string (tx g)] 25)) fun e w' => e = .returned (.bool false) ∧ Below (w.alloc (.cells #[.int .i64 1, .string (tx t), .int .u64 u, .slice A n c, .int .u64 o, .int .u64 m, .string (tx g)] 25)).heap.size (w.alloc (.cells #[.int .i64 1, .string (tx t), .int .u64 u, .slice A n c, .int .u64 o, .int .u64 m, .string (tx g)] 25)) w'))
    (HFX : Hid (∀ W, Calls Try.prog 7 #[] W fun e w' => e = .returned (.bool true) ∧ Below W.heap.size W w'))
    (HM0 : Hid (∀ W, Below w.heap.size w W → Calls Try.prog 8 #[.int .i64 0, .agg #[.int .i64 1, .string (tx t), .int .u64 u, .slice A n c, .int .u64 o, .int .u64 m, .string (tx g)]] W fun e w' => e = .returned (.bool false) ∧ Below W.heap.size W w'))
    (HM1 : Hid (∀ W, Below w.heap.size w W → Calls Try.prog 8 #[.int .i64 1, .agg #[.int .i64 1, .string (tx t), .int .u64 u, .slice A n c, .int .u64 o, .int .u64 m, .string (tx g)]] W fun e w' => e = .returned (.bool false) ∧ Below W.heap.size W w'))
    (HM2 : Hid (∀ W, Below w.heap.size w W → Calls Try.prog 8 #[.int .i64 2, .agg #[.int .i64 1, .string (tx t), .int .u64 u, .slice A n c, .int .u64 o, .int .u64 m, .string (tx g)]] W fun e w' => e = .returned (.bool false) ∧ Below W.heap.size W w'))
    (HM3 : Hid (∀ W, Below w.heap.size w W → Calls Try.prog 8 #[.int .i64 3, .agg #[.int .i64 1, .string (tx t), .int .u64 u, .slice A n c, .int .u64 o, .int .u64 m, .string (tx g)]] W fun e w' => e = .returned (.bool false) ∧ Below W.heap.size W w'))
    (HM4 : Hid (∀ W, Below w.heap.size w W → Calls Try.prog 8 #[.int .i64 4, .agg #[.int .i64 1, .string (tx t), .int .u64 u, .slice A n c, .int .u64 o, .int .u64 m, .string (tx g)]] W fun e w' => e = .returned (.bool false) ∧ Below W.heap.size W w'))
    :
    Calls Try.prog 5 #[.agg #[.int .i64 1, .string (tx t), .int .u64 u, .slice A n c, .int .u64 o, .int .u64 m, .string (tx g)]] w fun e w' => e = .returned (.bool true) ∧ Below w.heap.size w w' := by
  have H0 := Lib.hid (one_new w (.cells #[.int .i64 1, .string (tx t), .int .u64 u, .slice A n c, .int .u64 o, .int .u64 m, .string (tx g)] 25))
  have HB0 := Lib.hid ((Below.refl w.heap.size w).alloc (Nat.le_refl _) (.cells #[.int .i64 1, .string (tx t), .int .u64 u, .slice A n c, .int .u64 o, .int .u64 m, .string (tx g)] 25))
  have HZ : Hid ((w.alloc (.cells #[.int .i64 1, .string (tx t), .int .u64 u, .slice A n c, .int .u64 o, .int .u64 m, .string (tx g)] 25)).heap.size = w.heap.size + 1) := by show _ = _; simp
  have HCELL : Hid (∀ {i : Nat} {x : Value}, (#[.int .i64 1, .string (tx t), .int .u64 u, .slice A n c, .int .u64 o, .int .u64 m, .string (tx g)] : Array Value)[i]? = some x → ∀ {W : World}, Below (w.heap.size + 1) (w.alloc (.cells #[.int .i64 1, .string (tx t), .int .u64 u, .slice A n c, .int .u64 o, .int .u64 m, .string (tx g)] 25)) W → W.cell? ⟨w.heap.size, i, none⟩ = some x) := fun hi W hb => (hb.cell (p := ⟨w.heap.size, _, none⟩) (show w.heap.size < w.heap.size + 1 by omega)).trans (at_cell H0.out hi)
  go_enter Try.func5, Try.ntmps5
  go_wp2_with (go_at_call 6; refine HG.out.mono ?_; rintro e w2 ⟨rfl, hb2⟩; have HB2 := Lib.hid (HB0.out.trans (hb2.mono HB0.out.size)); have HS2 := Lib.hid (hb2.mono (Nat.le_of_eq HZ.out.symm)); have HS2Z : Hid (w.heap.size + 1 ≤ w2.heap.size) := by { have h1 := hb2.size; rw [HZ.out] at h1; exact h1 }; clear hb2)
  generalize (w.alloc _) = W0 at *
  refine wp_region_held (S := fun v1 => Below (w.heap.size + 1) W0 v1) (by kernel_rfl) ?_
  have hS : Below (w.heap.size + 1) W0 w2.drew := HS2.out.drew
  refine h_take 0 (.agg #[.int .i64 1, .string (tx t), .int .u64 u, .slice A n c, .int .u64 o, .int .u64 m, .string (tx g)]) rfl (by kernel_rfl) (by kernel_rfl) (by kernel_rfl) (fun _ _ _ h => h) (by kernel_rfl) hS (by intro v1 hv; have q0 := HCELL.out (i := 0) rfl hv; have q1 := HCELL.out (i := 1) rfl hv; have q2 := HCELL.out (i := 2) rfl hv; have q3 := HCELL.out (i := 3) rfl hv; have q4 := HCELL.out (i := 4) rfl hv; have q5 := HCELL.out (i := 5) rfl hv; have q6 := HCELL.out (i := 6) rfl hv; go_simp; try rfl) ?_
  refine h_take 2 (.agg #[.int .i64 1, .string (tx t), .int .u64 u, .slice A n c, .int .u64 o, .int .u64 m, .string (tx g)]) rfl (by kernel_rfl) (by kernel_rfl) (by kernel_rfl) (fun _ _ _ h => h) (by kernel_rfl) hS (by intro v1 hv; have q0 := HCELL.out (i := 0) rfl hv; have q1 := HCELL.out (i := 1) rfl hv; have q2 := HCELL.out (i := 2) rfl hv; have q3 := HCELL.out (i := 3) rfl hv; have q4 := HCELL.out (i := 4) rfl hv; have q5 := HCELL.out (i := 5) rfl hv; have q6 := HCELL.out (i := 6) rfl hv; go_simp; try rfl) ?_
  refine h_take 4 (.agg #[.int .i64 1, .string (tx t), .int .u64 u, .slice A n c, .int .u64 o, .int .u64 m, .string (tx g)]) rfl (by kernel_rfl) (by kernel_rfl) (by kernel_rfl) (fun _ _ _ h => h) (by kernel_rfl) hS (by intro v1 hv; have q0 := HCELL.out (i := 0) rfl hv; have q1 := HCELL.out (i := 1) rfl hv; have q2 := HCELL.out (i := 2) rfl hv; have q3 := HCELL.out (i := 3) rfl hv; have q4 := HCELL.out (i := 4) rfl hv; have q5 := HCELL.out (i := 5) rfl hv; have q6 := HCELL.out (i := 6) rfl hv; go_simp; try rfl) ?_
  refine h_one 1 rfl (by kernel_rfl) (by kernel_rfl) (fun K hK => ?_)
  go_simp
  refine (HM1.out _ (HB2.out.drew)).mono ?_
  rintro e w3 ⟨rfl, hb3⟩
  have HB3 := Lib.hid ((HB2.out.drew).trans (hb3.mono (HB2.out.drew).size))
  have hS3 : Below (w.heap.size + 1) W0 w3 := hS.trans (hb3.mono (by have h1 := hS.size; have h2 := HZ.out; omega))
  clear hb3
  refine hK _ _ hS3 ?_
  clear hK K
  refine h_one 3 rfl (by kernel_rfl) (by kernel_rfl) (fun K hK => ?_)
  go_simp
  refine (HM2.out _ (HB3.out)).mono ?_
  rintro e w4 ⟨rfl, hb4⟩
  have HB4 := Lib.hid ((HB3.out).trans (hb4.mono (HB3.out).size))
  have hS4 : Below (w.heap.size + 1) W0 w4 := hS3.trans (hb4.mono (by have h1 := hS3.size; have h2 := HZ.out; omega))
  clear hb4
  refine hK _ _ hS4 ?_
  clear hK K
  refine h_one 5 rfl (by kernel_rfl) (by kernel_rfl) (fun K hK => ?_)
  go_simp
  refine (HM3.out _ (HB4.out)).mono ?_
  rintro e w5 ⟨rfl, hb5⟩
  have HB5 := Lib.hid ((HB4.out).trans (hb5.mono (HB4.out).size))
  have hS5 : Below (w.heap.size + 1) W0 w5 := hS4.trans (hb5.mono (by have h1 := hS4.size; have h2 := HZ.out; omega))
  clear hb5
  refine hK _ _ hS5 ?_
  clear hK K
  refine h_take 6 (.bool false) rfl (by kernel_rfl) (by kernel_rfl) (by kernel_rfl) (fun _ _ _ h => h) (by kernel_rfl) hS5 (fun _ _ => by kernel_rfl) ?_
  refine h_take 7 (.bool false) rfl (by kernel_rfl) (by kernel_rfl) (by kernel_rfl) (fun _ _ _ h => h) (by kernel_rfl) hS5 (fun _ _ => by kernel_rfl) ?_
  refine h_take 8 (.bool false) rfl (by kernel_rfl) (by kernel_rfl) (by kernel_rfl) (fun _ _ _ h => h) (by kernel_rfl) hS5 (fun _ _ => by kernel_rfl) ?_
  refine wpAnyH_done (by kernel_rfl) ?_ _
  go_simp
  have HS5 := Lib.hid hS5
  clear hS hS3 hS4 hS5
  have r0 := HCELL.out (i := 0) rfl HS5.out
  have r1 := HCELL.out (i := 1) rfl HS5.out
  have r2 := HCELL.out (i := 2) rfl HS5.out
  have r3 := HCELL.out (i := 3) rfl HS5.out
  have r4 := HCELL.out (i := 4) rfl HS5.out
  have r5 := HCELL.out (i := 5) rfl HS5.out
  have r6 := HCELL.out (i := 6) rfl HS5.out
  have HB6 := Lib.hid (HB5.out.alloc HB5.out.size (.cells #[.int .i64 1, .string (tx t), .int .u64 u, .slice A n c, .int .u64 o, .int .u64 0, .string { data := #[] }] 25))
  have HS6 := Lib.hid (HS5.out.alloc (by have h1 := HS5.out.size; have h2 := HZ.out; omega) (.cells #[.int .i64 1, .string (tx t), .int .u64 u, .slice A n c, .int .u64 o, .int .u64 0, .string { data := #[] }] 25))
  have HX6 := Lib.hid (one_new w5 (.cells #[.int .i64 1, .string (tx t), .int .u64 u, .slice A n c, .int .u64 o, .int .u64 0, .string { data := #[] }] 25))
  have HX6Z : Hid (w5.heap.size < (w5.alloc (.cells #[.int .i64 1, .string (tx t), .int .u64 u, .slice A n c, .int .u64 o, .int .u64 0, .string { data := #[] }] 25)).heap.size) := by show _ < _; simp
  have HS6Z : Hid (w.heap.size + 1 ≤ (w5.alloc (.cells #[.int .i64 1, .string (tx t), .int .u64 u, .slice A n c, .int .u64 o, .int .u64 0, .string { data := #[] }] 25)).heap.size) := by have h1 := HS6.out.size; have h2 := HZ.out; show _ ≤ _; omega
  go_wp2_with (first
    | (go_at_call 8; have hk := HB9.out.size; refine (HM4.out _ HB9.out).mono ?_; rintro e w10 ⟨rfl, hb10⟩; have HB10 := Lib.hid (HB9.out.trans (hb10.mono HB9.out.size)); clear hb10)
    | (go_at_call 8; have hk := HB7.out.size; refine (HM0.out _ HB7.out).mono ?_; rintro e w9 ⟨rfl, hb9⟩; have HB9 := Lib.hid (HB7.out.trans (hb9.mono HB7.out.size)); have HS9 := Lib.hid (HS7.out.trans (hb9.mono HS7Z.out)); have n0 := HCELL.out (i := 0) rfl HS9.out; have n1 := HCELL.out (i := 1) rfl HS9.out; have n2 := HCELL.out (i := 2) rfl HS9.out; have n3 := HCELL.out (i := 3) rfl HS9.out; have n4 := HCELL.out (i := 4) rfl HS9.out; have n5 := HCELL.out (i := 5) rfl HS9.out; have n6 := HCELL.out (i := 6) rfl HS9.out; clear hb9)
    | (go_at_call 7; refine (HFX.out _).mono ?_; rintro e w7 ⟨rfl, hb7⟩; have HB7 := Lib.hid (HB6.out.trans (hb7.mono HB6.out.size)); have HS7 := Lib.hid (HS6.out.trans (hb7.mono HS6Z.out)); have HS7Z : Hid (w.heap.size + 1 ≤ w7.heap.size) := (Nat.le_trans HS6Z.out hb7.size); have s0 := HCELL.out (i := 0) rfl HS7.out; have s1 := HCELL.out (i := 1) rfl HS7.out; have s2 := HCELL.out (i := 2) rfl HS7.out; have s3 := HCELL.out (i := 3) rfl HS7.out; have s4 := HCELL.out (i := 4) rfl HS7.out; have s5 := HCELL.out (i := 5) rfl HS7.out; have s6 := HCELL.out (i := 6) rfl HS7.out; have x0 := (hb7.cell (p := ⟨w5.heap.size, 0, none⟩) HX6Z.out).trans (at_cell (i := 0) HX6.out rfl); have x1 := (hb7.cell (p := ⟨w5.heap.size, 1, none⟩) HX6Z.out).trans (at_cell (i := 1) HX6.out rfl); have x2 := (hb7.cell (p := ⟨w5.heap.size, 2, none⟩) HX6Z.out).trans (at_cell (i := 2) HX6.out rfl); have x3 := (hb7.cell (p := ⟨w5.heap.size, 3, none⟩) HX6Z.out).trans (at_cell (i := 3) HX6.out rfl); have x4 := (hb7.cell (p := ⟨w5.heap.size, 4, none⟩) HX6Z.out).trans (at_cell (i := 4) HX6.out rfl); have x5 := (hb7.cell (p := ⟨w5.heap.size, 5, none⟩) HX6Z.out).trans (at_cell (i := 5) HX6.out rfl); have x6 := (hb7.cell (p := ⟨w5.heap.size, 6, none⟩) HX6Z.out).trans (at_cell (i := 6) HX6.out rfl); clear hb7))
  go_ret
  exact ⟨rfl, HB10.out⟩

set_option maxRecDepth 100000 in
set_option maxHeartbeats 2000000 in
theorem on_one_fft (t g : List UInt8) (u o m : Int) (A : Option Addr) (n c : Nat) (w : World)
    (HG : Hid (Calls Try.prog 6 #[.agg #[.int .i64 1, .string (tx t), .int .u64 u, .slice A n c, .int .u64 o, .int .u64 m, .string (tx g)]] (w.alloc (.cells #[.int .i64 1, .string (tx t), .int .u64 u, .slice A n c, .int .u64 o, .int .u64 m, .string (tx g)] 25)) fun e w' => e = .returned (.bool false) ∧ Below (w.alloc (.cells #[.int .i64 1, .string (tx t), .int .u64 u, .slice A n c, .int .u64 o, .int .u64 m, .string (tx g)] 25)).heap.size (w.alloc (.cells #[.int .i64 1, .string (tx t), .int .u64 u, .slice A n c, .int .u64 o, .int .u64 m, .string (tx g)] 25)) w'))
    (HFX : Hid (∀ W, Calls Try.prog 7 #[] W fun e w' => e = .returned (.bool true) ∧ Below W.heap.size W w'))
    (HM0 : Hid (∀ W, Below w.heap.size w W → Calls Try.prog 8 #[.int .i64 0, .agg #[.int .i64 1, .string (tx t), .int .u64 u, .slice A n c, .int .u64 o, .int .u64 m, .string (tx g)]] W fun e w' => e = .returned (.bool false) ∧ Below W.heap.size W w'))
    (HM1 : Hid (∀ W, Below w.heap.size w W → Calls Try.prog 8 #[.int .i64 1, .agg #[.int .i64 1, .string (tx t), .int .u64 u, .slice A n c, .int .u64 o, .int .u64 m, .string (tx g)]] W fun e w' => e = .returned (.bool false) ∧ Below W.heap.size W w'))
    (HM2 : Hid (∀ W, Below w.heap.size w W → Calls Try.prog 8 #[.int .i64 2, .agg #[.int .i64 1, .string (tx t), .int .u64 u, .slice A n c, .int .u64 o, .int .u64 m, .string (tx g)]] W fun e w' => e = .returned (.bool false) ∧ Below W.heap.size W w'))
    (HM3 : Hid (∀ W, Below w.heap.size w W → Calls Try.prog 8 #[.int .i64 3, .agg #[.int .i64 1, .string (tx t), .int .u64 u, .slice A n c, .int .u64 o, .int .u64 m, .string (tx g)]] W fun e w' => e = .returned (.bool true) ∧ Below W.heap.size W w'))
    (HM4 : Hid (∀ W, Below w.heap.size w W → Calls Try.prog 8 #[.int .i64 4, .agg #[.int .i64 1, .string (tx t), .int .u64 u, .slice A n c, .int .u64 o, .int .u64 m, .string (tx g)]] W fun e w' => e = .returned (.bool false) ∧ Below W.heap.size W w'))
    :
    Calls Try.prog 5 #[.agg #[.int .i64 1, .string (tx t), .int .u64 u, .slice A n c, .int .u64 o, .int .u64 m, .string (tx g)]] w fun e w' => e = .returned (.bool true) ∧ Below w.heap.size w w' := by
  have H0 := Lib.hid (one_new w (.cells #[.int .i64 1, .string (tx t), .int .u64 u, .slice A n c, .int .u64 o, .int .u64 m, .string (tx g)] 25))
  have HB0 := Lib.hid ((Below.refl w.heap.size w).alloc (Nat.le_refl _) (.cells #[.int .i64 1, .string (tx t), .int .u64 u, .slice A n c, .int .u64 o, .int .u64 m, .string (tx g)] 25))
  have HZ : Hid ((w.alloc (.cells #[.int .i64 1, .string (tx t), .int .u64 u, .slice A n c, .int .u64 o, .int .u64 m, .string (tx g)] 25)).heap.size = w.heap.size + 1) := by show _ = _; simp
  have HCELL : Hid (∀ {i : Nat} {x : Value}, (#[.int .i64 1, .string (tx t), .int .u64 u, .slice A n c, .int .u64 o, .int .u64 m, .string (tx g)] : Array Value)[i]? = some x → ∀ {W : World}, Below (w.heap.size + 1) (w.alloc (.cells #[.int .i64 1, .string (tx t), .int .u64 u, .slice A n c, .int .u64 o, .int .u64 m, .string (tx g)] 25)) W → W.cell? ⟨w.heap.size, i, none⟩ = some x) := fun hi W hb => (hb.cell (p := ⟨w.heap.size, _, none⟩) (show w.heap.size < w.heap.size + 1 by omega)).trans (at_cell H0.out hi)
  go_enter Try.func5, Try.ntmps5
  go_wp2_with (go_at_call 6; refine HG.out.mono ?_; rintro e w2 ⟨rfl, hb2⟩; have HB2 := Lib.hid (HB0.out.trans (hb2.mono HB0.out.size)); have HS2 := Lib.hid (hb2.mono (Nat.le_of_eq HZ.out.symm)); have HS2Z : Hid (w.heap.size + 1 ≤ w2.heap.size) := by { have h1 := hb2.size; rw [HZ.out] at h1; exact h1 }; clear hb2)
  generalize (w.alloc _) = W0 at *
  refine wp_region_held (S := fun v1 => Below (w.heap.size + 1) W0 v1) (by kernel_rfl) ?_
  have hS : Below (w.heap.size + 1) W0 w2.drew := HS2.out.drew
  refine h_take 0 (.agg #[.int .i64 1, .string (tx t), .int .u64 u, .slice A n c, .int .u64 o, .int .u64 m, .string (tx g)]) rfl (by kernel_rfl) (by kernel_rfl) (by kernel_rfl) (fun _ _ _ h => h) (by kernel_rfl) hS (by intro v1 hv; have q0 := HCELL.out (i := 0) rfl hv; have q1 := HCELL.out (i := 1) rfl hv; have q2 := HCELL.out (i := 2) rfl hv; have q3 := HCELL.out (i := 3) rfl hv; have q4 := HCELL.out (i := 4) rfl hv; have q5 := HCELL.out (i := 5) rfl hv; have q6 := HCELL.out (i := 6) rfl hv; go_simp; try rfl) ?_
  refine h_take 2 (.agg #[.int .i64 1, .string (tx t), .int .u64 u, .slice A n c, .int .u64 o, .int .u64 m, .string (tx g)]) rfl (by kernel_rfl) (by kernel_rfl) (by kernel_rfl) (fun _ _ _ h => h) (by kernel_rfl) hS (by intro v1 hv; have q0 := HCELL.out (i := 0) rfl hv; have q1 := HCELL.out (i := 1) rfl hv; have q2 := HCELL.out (i := 2) rfl hv; have q3 := HCELL.out (i := 3) rfl hv; have q4 := HCELL.out (i := 4) rfl hv; have q5 := HCELL.out (i := 5) rfl hv; have q6 := HCELL.out (i := 6) rfl hv; go_simp; try rfl) ?_
  refine h_take 4 (.agg #[.int .i64 1, .string (tx t), .int .u64 u, .slice A n c, .int .u64 o, .int .u64 m, .string (tx g)]) rfl (by kernel_rfl) (by kernel_rfl) (by kernel_rfl) (fun _ _ _ h => h) (by kernel_rfl) hS (by intro v1 hv; have q0 := HCELL.out (i := 0) rfl hv; have q1 := HCELL.out (i := 1) rfl hv; have q2 := HCELL.out (i := 2) rfl hv; have q3 := HCELL.out (i := 3) rfl hv; have q4 := HCELL.out (i := 4) rfl hv; have q5 := HCELL.out (i := 5) rfl hv; have q6 := HCELL.out (i := 6) rfl hv; go_simp; try rfl) ?_
  refine h_one 1 rfl (by kernel_rfl) (by kernel_rfl) (fun K hK => ?_)
  go_simp
  refine (HM1.out _ (HB2.out.drew)).mono ?_
  rintro e w3 ⟨rfl, hb3⟩
  have HB3 := Lib.hid ((HB2.out.drew).trans (hb3.mono (HB2.out.drew).size))
  have hS3 : Below (w.heap.size + 1) W0 w3 := hS.trans (hb3.mono (by have h1 := hS.size; have h2 := HZ.out; omega))
  clear hb3
  refine hK _ _ hS3 ?_
  clear hK K
  refine h_one 3 rfl (by kernel_rfl) (by kernel_rfl) (fun K hK => ?_)
  go_simp
  refine (HM2.out _ (HB3.out)).mono ?_
  rintro e w4 ⟨rfl, hb4⟩
  have HB4 := Lib.hid ((HB3.out).trans (hb4.mono (HB3.out).size))
  have hS4 : Below (w.heap.size + 1) W0 w4 := hS3.trans (hb4.mono (by have h1 := hS3.size; have h2 := HZ.out; omega))
  clear hb4
  refine hK _ _ hS4 ?_
  clear hK K
  refine h_one 5 rfl (by kernel_rfl) (by kernel_rfl) (fun K hK => ?_)
  go_simp
  refine (HM3.out _ (HB4.out)).mono ?_
  rintro e w5 ⟨rfl, hb5⟩
  have HB5 := Lib.hid ((HB4.out).trans (hb5.mono (HB4.out).size))
  have hS5 : Below (w.heap.size + 1) W0 w5 := hS4.trans (hb5.mono (by have h1 := hS4.size; have h2 := HZ.out; omega))
  clear hb5
  refine hK _ _ hS5 ?_
  clear hK K
  refine h_take 6 (.bool false) rfl (by kernel_rfl) (by kernel_rfl) (by kernel_rfl) (fun _ _ _ h => h) (by kernel_rfl) hS5 (fun _ _ => by kernel_rfl) ?_
  refine h_take 7 (.bool false) rfl (by kernel_rfl) (by kernel_rfl) (by kernel_rfl) (fun _ _ _ h => h) (by kernel_rfl) hS5 (fun _ _ => by kernel_rfl) ?_
  refine h_take 8 (.bool true) rfl (by kernel_rfl) (by kernel_rfl) (by kernel_rfl) (fun _ _ _ h => h) (by kernel_rfl) hS5 (fun _ _ => by kernel_rfl) ?_
  refine wpAnyH_done (by kernel_rfl) ?_ _
  go_simp
  have HS5 := Lib.hid hS5
  clear hS hS3 hS4 hS5
  have r0 := HCELL.out (i := 0) rfl HS5.out
  have r1 := HCELL.out (i := 1) rfl HS5.out
  have r2 := HCELL.out (i := 2) rfl HS5.out
  have r3 := HCELL.out (i := 3) rfl HS5.out
  have r4 := HCELL.out (i := 4) rfl HS5.out
  have r5 := HCELL.out (i := 5) rfl HS5.out
  have r6 := HCELL.out (i := 6) rfl HS5.out
  have HB6 := Lib.hid (HB5.out.alloc HB5.out.size (.cells #[.int .i64 1, .string (tx t), .int .u64 u, .slice A n c, .int .u64 o, .int .u64 0, .string { data := #[] }] 25))
  have HS6 := Lib.hid (HS5.out.alloc (by have h1 := HS5.out.size; have h2 := HZ.out; omega) (.cells #[.int .i64 1, .string (tx t), .int .u64 u, .slice A n c, .int .u64 o, .int .u64 0, .string { data := #[] }] 25))
  have HX6 := Lib.hid (one_new w5 (.cells #[.int .i64 1, .string (tx t), .int .u64 u, .slice A n c, .int .u64 o, .int .u64 0, .string { data := #[] }] 25))
  have HX6Z : Hid (w5.heap.size < (w5.alloc (.cells #[.int .i64 1, .string (tx t), .int .u64 u, .slice A n c, .int .u64 o, .int .u64 0, .string { data := #[] }] 25)).heap.size) := by show _ < _; simp
  have HS6Z : Hid (w.heap.size + 1 ≤ (w5.alloc (.cells #[.int .i64 1, .string (tx t), .int .u64 u, .slice A n c, .int .u64 o, .int .u64 0, .string { data := #[] }] 25)).heap.size) := by have h1 := HS6.out.size; have h2 := HZ.out; show _ ≤ _; omega
  go_wp2_with (first
    | (go_at_call 8; have hk := HB9.out.size; refine (HM4.out _ HB9.out).mono ?_; rintro e w10 ⟨rfl, hb10⟩; have HB10 := Lib.hid (HB9.out.trans (hb10.mono HB9.out.size)); clear hb10)
    | (go_at_call 8; have hk := HB7.out.size; refine (HM0.out _ HB7.out).mono ?_; rintro e w9 ⟨rfl, hb9⟩; have HB9 := Lib.hid (HB7.out.trans (hb9.mono HB7.out.size)); have HS9 := Lib.hid (HS7.out.trans (hb9.mono HS7Z.out)); have n0 := HCELL.out (i := 0) rfl HS9.out; have n1 := HCELL.out (i := 1) rfl HS9.out; have n2 := HCELL.out (i := 2) rfl HS9.out; have n3 := HCELL.out (i := 3) rfl HS9.out; have n4 := HCELL.out (i := 4) rfl HS9.out; have n5 := HCELL.out (i := 5) rfl HS9.out; have n6 := HCELL.out (i := 6) rfl HS9.out; clear hb9)
    | (go_at_call 7; refine (HFX.out _).mono ?_; rintro e w7 ⟨rfl, hb7⟩; have HB7 := Lib.hid (HB6.out.trans (hb7.mono HB6.out.size)); have HS7 := Lib.hid (HS6.out.trans (hb7.mono HS6Z.out)); have HS7Z : Hid (w.heap.size + 1 ≤ w7.heap.size) := (Nat.le_trans HS6Z.out hb7.size); have s0 := HCELL.out (i := 0) rfl HS7.out; have s1 := HCELL.out (i := 1) rfl HS7.out; have s2 := HCELL.out (i := 2) rfl HS7.out; have s3 := HCELL.out (i := 3) rfl HS7.out; have s4 := HCELL.out (i := 4) rfl HS7.out; have s5 := HCELL.out (i := 5) rfl HS7.out; have s6 := HCELL.out (i := 6) rfl HS7.out; have x0 := (hb7.cell (p := ⟨w5.heap.size, 0, none⟩) HX6Z.out).trans (at_cell (i := 0) HX6.out rfl); have x1 := (hb7.cell (p := ⟨w5.heap.size, 1, none⟩) HX6Z.out).trans (at_cell (i := 1) HX6.out rfl); have x2 := (hb7.cell (p := ⟨w5.heap.size, 2, none⟩) HX6Z.out).trans (at_cell (i := 2) HX6.out rfl); have x3 := (hb7.cell (p := ⟨w5.heap.size, 3, none⟩) HX6Z.out).trans (at_cell (i := 3) HX6.out rfl); have x4 := (hb7.cell (p := ⟨w5.heap.size, 4, none⟩) HX6Z.out).trans (at_cell (i := 4) HX6.out rfl); have x5 := (hb7.cell (p := ⟨w5.heap.size, 5, none⟩) HX6Z.out).trans (at_cell (i := 5) HX6.out rfl); have x6 := (hb7.cell (p := ⟨w5.heap.size, 6, none⟩) HX6Z.out).trans (at_cell (i := 6) HX6.out rfl); clear hb7))
  go_ret
  exact ⟨rfl, HB10.out⟩

set_option maxRecDepth 100000 in
set_option maxHeartbeats 2000000 in
theorem on_one_ftt (t g : List UInt8) (u o m : Int) (A : Option Addr) (n c : Nat) (w : World)
    (HG : Hid (Calls Try.prog 6 #[.agg #[.int .i64 1, .string (tx t), .int .u64 u, .slice A n c, .int .u64 o, .int .u64 m, .string (tx g)]] (w.alloc (.cells #[.int .i64 1, .string (tx t), .int .u64 u, .slice A n c, .int .u64 o, .int .u64 m, .string (tx g)] 25)) fun e w' => e = .returned (.bool false) ∧ Below (w.alloc (.cells #[.int .i64 1, .string (tx t), .int .u64 u, .slice A n c, .int .u64 o, .int .u64 m, .string (tx g)] 25)).heap.size (w.alloc (.cells #[.int .i64 1, .string (tx t), .int .u64 u, .slice A n c, .int .u64 o, .int .u64 m, .string (tx g)] 25)) w'))
    (HFX : Hid (∀ W, Calls Try.prog 7 #[] W fun e w' => e = .returned (.bool true) ∧ Below W.heap.size W w'))
    (HM0 : Hid (∀ W, Below w.heap.size w W → Calls Try.prog 8 #[.int .i64 0, .agg #[.int .i64 1, .string (tx t), .int .u64 u, .slice A n c, .int .u64 o, .int .u64 m, .string (tx g)]] W fun e w' => e = .returned (.bool false) ∧ Below W.heap.size W w'))
    (HM1 : Hid (∀ W, Below w.heap.size w W → Calls Try.prog 8 #[.int .i64 1, .agg #[.int .i64 1, .string (tx t), .int .u64 u, .slice A n c, .int .u64 o, .int .u64 m, .string (tx g)]] W fun e w' => e = .returned (.bool false) ∧ Below W.heap.size W w'))
    (HM2 : Hid (∀ W, Below w.heap.size w W → Calls Try.prog 8 #[.int .i64 2, .agg #[.int .i64 1, .string (tx t), .int .u64 u, .slice A n c, .int .u64 o, .int .u64 m, .string (tx g)]] W fun e w' => e = .returned (.bool true) ∧ Below W.heap.size W w'))
    (HM3 : Hid (∀ W, Below w.heap.size w W → Calls Try.prog 8 #[.int .i64 3, .agg #[.int .i64 1, .string (tx t), .int .u64 u, .slice A n c, .int .u64 o, .int .u64 m, .string (tx g)]] W fun e w' => e = .returned (.bool true) ∧ Below W.heap.size W w'))
    (HM4 : Hid (∀ W, Below w.heap.size w W → Calls Try.prog 8 #[.int .i64 4, .agg #[.int .i64 1, .string (tx t), .int .u64 u, .slice A n c, .int .u64 o, .int .u64 m, .string (tx g)]] W fun e w' => e = .returned (.bool false) ∧ Below W.heap.size W w'))
    (HX : Hid (∀ W, Below w.heap.size w W → Calls Try.prog 8 #[.int .i64 1, .agg #[.int .i64 1, .string (tx t), .int .u64 u, .slice A n c, .int .u64 o, .int .u64 0, .string { data := #[] }]] W fun e w' => e = .returned (.bool true) ∧ Below W.heap.size W w'))
    :
    Calls Try.prog 5 #[.agg #[.int .i64 1, .string (tx t), .int .u64 u, .slice A n c, .int .u64 o, .int .u64 m, .string (tx g)]] w fun e w' => e = .returned (.bool true) ∧ Below w.heap.size w w' := by
  have H0 := Lib.hid (one_new w (.cells #[.int .i64 1, .string (tx t), .int .u64 u, .slice A n c, .int .u64 o, .int .u64 m, .string (tx g)] 25))
  have HB0 := Lib.hid ((Below.refl w.heap.size w).alloc (Nat.le_refl _) (.cells #[.int .i64 1, .string (tx t), .int .u64 u, .slice A n c, .int .u64 o, .int .u64 m, .string (tx g)] 25))
  have HZ : Hid ((w.alloc (.cells #[.int .i64 1, .string (tx t), .int .u64 u, .slice A n c, .int .u64 o, .int .u64 m, .string (tx g)] 25)).heap.size = w.heap.size + 1) := by show _ = _; simp
  have HCELL : Hid (∀ {i : Nat} {x : Value}, (#[.int .i64 1, .string (tx t), .int .u64 u, .slice A n c, .int .u64 o, .int .u64 m, .string (tx g)] : Array Value)[i]? = some x → ∀ {W : World}, Below (w.heap.size + 1) (w.alloc (.cells #[.int .i64 1, .string (tx t), .int .u64 u, .slice A n c, .int .u64 o, .int .u64 m, .string (tx g)] 25)) W → W.cell? ⟨w.heap.size, i, none⟩ = some x) := fun hi W hb => (hb.cell (p := ⟨w.heap.size, _, none⟩) (show w.heap.size < w.heap.size + 1 by omega)).trans (at_cell H0.out hi)
  go_enter Try.func5, Try.ntmps5
  go_wp2_with (go_at_call 6; refine HG.out.mono ?_; rintro e w2 ⟨rfl, hb2⟩; have HB2 := Lib.hid (HB0.out.trans (hb2.mono HB0.out.size)); have HS2 := Lib.hid (hb2.mono (Nat.le_of_eq HZ.out.symm)); have HS2Z : Hid (w.heap.size + 1 ≤ w2.heap.size) := by { have h1 := hb2.size; rw [HZ.out] at h1; exact h1 }; clear hb2)
  generalize (w.alloc _) = W0 at *
  refine wp_region_held (S := fun v1 => Below (w.heap.size + 1) W0 v1) (by kernel_rfl) ?_
  have hS : Below (w.heap.size + 1) W0 w2.drew := HS2.out.drew
  refine h_take 0 (.agg #[.int .i64 1, .string (tx t), .int .u64 u, .slice A n c, .int .u64 o, .int .u64 m, .string (tx g)]) rfl (by kernel_rfl) (by kernel_rfl) (by kernel_rfl) (fun _ _ _ h => h) (by kernel_rfl) hS (by intro v1 hv; have q0 := HCELL.out (i := 0) rfl hv; have q1 := HCELL.out (i := 1) rfl hv; have q2 := HCELL.out (i := 2) rfl hv; have q3 := HCELL.out (i := 3) rfl hv; have q4 := HCELL.out (i := 4) rfl hv; have q5 := HCELL.out (i := 5) rfl hv; have q6 := HCELL.out (i := 6) rfl hv; go_simp; try rfl) ?_
  refine h_take 2 (.agg #[.int .i64 1, .string (tx t), .int .u64 u, .slice A n c, .int .u64 o, .int .u64 m, .string (tx g)]) rfl (by kernel_rfl) (by kernel_rfl) (by kernel_rfl) (fun _ _ _ h => h) (by kernel_rfl) hS (by intro v1 hv; have q0 := HCELL.out (i := 0) rfl hv; have q1 := HCELL.out (i := 1) rfl hv; have q2 := HCELL.out (i := 2) rfl hv; have q3 := HCELL.out (i := 3) rfl hv; have q4 := HCELL.out (i := 4) rfl hv; have q5 := HCELL.out (i := 5) rfl hv; have q6 := HCELL.out (i := 6) rfl hv; go_simp; try rfl) ?_
  refine h_take 4 (.agg #[.int .i64 1, .string (tx t), .int .u64 u, .slice A n c, .int .u64 o, .int .u64 m, .string (tx g)]) rfl (by kernel_rfl) (by kernel_rfl) (by kernel_rfl) (fun _ _ _ h => h) (by kernel_rfl) hS (by intro v1 hv; have q0 := HCELL.out (i := 0) rfl hv; have q1 := HCELL.out (i := 1) rfl hv; have q2 := HCELL.out (i := 2) rfl hv; have q3 := HCELL.out (i := 3) rfl hv; have q4 := HCELL.out (i := 4) rfl hv; have q5 := HCELL.out (i := 5) rfl hv; have q6 := HCELL.out (i := 6) rfl hv; go_simp; try rfl) ?_
  refine h_one 1 rfl (by kernel_rfl) (by kernel_rfl) (fun K hK => ?_)
  go_simp
  refine (HM1.out _ (HB2.out.drew)).mono ?_
  rintro e w3 ⟨rfl, hb3⟩
  have HB3 := Lib.hid ((HB2.out.drew).trans (hb3.mono (HB2.out.drew).size))
  have hS3 : Below (w.heap.size + 1) W0 w3 := hS.trans (hb3.mono (by have h1 := hS.size; have h2 := HZ.out; omega))
  clear hb3
  refine hK _ _ hS3 ?_
  clear hK K
  refine h_one 3 rfl (by kernel_rfl) (by kernel_rfl) (fun K hK => ?_)
  go_simp
  refine (HM2.out _ (HB3.out)).mono ?_
  rintro e w4 ⟨rfl, hb4⟩
  have HB4 := Lib.hid ((HB3.out).trans (hb4.mono (HB3.out).size))
  have hS4 : Below (w.heap.size + 1) W0 w4 := hS3.trans (hb4.mono (by have h1 := hS3.size; have h2 := HZ.out; omega))
  clear hb4
  refine hK _ _ hS4 ?_
  clear hK K
  refine h_one 5 rfl (by kernel_rfl) (by kernel_rfl) (fun K hK => ?_)
  go_simp
  refine (HM3.out _ (HB4.out)).mono ?_
  rintro e w5 ⟨rfl, hb5⟩
  have HB5 := Lib.hid ((HB4.out).trans (hb5.mono (HB4.out).size))
  have hS5 : Below (w.heap.size + 1) W0 w5 := hS4.trans (hb5.mono (by have h1 := hS4.size; have h2 := HZ.out; omega))
  clear hb5
  refine hK _ _ hS5 ?_
  clear hK K
  refine h_take 6 (.bool false) rfl (by kernel_rfl) (by kernel_rfl) (by kernel_rfl) (fun _ _ _ h => h) (by kernel_rfl) hS5 (fun _ _ => by kernel_rfl) ?_
  refine h_take 7 (.bool true) rfl (by kernel_rfl) (by kernel_rfl) (by kernel_rfl) (fun _ _ _ h => h) (by kernel_rfl) hS5 (fun _ _ => by kernel_rfl) ?_
  refine h_take 8 (.bool true) rfl (by kernel_rfl) (by kernel_rfl) (by kernel_rfl) (fun _ _ _ h => h) (by kernel_rfl) hS5 (fun _ _ => by kernel_rfl) ?_
  refine wpAnyH_done (by kernel_rfl) ?_ _
  go_simp
  have HS5 := Lib.hid hS5
  clear hS hS3 hS4 hS5
  have r0 := HCELL.out (i := 0) rfl HS5.out
  have r1 := HCELL.out (i := 1) rfl HS5.out
  have r2 := HCELL.out (i := 2) rfl HS5.out
  have r3 := HCELL.out (i := 3) rfl HS5.out
  have r4 := HCELL.out (i := 4) rfl HS5.out
  have r5 := HCELL.out (i := 5) rfl HS5.out
  have r6 := HCELL.out (i := 6) rfl HS5.out
  have HB6 := Lib.hid (HB5.out.alloc HB5.out.size (.cells #[.int .i64 1, .string (tx t), .int .u64 u, .slice A n c, .int .u64 o, .int .u64 0, .string { data := #[] }] 25))
  have HS6 := Lib.hid (HS5.out.alloc (by have h1 := HS5.out.size; have h2 := HZ.out; omega) (.cells #[.int .i64 1, .string (tx t), .int .u64 u, .slice A n c, .int .u64 o, .int .u64 0, .string { data := #[] }] 25))
  have HX6 := Lib.hid (one_new w5 (.cells #[.int .i64 1, .string (tx t), .int .u64 u, .slice A n c, .int .u64 o, .int .u64 0, .string { data := #[] }] 25))
  have HX6Z : Hid (w5.heap.size < (w5.alloc (.cells #[.int .i64 1, .string (tx t), .int .u64 u, .slice A n c, .int .u64 o, .int .u64 0, .string { data := #[] }] 25)).heap.size) := by show _ < _; simp
  have HS6Z : Hid (w.heap.size + 1 ≤ (w5.alloc (.cells #[.int .i64 1, .string (tx t), .int .u64 u, .slice A n c, .int .u64 o, .int .u64 0, .string { data := #[] }] 25)).heap.size) := by have h1 := HS6.out.size; have h2 := HZ.out; show _ ≤ _; omega
  go_wp2_with (first
    | (go_at_call 8; have hk := HB9.out.size; refine (HM4.out _ HB9.out).mono ?_; rintro e w10 ⟨rfl, hb10⟩; have HB10 := Lib.hid (HB9.out.trans (hb10.mono HB9.out.size)); clear hb10)
    | (go_at_call 8; have hk := HB8.out.size; refine (HM0.out _ HB8.out).mono ?_; rintro e w9 ⟨rfl, hb9⟩; have HB9 := Lib.hid (HB8.out.trans (hb9.mono HB8.out.size)); have HS9 := Lib.hid (HS8.out.trans (hb9.mono HS8Z.out)); have n0 := HCELL.out (i := 0) rfl HS9.out; have n1 := HCELL.out (i := 1) rfl HS9.out; have n2 := HCELL.out (i := 2) rfl HS9.out; have n3 := HCELL.out (i := 3) rfl HS9.out; have n4 := HCELL.out (i := 4) rfl HS9.out; have n5 := HCELL.out (i := 5) rfl HS9.out; have n6 := HCELL.out (i := 6) rfl HS9.out; clear hb9)
    | (go_at_call 8; have hk := HB7.out.size; refine (HX.out _ HB7.out).mono ?_; rintro e w8 ⟨rfl, hb8⟩; have HB8 := Lib.hid (HB7.out.trans (hb8.mono HB7.out.size)); have HS8 := Lib.hid (HS7.out.trans (hb8.mono HS7Z.out)); have HS8Z : Hid (w.heap.size + 1 ≤ w8.heap.size) := (Nat.le_trans HS7Z.out hb8.size); have m0 := HCELL.out (i := 0) rfl HS8.out; have m1 := HCELL.out (i := 1) rfl HS8.out; have m2 := HCELL.out (i := 2) rfl HS8.out; have m3 := HCELL.out (i := 3) rfl HS8.out; have m4 := HCELL.out (i := 4) rfl HS8.out; have m5 := HCELL.out (i := 5) rfl HS8.out; have m6 := HCELL.out (i := 6) rfl HS8.out; clear hb8)
    | (go_at_call 7; refine (HFX.out _).mono ?_; rintro e w7 ⟨rfl, hb7⟩; have HB7 := Lib.hid (HB6.out.trans (hb7.mono HB6.out.size)); have HS7 := Lib.hid (HS6.out.trans (hb7.mono HS6Z.out)); have HS7Z : Hid (w.heap.size + 1 ≤ w7.heap.size) := (Nat.le_trans HS6Z.out hb7.size); have s0 := HCELL.out (i := 0) rfl HS7.out; have s1 := HCELL.out (i := 1) rfl HS7.out; have s2 := HCELL.out (i := 2) rfl HS7.out; have s3 := HCELL.out (i := 3) rfl HS7.out; have s4 := HCELL.out (i := 4) rfl HS7.out; have s5 := HCELL.out (i := 5) rfl HS7.out; have s6 := HCELL.out (i := 6) rfl HS7.out; have x0 := (hb7.cell (p := ⟨w5.heap.size, 0, none⟩) HX6Z.out).trans (at_cell (i := 0) HX6.out rfl); have x1 := (hb7.cell (p := ⟨w5.heap.size, 1, none⟩) HX6Z.out).trans (at_cell (i := 1) HX6.out rfl); have x2 := (hb7.cell (p := ⟨w5.heap.size, 2, none⟩) HX6Z.out).trans (at_cell (i := 2) HX6.out rfl); have x3 := (hb7.cell (p := ⟨w5.heap.size, 3, none⟩) HX6Z.out).trans (at_cell (i := 3) HX6.out rfl); have x4 := (hb7.cell (p := ⟨w5.heap.size, 4, none⟩) HX6Z.out).trans (at_cell (i := 4) HX6.out rfl); have x5 := (hb7.cell (p := ⟨w5.heap.size, 5, none⟩) HX6Z.out).trans (at_cell (i := 5) HX6.out rfl); have x6 := (hb7.cell (p := ⟨w5.heap.size, 6, none⟩) HX6Z.out).trans (at_cell (i := 6) HX6.out rfl); clear hb7))
  go_ret
  exact ⟨rfl, HB10.out⟩

set_option maxRecDepth 100000 in
set_option maxHeartbeats 2000000 in
theorem on_one_ttt (t g : List UInt8) (u o m : Int) (A : Option Addr) (n c : Nat) (w : World)
    (HG : Hid (Calls Try.prog 6 #[.agg #[.int .i64 1, .string (tx t), .int .u64 u, .slice A n c, .int .u64 o, .int .u64 m, .string (tx g)]] (w.alloc (.cells #[.int .i64 1, .string (tx t), .int .u64 u, .slice A n c, .int .u64 o, .int .u64 m, .string (tx g)] 25)) fun e w' => e = .returned (.bool false) ∧ Below (w.alloc (.cells #[.int .i64 1, .string (tx t), .int .u64 u, .slice A n c, .int .u64 o, .int .u64 m, .string (tx g)] 25)).heap.size (w.alloc (.cells #[.int .i64 1, .string (tx t), .int .u64 u, .slice A n c, .int .u64 o, .int .u64 m, .string (tx g)] 25)) w'))
    (HFX : Hid (∀ W, Calls Try.prog 7 #[] W fun e w' => e = .returned (.bool true) ∧ Below W.heap.size W w'))
    (HM0 : Hid (∀ W, Below w.heap.size w W → Calls Try.prog 8 #[.int .i64 0, .agg #[.int .i64 1, .string (tx t), .int .u64 u, .slice A n c, .int .u64 o, .int .u64 m, .string (tx g)]] W fun e w' => e = .returned (.bool false) ∧ Below W.heap.size W w'))
    (HM1 : Hid (∀ W, Below w.heap.size w W → Calls Try.prog 8 #[.int .i64 1, .agg #[.int .i64 1, .string (tx t), .int .u64 u, .slice A n c, .int .u64 o, .int .u64 m, .string (tx g)]] W fun e w' => e = .returned (.bool true) ∧ Below W.heap.size W w'))
    (HM2 : Hid (∀ W, Below w.heap.size w W → Calls Try.prog 8 #[.int .i64 2, .agg #[.int .i64 1, .string (tx t), .int .u64 u, .slice A n c, .int .u64 o, .int .u64 m, .string (tx g)]] W fun e w' => e = .returned (.bool true) ∧ Below W.heap.size W w'))
    (HM3 : Hid (∀ W, Below w.heap.size w W → Calls Try.prog 8 #[.int .i64 3, .agg #[.int .i64 1, .string (tx t), .int .u64 u, .slice A n c, .int .u64 o, .int .u64 m, .string (tx g)]] W fun e w' => e = .returned (.bool true) ∧ Below W.heap.size W w'))
    (HM4 : Hid (∀ W, Below w.heap.size w W → Calls Try.prog 8 #[.int .i64 4, .agg #[.int .i64 1, .string (tx t), .int .u64 u, .slice A n c, .int .u64 o, .int .u64 m, .string (tx g)]] W fun e w' => e = .returned (.bool false) ∧ Below W.heap.size W w'))
    (HX : Hid (∀ W, Below w.heap.size w W → Calls Try.prog 8 #[.int .i64 1, .agg #[.int .i64 1, .string (tx t), .int .u64 u, .slice A n c, .int .u64 o, .int .u64 0, .string { data := #[] }]] W fun e w' => e = .returned (.bool true) ∧ Below W.heap.size W w'))
    :
    Calls Try.prog 5 #[.agg #[.int .i64 1, .string (tx t), .int .u64 u, .slice A n c, .int .u64 o, .int .u64 m, .string (tx g)]] w fun e w' => e = .returned (.bool true) ∧ Below w.heap.size w w' := by
  have H0 := Lib.hid (one_new w (.cells #[.int .i64 1, .string (tx t), .int .u64 u, .slice A n c, .int .u64 o, .int .u64 m, .string (tx g)] 25))
  have HB0 := Lib.hid ((Below.refl w.heap.size w).alloc (Nat.le_refl _) (.cells #[.int .i64 1, .string (tx t), .int .u64 u, .slice A n c, .int .u64 o, .int .u64 m, .string (tx g)] 25))
  have HZ : Hid ((w.alloc (.cells #[.int .i64 1, .string (tx t), .int .u64 u, .slice A n c, .int .u64 o, .int .u64 m, .string (tx g)] 25)).heap.size = w.heap.size + 1) := by show _ = _; simp
  have HCELL : Hid (∀ {i : Nat} {x : Value}, (#[.int .i64 1, .string (tx t), .int .u64 u, .slice A n c, .int .u64 o, .int .u64 m, .string (tx g)] : Array Value)[i]? = some x → ∀ {W : World}, Below (w.heap.size + 1) (w.alloc (.cells #[.int .i64 1, .string (tx t), .int .u64 u, .slice A n c, .int .u64 o, .int .u64 m, .string (tx g)] 25)) W → W.cell? ⟨w.heap.size, i, none⟩ = some x) := fun hi W hb => (hb.cell (p := ⟨w.heap.size, _, none⟩) (show w.heap.size < w.heap.size + 1 by omega)).trans (at_cell H0.out hi)
  go_enter Try.func5, Try.ntmps5
  go_wp2_with (go_at_call 6; refine HG.out.mono ?_; rintro e w2 ⟨rfl, hb2⟩; have HB2 := Lib.hid (HB0.out.trans (hb2.mono HB0.out.size)); have HS2 := Lib.hid (hb2.mono (Nat.le_of_eq HZ.out.symm)); have HS2Z : Hid (w.heap.size + 1 ≤ w2.heap.size) := by { have h1 := hb2.size; rw [HZ.out] at h1; exact h1 }; clear hb2)
  generalize (w.alloc _) = W0 at *
  refine wp_region_held (S := fun v1 => Below (w.heap.size + 1) W0 v1) (by kernel_rfl) ?_
  have hS : Below (w.heap.size + 1) W0 w2.drew := HS2.out.drew
  refine h_take 0 (.agg #[.int .i64 1, .string (tx t), .int .u64 u, .slice A n c, .int .u64 o, .int .u64 m, .string (tx g)]) rfl (by kernel_rfl) (by kernel_rfl) (by kernel_rfl) (fun _ _ _ h => h) (by kernel_rfl) hS (by intro v1 hv; have q0 := HCELL.out (i := 0) rfl hv; have q1 := HCELL.out (i := 1) rfl hv; have q2 := HCELL.out (i := 2) rfl hv; have q3 := HCELL.out (i := 3) rfl hv; have q4 := HCELL.out (i := 4) rfl hv; have q5 := HCELL.out (i := 5) rfl hv; have q6 := HCELL.out (i := 6) rfl hv; go_simp; try rfl) ?_
  refine h_take 2 (.agg #[.int .i64 1, .string (tx t), .int .u64 u, .slice A n c, .int .u64 o, .int .u64 m, .string (tx g)]) rfl (by kernel_rfl) (by kernel_rfl) (by kernel_rfl) (fun _ _ _ h => h) (by kernel_rfl) hS (by intro v1 hv; have q0 := HCELL.out (i := 0) rfl hv; have q1 := HCELL.out (i := 1) rfl hv; have q2 := HCELL.out (i := 2) rfl hv; have q3 := HCELL.out (i := 3) rfl hv; have q4 := HCELL.out (i := 4) rfl hv; have q5 := HCELL.out (i := 5) rfl hv; have q6 := HCELL.out (i := 6) rfl hv; go_simp; try rfl) ?_
  refine h_take 4 (.agg #[.int .i64 1, .string (tx t), .int .u64 u, .slice A n c, .int .u64 o, .int .u64 m, .string (tx g)]) rfl (by kernel_rfl) (by kernel_rfl) (by kernel_rfl) (fun _ _ _ h => h) (by kernel_rfl) hS (by intro v1 hv; have q0 := HCELL.out (i := 0) rfl hv; have q1 := HCELL.out (i := 1) rfl hv; have q2 := HCELL.out (i := 2) rfl hv; have q3 := HCELL.out (i := 3) rfl hv; have q4 := HCELL.out (i := 4) rfl hv; have q5 := HCELL.out (i := 5) rfl hv; have q6 := HCELL.out (i := 6) rfl hv; go_simp; try rfl) ?_
  refine h_one 1 rfl (by kernel_rfl) (by kernel_rfl) (fun K hK => ?_)
  go_simp
  refine (HM1.out _ (HB2.out.drew)).mono ?_
  rintro e w3 ⟨rfl, hb3⟩
  have HB3 := Lib.hid ((HB2.out.drew).trans (hb3.mono (HB2.out.drew).size))
  have hS3 : Below (w.heap.size + 1) W0 w3 := hS.trans (hb3.mono (by have h1 := hS.size; have h2 := HZ.out; omega))
  clear hb3
  refine hK _ _ hS3 ?_
  clear hK K
  refine h_one 3 rfl (by kernel_rfl) (by kernel_rfl) (fun K hK => ?_)
  go_simp
  refine (HM2.out _ (HB3.out)).mono ?_
  rintro e w4 ⟨rfl, hb4⟩
  have HB4 := Lib.hid ((HB3.out).trans (hb4.mono (HB3.out).size))
  have hS4 : Below (w.heap.size + 1) W0 w4 := hS3.trans (hb4.mono (by have h1 := hS3.size; have h2 := HZ.out; omega))
  clear hb4
  refine hK _ _ hS4 ?_
  clear hK K
  refine h_one 5 rfl (by kernel_rfl) (by kernel_rfl) (fun K hK => ?_)
  go_simp
  refine (HM3.out _ (HB4.out)).mono ?_
  rintro e w5 ⟨rfl, hb5⟩
  have HB5 := Lib.hid ((HB4.out).trans (hb5.mono (HB4.out).size))
  have hS5 : Below (w.heap.size + 1) W0 w5 := hS4.trans (hb5.mono (by have h1 := hS4.size; have h2 := HZ.out; omega))
  clear hb5
  refine hK _ _ hS5 ?_
  clear hK K
  refine h_take 6 (.bool true) rfl (by kernel_rfl) (by kernel_rfl) (by kernel_rfl) (fun _ _ _ h => h) (by kernel_rfl) hS5 (fun _ _ => by kernel_rfl) ?_
  refine h_take 7 (.bool true) rfl (by kernel_rfl) (by kernel_rfl) (by kernel_rfl) (fun _ _ _ h => h) (by kernel_rfl) hS5 (fun _ _ => by kernel_rfl) ?_
  refine h_take 8 (.bool true) rfl (by kernel_rfl) (by kernel_rfl) (by kernel_rfl) (fun _ _ _ h => h) (by kernel_rfl) hS5 (fun _ _ => by kernel_rfl) ?_
  refine wpAnyH_done (by kernel_rfl) ?_ _
  go_simp
  have HS5 := Lib.hid hS5
  clear hS hS3 hS4 hS5
  have r0 := HCELL.out (i := 0) rfl HS5.out
  have r1 := HCELL.out (i := 1) rfl HS5.out
  have r2 := HCELL.out (i := 2) rfl HS5.out
  have r3 := HCELL.out (i := 3) rfl HS5.out
  have r4 := HCELL.out (i := 4) rfl HS5.out
  have r5 := HCELL.out (i := 5) rfl HS5.out
  have r6 := HCELL.out (i := 6) rfl HS5.out
  have HB6 := Lib.hid (HB5.out.alloc HB5.out.size (.cells #[.int .i64 1, .string (tx t), .int .u64 u, .slice A n c, .int .u64 o, .int .u64 0, .string { data := #[] }] 25))
  have HS6 := Lib.hid (HS5.out.alloc (by have h1 := HS5.out.size; have h2 := HZ.out; omega) (.cells #[.int .i64 1, .string (tx t), .int .u64 u, .slice A n c, .int .u64 o, .int .u64 0, .string { data := #[] }] 25))
  have HX6 := Lib.hid (one_new w5 (.cells #[.int .i64 1, .string (tx t), .int .u64 u, .slice A n c, .int .u64 o, .int .u64 0, .string { data := #[] }] 25))
  have HX6Z : Hid (w5.heap.size < (w5.alloc (.cells #[.int .i64 1, .string (tx t), .int .u64 u, .slice A n c, .int .u64 o, .int .u64 0, .string { data := #[] }] 25)).heap.size) := by show _ < _; simp
  have HS6Z : Hid (w.heap.size + 1 ≤ (w5.alloc (.cells #[.int .i64 1, .string (tx t), .int .u64 u, .slice A n c, .int .u64 o, .int .u64 0, .string { data := #[] }] 25)).heap.size) := by have h1 := HS6.out.size; have h2 := HZ.out; show _ ≤ _; omega
  go_wp2_with (first
    | (go_at_call 8; have hk := HB9.out.size; refine (HM4.out _ HB9.out).mono ?_; rintro e w10 ⟨rfl, hb10⟩; have HB10 := Lib.hid (HB9.out.trans (hb10.mono HB9.out.size)); clear hb10)
    | (go_at_call 8; have hk := HB8.out.size; refine (HM0.out _ HB8.out).mono ?_; rintro e w9 ⟨rfl, hb9⟩; have HB9 := Lib.hid (HB8.out.trans (hb9.mono HB8.out.size)); have HS9 := Lib.hid (HS8.out.trans (hb9.mono HS8Z.out)); have n0 := HCELL.out (i := 0) rfl HS9.out; have n1 := HCELL.out (i := 1) rfl HS9.out; have n2 := HCELL.out (i := 2) rfl HS9.out; have n3 := HCELL.out (i := 3) rfl HS9.out; have n4 := HCELL.out (i := 4) rfl HS9.out; have n5 := HCELL.out (i := 5) rfl HS9.out; have n6 := HCELL.out (i := 6) rfl HS9.out; clear hb9)
    | (go_at_call 8; have hk := HB7.out.size; refine (HX.out _ HB7.out).mono ?_; rintro e w8 ⟨rfl, hb8⟩; have HB8 := Lib.hid (HB7.out.trans (hb8.mono HB7.out.size)); have HS8 := Lib.hid (HS7.out.trans (hb8.mono HS7Z.out)); have HS8Z : Hid (w.heap.size + 1 ≤ w8.heap.size) := (Nat.le_trans HS7Z.out hb8.size); have m0 := HCELL.out (i := 0) rfl HS8.out; have m1 := HCELL.out (i := 1) rfl HS8.out; have m2 := HCELL.out (i := 2) rfl HS8.out; have m3 := HCELL.out (i := 3) rfl HS8.out; have m4 := HCELL.out (i := 4) rfl HS8.out; have m5 := HCELL.out (i := 5) rfl HS8.out; have m6 := HCELL.out (i := 6) rfl HS8.out; clear hb8)
    | (go_at_call 7; refine (HFX.out _).mono ?_; rintro e w7 ⟨rfl, hb7⟩; have HB7 := Lib.hid (HB6.out.trans (hb7.mono HB6.out.size)); have HS7 := Lib.hid (HS6.out.trans (hb7.mono HS6Z.out)); have HS7Z : Hid (w.heap.size + 1 ≤ w7.heap.size) := (Nat.le_trans HS6Z.out hb7.size); have s0 := HCELL.out (i := 0) rfl HS7.out; have s1 := HCELL.out (i := 1) rfl HS7.out; have s2 := HCELL.out (i := 2) rfl HS7.out; have s3 := HCELL.out (i := 3) rfl HS7.out; have s4 := HCELL.out (i := 4) rfl HS7.out; have s5 := HCELL.out (i := 5) rfl HS7.out; have s6 := HCELL.out (i := 6) rfl HS7.out; have x0 := (hb7.cell (p := ⟨w5.heap.size, 0, none⟩) HX6Z.out).trans (at_cell (i := 0) HX6.out rfl); have x1 := (hb7.cell (p := ⟨w5.heap.size, 1, none⟩) HX6Z.out).trans (at_cell (i := 1) HX6.out rfl); have x2 := (hb7.cell (p := ⟨w5.heap.size, 2, none⟩) HX6Z.out).trans (at_cell (i := 2) HX6.out rfl); have x3 := (hb7.cell (p := ⟨w5.heap.size, 3, none⟩) HX6Z.out).trans (at_cell (i := 3) HX6.out rfl); have x4 := (hb7.cell (p := ⟨w5.heap.size, 4, none⟩) HX6Z.out).trans (at_cell (i := 4) HX6.out rfl); have x5 := (hb7.cell (p := ⟨w5.heap.size, 5, none⟩) HX6Z.out).trans (at_cell (i := 5) HX6.out rfl); have x6 := (hb7.cell (p := ⟨w5.heap.size, 6, none⟩) HX6Z.out).trans (at_cell (i := 6) HX6.out rfl); clear hb7))
  go_ret
  exact ⟨rfl, HB10.out⟩

set_option maxRecDepth 100000 in
set_option maxHeartbeats 2000000 in
theorem on_two_fff (t g : List UInt8) (u o m : Int) (A : Option Addr) (n c : Nat) (w : World)
    (HG : Hid (Calls Try.prog 6 #[.agg #[.int .i64 2, .string (tx t), .int .u64 u, .slice A n c, .int .u64 o, .int .u64 m, .string (tx g)]] (w.alloc (.cells #[.int .i64 2, .string (tx t), .int .u64 u, .slice A n c, .int .u64 o, .int .u64 m, .string (tx g)] 25)) fun e w' => e = .returned (.bool false) ∧ Below (w.alloc (.cells #[.int .i64 2, .string (tx t), .int .u64 u, .slice A n c, .int .u64 o, .int .u64 m, .string (tx g)] 25)).heap.size (w.alloc (.cells #[.int .i64 2, .string (tx t), .int .u64 u, .slice A n c, .int .u64 o, .int .u64 m, .string (tx g)] 25)) w'))
    (HFX : Hid (∀ W, Calls Try.prog 7 #[] W fun e w' => e = .returned (.bool true) ∧ Below W.heap.size W w'))
    (HM0 : Hid (∀ W, Below w.heap.size w W → Calls Try.prog 8 #[.int .i64 0, .agg #[.int .i64 2, .string (tx t), .int .u64 u, .slice A n c, .int .u64 o, .int .u64 m, .string (tx g)]] W fun e w' => e = .returned (.bool false) ∧ Below W.heap.size W w'))
    (HM1 : Hid (∀ W, Below w.heap.size w W → Calls Try.prog 8 #[.int .i64 1, .agg #[.int .i64 2, .string (tx t), .int .u64 u, .slice A n c, .int .u64 o, .int .u64 m, .string (tx g)]] W fun e w' => e = .returned (.bool false) ∧ Below W.heap.size W w'))
    (HM2 : Hid (∀ W, Below w.heap.size w W → Calls Try.prog 8 #[.int .i64 2, .agg #[.int .i64 2, .string (tx t), .int .u64 u, .slice A n c, .int .u64 o, .int .u64 m, .string (tx g)]] W fun e w' => e = .returned (.bool false) ∧ Below W.heap.size W w'))
    (HM3 : Hid (∀ W, Below w.heap.size w W → Calls Try.prog 8 #[.int .i64 3, .agg #[.int .i64 2, .string (tx t), .int .u64 u, .slice A n c, .int .u64 o, .int .u64 m, .string (tx g)]] W fun e w' => e = .returned (.bool false) ∧ Below W.heap.size W w'))
    (HM4 : Hid (∀ W, Below w.heap.size w W → Calls Try.prog 8 #[.int .i64 4, .agg #[.int .i64 2, .string (tx t), .int .u64 u, .slice A n c, .int .u64 o, .int .u64 m, .string (tx g)]] W fun e w' => e = .returned (.bool false) ∧ Below W.heap.size W w'))
    :
    Calls Try.prog 5 #[.agg #[.int .i64 2, .string (tx t), .int .u64 u, .slice A n c, .int .u64 o, .int .u64 m, .string (tx g)]] w fun e w' => e = .returned (.bool true) ∧ Below w.heap.size w w' := by
  have H0 := Lib.hid (one_new w (.cells #[.int .i64 2, .string (tx t), .int .u64 u, .slice A n c, .int .u64 o, .int .u64 m, .string (tx g)] 25))
  have HB0 := Lib.hid ((Below.refl w.heap.size w).alloc (Nat.le_refl _) (.cells #[.int .i64 2, .string (tx t), .int .u64 u, .slice A n c, .int .u64 o, .int .u64 m, .string (tx g)] 25))
  have HZ : Hid ((w.alloc (.cells #[.int .i64 2, .string (tx t), .int .u64 u, .slice A n c, .int .u64 o, .int .u64 m, .string (tx g)] 25)).heap.size = w.heap.size + 1) := by show _ = _; simp
  have HCELL : Hid (∀ {i : Nat} {x : Value}, (#[.int .i64 2, .string (tx t), .int .u64 u, .slice A n c, .int .u64 o, .int .u64 m, .string (tx g)] : Array Value)[i]? = some x → ∀ {W : World}, Below (w.heap.size + 1) (w.alloc (.cells #[.int .i64 2, .string (tx t), .int .u64 u, .slice A n c, .int .u64 o, .int .u64 m, .string (tx g)] 25)) W → W.cell? ⟨w.heap.size, i, none⟩ = some x) := fun hi W hb => (hb.cell (p := ⟨w.heap.size, _, none⟩) (show w.heap.size < w.heap.size + 1 by omega)).trans (at_cell H0.out hi)
  go_enter Try.func5, Try.ntmps5
  go_wp2_with (go_at_call 6; refine HG.out.mono ?_; rintro e w2 ⟨rfl, hb2⟩; have HB2 := Lib.hid (HB0.out.trans (hb2.mono HB0.out.size)); have HS2 := Lib.hid (hb2.mono (Nat.le_of_eq HZ.out.symm)); have HS2Z : Hid (w.heap.size + 1 ≤ w2.heap.size) := by { have h1 := hb2.size; rw [HZ.out] at h1; exact h1 }; clear hb2)
  generalize (w.alloc _) = W0 at *
  refine wp_region_held (S := fun v1 => Below (w.heap.size + 1) W0 v1) (by kernel_rfl) ?_
  have hS : Below (w.heap.size + 1) W0 w2.drew := HS2.out.drew
  refine h_take 0 (.agg #[.int .i64 2, .string (tx t), .int .u64 u, .slice A n c, .int .u64 o, .int .u64 m, .string (tx g)]) rfl (by kernel_rfl) (by kernel_rfl) (by kernel_rfl) (fun _ _ _ h => h) (by kernel_rfl) hS (by intro v1 hv; have q0 := HCELL.out (i := 0) rfl hv; have q1 := HCELL.out (i := 1) rfl hv; have q2 := HCELL.out (i := 2) rfl hv; have q3 := HCELL.out (i := 3) rfl hv; have q4 := HCELL.out (i := 4) rfl hv; have q5 := HCELL.out (i := 5) rfl hv; have q6 := HCELL.out (i := 6) rfl hv; go_simp; try rfl) ?_
  refine h_take 2 (.agg #[.int .i64 2, .string (tx t), .int .u64 u, .slice A n c, .int .u64 o, .int .u64 m, .string (tx g)]) rfl (by kernel_rfl) (by kernel_rfl) (by kernel_rfl) (fun _ _ _ h => h) (by kernel_rfl) hS (by intro v1 hv; have q0 := HCELL.out (i := 0) rfl hv; have q1 := HCELL.out (i := 1) rfl hv; have q2 := HCELL.out (i := 2) rfl hv; have q3 := HCELL.out (i := 3) rfl hv; have q4 := HCELL.out (i := 4) rfl hv; have q5 := HCELL.out (i := 5) rfl hv; have q6 := HCELL.out (i := 6) rfl hv; go_simp; try rfl) ?_
  refine h_take 4 (.agg #[.int .i64 2, .string (tx t), .int .u64 u, .slice A n c, .int .u64 o, .int .u64 m, .string (tx g)]) rfl (by kernel_rfl) (by kernel_rfl) (by kernel_rfl) (fun _ _ _ h => h) (by kernel_rfl) hS (by intro v1 hv; have q0 := HCELL.out (i := 0) rfl hv; have q1 := HCELL.out (i := 1) rfl hv; have q2 := HCELL.out (i := 2) rfl hv; have q3 := HCELL.out (i := 3) rfl hv; have q4 := HCELL.out (i := 4) rfl hv; have q5 := HCELL.out (i := 5) rfl hv; have q6 := HCELL.out (i := 6) rfl hv; go_simp; try rfl) ?_
  refine h_one 1 rfl (by kernel_rfl) (by kernel_rfl) (fun K hK => ?_)
  go_simp
  refine (HM1.out _ (HB2.out.drew)).mono ?_
  rintro e w3 ⟨rfl, hb3⟩
  have HB3 := Lib.hid ((HB2.out.drew).trans (hb3.mono (HB2.out.drew).size))
  have hS3 : Below (w.heap.size + 1) W0 w3 := hS.trans (hb3.mono (by have h1 := hS.size; have h2 := HZ.out; omega))
  clear hb3
  refine hK _ _ hS3 ?_
  clear hK K
  refine h_one 3 rfl (by kernel_rfl) (by kernel_rfl) (fun K hK => ?_)
  go_simp
  refine (HM2.out _ (HB3.out)).mono ?_
  rintro e w4 ⟨rfl, hb4⟩
  have HB4 := Lib.hid ((HB3.out).trans (hb4.mono (HB3.out).size))
  have hS4 : Below (w.heap.size + 1) W0 w4 := hS3.trans (hb4.mono (by have h1 := hS3.size; have h2 := HZ.out; omega))
  clear hb4
  refine hK _ _ hS4 ?_
  clear hK K
  refine h_one 5 rfl (by kernel_rfl) (by kernel_rfl) (fun K hK => ?_)
  go_simp
  refine (HM3.out _ (HB4.out)).mono ?_
  rintro e w5 ⟨rfl, hb5⟩
  have HB5 := Lib.hid ((HB4.out).trans (hb5.mono (HB4.out).size))
  have hS5 : Below (w.heap.size + 1) W0 w5 := hS4.trans (hb5.mono (by have h1 := hS4.size; have h2 := HZ.out; omega))
  clear hb5
  refine hK _ _ hS5 ?_
  clear hK K
  refine h_take 6 (.bool false) rfl (by kernel_rfl) (by kernel_rfl) (by kernel_rfl) (fun _ _ _ h => h) (by kernel_rfl) hS5 (fun _ _ => by kernel_rfl) ?_
  refine h_take 7 (.bool false) rfl (by kernel_rfl) (by kernel_rfl) (by kernel_rfl) (fun _ _ _ h => h) (by kernel_rfl) hS5 (fun _ _ => by kernel_rfl) ?_
  refine h_take 8 (.bool false) rfl (by kernel_rfl) (by kernel_rfl) (by kernel_rfl) (fun _ _ _ h => h) (by kernel_rfl) hS5 (fun _ _ => by kernel_rfl) ?_
  refine wpAnyH_done (by kernel_rfl) ?_ _
  go_simp
  have HS5 := Lib.hid hS5
  clear hS hS3 hS4 hS5
  have r0 := HCELL.out (i := 0) rfl HS5.out
  have r1 := HCELL.out (i := 1) rfl HS5.out
  have r2 := HCELL.out (i := 2) rfl HS5.out
  have r3 := HCELL.out (i := 3) rfl HS5.out
  have r4 := HCELL.out (i := 4) rfl HS5.out
  have r5 := HCELL.out (i := 5) rfl HS5.out
  have r6 := HCELL.out (i := 6) rfl HS5.out
  have HB6 := Lib.hid (HB5.out.alloc HB5.out.size (.cells #[.int .i64 2, .string (tx t), .int .u64 u, .slice A n c, .int .u64 o, .int .u64 0, .string { data := #[] }] 25))
  have HS6 := Lib.hid (HS5.out.alloc (by have h1 := HS5.out.size; have h2 := HZ.out; omega) (.cells #[.int .i64 2, .string (tx t), .int .u64 u, .slice A n c, .int .u64 o, .int .u64 0, .string { data := #[] }] 25))
  have HX6 := Lib.hid (one_new w5 (.cells #[.int .i64 2, .string (tx t), .int .u64 u, .slice A n c, .int .u64 o, .int .u64 0, .string { data := #[] }] 25))
  have HX6Z : Hid (w5.heap.size < (w5.alloc (.cells #[.int .i64 2, .string (tx t), .int .u64 u, .slice A n c, .int .u64 o, .int .u64 0, .string { data := #[] }] 25)).heap.size) := by show _ < _; simp
  have HS6Z : Hid (w.heap.size + 1 ≤ (w5.alloc (.cells #[.int .i64 2, .string (tx t), .int .u64 u, .slice A n c, .int .u64 o, .int .u64 0, .string { data := #[] }] 25)).heap.size) := by have h1 := HS6.out.size; have h2 := HZ.out; show _ ≤ _; omega
  go_wp2_with (first
    | (go_at_call 8; have hk := HB9.out.size; refine (HM4.out _ HB9.out).mono ?_; rintro e w10 ⟨rfl, hb10⟩; have HB10 := Lib.hid (HB9.out.trans (hb10.mono HB9.out.size)); clear hb10)
    | (go_at_call 8; have hk := HB7.out.size; refine (HM0.out _ HB7.out).mono ?_; rintro e w9 ⟨rfl, hb9⟩; have HB9 := Lib.hid (HB7.out.trans (hb9.mono HB7.out.size)); have HS9 := Lib.hid (HS7.out.trans (hb9.mono HS7Z.out)); have n0 := HCELL.out (i := 0) rfl HS9.out; have n1 := HCELL.out (i := 1) rfl HS9.out; have n2 := HCELL.out (i := 2) rfl HS9.out; have n3 := HCELL.out (i := 3) rfl HS9.out; have n4 := HCELL.out (i := 4) rfl HS9.out; have n5 := HCELL.out (i := 5) rfl HS9.out; have n6 := HCELL.out (i := 6) rfl HS9.out; clear hb9)
    | (go_at_call 7; refine (HFX.out _).mono ?_; rintro e w7 ⟨rfl, hb7⟩; have HB7 := Lib.hid (HB6.out.trans (hb7.mono HB6.out.size)); have HS7 := Lib.hid (HS6.out.trans (hb7.mono HS6Z.out)); have HS7Z : Hid (w.heap.size + 1 ≤ w7.heap.size) := (Nat.le_trans HS6Z.out hb7.size); have s0 := HCELL.out (i := 0) rfl HS7.out; have s1 := HCELL.out (i := 1) rfl HS7.out; have s2 := HCELL.out (i := 2) rfl HS7.out; have s3 := HCELL.out (i := 3) rfl HS7.out; have s4 := HCELL.out (i := 4) rfl HS7.out; have s5 := HCELL.out (i := 5) rfl HS7.out; have s6 := HCELL.out (i := 6) rfl HS7.out; have x0 := (hb7.cell (p := ⟨w5.heap.size, 0, none⟩) HX6Z.out).trans (at_cell (i := 0) HX6.out rfl); have x1 := (hb7.cell (p := ⟨w5.heap.size, 1, none⟩) HX6Z.out).trans (at_cell (i := 1) HX6.out rfl); have x2 := (hb7.cell (p := ⟨w5.heap.size, 2, none⟩) HX6Z.out).trans (at_cell (i := 2) HX6.out rfl); have x3 := (hb7.cell (p := ⟨w5.heap.size, 3, none⟩) HX6Z.out).trans (at_cell (i := 3) HX6.out rfl); have x4 := (hb7.cell (p := ⟨w5.heap.size, 4, none⟩) HX6Z.out).trans (at_cell (i := 4) HX6.out rfl); have x5 := (hb7.cell (p := ⟨w5.heap.size, 5, none⟩) HX6Z.out).trans (at_cell (i := 5) HX6.out rfl); have x6 := (hb7.cell (p := ⟨w5.heap.size, 6, none⟩) HX6Z.out).trans (at_cell (i := 6) HX6.out rfl); clear hb7))
  go_ret
  exact ⟨rfl, HB10.out⟩

set_option maxRecDepth 100000 in
set_option maxHeartbeats 2000000 in
theorem on_two_ttt (t g : List UInt8) (u o m : Int) (A : Option Addr) (n c : Nat) (w : World)
    (HG : Hid (Calls Try.prog 6 #[.agg #[.int .i64 2, .string (tx t), .int .u64 u, .slice A n c, .int .u64 o, .int .u64 m, .string (tx g)]] (w.alloc (.cells #[.int .i64 2, .string (tx t), .int .u64 u, .slice A n c, .int .u64 o, .int .u64 m, .string (tx g)] 25)) fun e w' => e = .returned (.bool false) ∧ Below (w.alloc (.cells #[.int .i64 2, .string (tx t), .int .u64 u, .slice A n c, .int .u64 o, .int .u64 m, .string (tx g)] 25)).heap.size (w.alloc (.cells #[.int .i64 2, .string (tx t), .int .u64 u, .slice A n c, .int .u64 o, .int .u64 m, .string (tx g)] 25)) w'))
    (HFX : Hid (∀ W, Calls Try.prog 7 #[] W fun e w' => e = .returned (.bool true) ∧ Below W.heap.size W w'))
    (HM0 : Hid (∀ W, Below w.heap.size w W → Calls Try.prog 8 #[.int .i64 0, .agg #[.int .i64 2, .string (tx t), .int .u64 u, .slice A n c, .int .u64 o, .int .u64 m, .string (tx g)]] W fun e w' => e = .returned (.bool false) ∧ Below W.heap.size W w'))
    (HM1 : Hid (∀ W, Below w.heap.size w W → Calls Try.prog 8 #[.int .i64 1, .agg #[.int .i64 2, .string (tx t), .int .u64 u, .slice A n c, .int .u64 o, .int .u64 m, .string (tx g)]] W fun e w' => e = .returned (.bool true) ∧ Below W.heap.size W w'))
    (HM2 : Hid (∀ W, Below w.heap.size w W → Calls Try.prog 8 #[.int .i64 2, .agg #[.int .i64 2, .string (tx t), .int .u64 u, .slice A n c, .int .u64 o, .int .u64 m, .string (tx g)]] W fun e w' => e = .returned (.bool true) ∧ Below W.heap.size W w'))
    (HM3 : Hid (∀ W, Below w.heap.size w W → Calls Try.prog 8 #[.int .i64 3, .agg #[.int .i64 2, .string (tx t), .int .u64 u, .slice A n c, .int .u64 o, .int .u64 m, .string (tx g)]] W fun e w' => e = .returned (.bool true) ∧ Below W.heap.size W w'))
    (HM4 : Hid (∀ W, Below w.heap.size w W → Calls Try.prog 8 #[.int .i64 4, .agg #[.int .i64 2, .string (tx t), .int .u64 u, .slice A n c, .int .u64 o, .int .u64 m, .string (tx g)]] W fun e w' => e = .returned (.bool false) ∧ Below W.heap.size W w'))
    :
    Calls Try.prog 5 #[.agg #[.int .i64 2, .string (tx t), .int .u64 u, .slice A n c, .int .u64 o, .int .u64 m, .string (tx g)]] w fun e w' => e = .returned (.bool true) ∧ Below w.heap.size w w' := by
  have H0 := Lib.hid (one_new w (.cells #[.int .i64 2, .string (tx t), .int .u64 u, .slice A n c, .int .u64 o, .int .u64 m, .string (tx g)] 25))
  have HB0 := Lib.hid ((Below.refl w.heap.size w).alloc (Nat.le_refl _) (.cells #[.int .i64 2, .string (tx t), .int .u64 u, .slice A n c, .int .u64 o, .int .u64 m, .string (tx g)] 25))
  have HZ : Hid ((w.alloc (.cells #[.int .i64 2, .string (tx t), .int .u64 u, .slice A n c, .int .u64 o, .int .u64 m, .string (tx g)] 25)).heap.size = w.heap.size + 1) := by show _ = _; simp
  have HCELL : Hid (∀ {i : Nat} {x : Value}, (#[.int .i64 2, .string (tx t), .int .u64 u, .slice A n c, .int .u64 o, .int .u64 m, .string (tx g)] : Array Value)[i]? = some x → ∀ {W : World}, Below (w.heap.size + 1) (w.alloc (.cells #[.int .i64 2, .string (tx t), .int .u64 u, .slice A n c, .int .u64 o, .int .u64 m, .string (tx g)] 25)) W → W.cell? ⟨w.heap.size, i, none⟩ = some x) := fun hi W hb => (hb.cell (p := ⟨w.heap.size, _, none⟩) (show w.heap.size < w.heap.size + 1 by omega)).trans (at_cell H0.out hi)
  go_enter Try.func5, Try.ntmps5
  go_wp2_with (go_at_call 6; refine HG.out.mono ?_; rintro e w2 ⟨rfl, hb2⟩; have HB2 := Lib.hid (HB0.out.trans (hb2.mono HB0.out.size)); have HS2 := Lib.hid (hb2.mono (Nat.le_of_eq HZ.out.symm)); have HS2Z : Hid (w.heap.size + 1 ≤ w2.heap.size) := by { have h1 := hb2.size; rw [HZ.out] at h1; exact h1 }; clear hb2)
  generalize (w.alloc _) = W0 at *
  refine wp_region_held (S := fun v1 => Below (w.heap.size + 1) W0 v1) (by kernel_rfl) ?_
  have hS : Below (w.heap.size + 1) W0 w2.drew := HS2.out.drew
  refine h_take 0 (.agg #[.int .i64 2, .string (tx t), .int .u64 u, .slice A n c, .int .u64 o, .int .u64 m, .string (tx g)]) rfl (by kernel_rfl) (by kernel_rfl) (by kernel_rfl) (fun _ _ _ h => h) (by kernel_rfl) hS (by intro v1 hv; have q0 := HCELL.out (i := 0) rfl hv; have q1 := HCELL.out (i := 1) rfl hv; have q2 := HCELL.out (i := 2) rfl hv; have q3 := HCELL.out (i := 3) rfl hv; have q4 := HCELL.out (i := 4) rfl hv; have q5 := HCELL.out (i := 5) rfl hv; have q6 := HCELL.out (i := 6) rfl hv; go_simp; try rfl) ?_
  refine h_take 2 (.agg #[.int .i64 2, .string (tx t), .int .u64 u, .slice A n c, .int .u64 o, .int .u64 m, .string (tx g)]) rfl (by kernel_rfl) (by kernel_rfl) (by kernel_rfl) (fun _ _ _ h => h) (by kernel_rfl) hS (by intro v1 hv; have q0 := HCELL.out (i := 0) rfl hv; have q1 := HCELL.out (i := 1) rfl hv; have q2 := HCELL.out (i := 2) rfl hv; have q3 := HCELL.out (i := 3) rfl hv; have q4 := HCELL.out (i := 4) rfl hv; have q5 := HCELL.out (i := 5) rfl hv; have q6 := HCELL.out (i := 6) rfl hv; go_simp; try rfl) ?_
  refine h_take 4 (.agg #[.int .i64 2, .string (tx t), .int .u64 u, .slice A n c, .int .u64 o, .int .u64 m, .string (tx g)]) rfl (by kernel_rfl) (by kernel_rfl) (by kernel_rfl) (fun _ _ _ h => h) (by kernel_rfl) hS (by intro v1 hv; have q0 := HCELL.out (i := 0) rfl hv; have q1 := HCELL.out (i := 1) rfl hv; have q2 := HCELL.out (i := 2) rfl hv; have q3 := HCELL.out (i := 3) rfl hv; have q4 := HCELL.out (i := 4) rfl hv; have q5 := HCELL.out (i := 5) rfl hv; have q6 := HCELL.out (i := 6) rfl hv; go_simp; try rfl) ?_
  refine h_one 1 rfl (by kernel_rfl) (by kernel_rfl) (fun K hK => ?_)
  go_simp
  refine (HM1.out _ (HB2.out.drew)).mono ?_
  rintro e w3 ⟨rfl, hb3⟩
  have HB3 := Lib.hid ((HB2.out.drew).trans (hb3.mono (HB2.out.drew).size))
  have hS3 : Below (w.heap.size + 1) W0 w3 := hS.trans (hb3.mono (by have h1 := hS.size; have h2 := HZ.out; omega))
  clear hb3
  refine hK _ _ hS3 ?_
  clear hK K
  refine h_one 3 rfl (by kernel_rfl) (by kernel_rfl) (fun K hK => ?_)
  go_simp
  refine (HM2.out _ (HB3.out)).mono ?_
  rintro e w4 ⟨rfl, hb4⟩
  have HB4 := Lib.hid ((HB3.out).trans (hb4.mono (HB3.out).size))
  have hS4 : Below (w.heap.size + 1) W0 w4 := hS3.trans (hb4.mono (by have h1 := hS3.size; have h2 := HZ.out; omega))
  clear hb4
  refine hK _ _ hS4 ?_
  clear hK K
  refine h_one 5 rfl (by kernel_rfl) (by kernel_rfl) (fun K hK => ?_)
  go_simp
  refine (HM3.out _ (HB4.out)).mono ?_
  rintro e w5 ⟨rfl, hb5⟩
  have HB5 := Lib.hid ((HB4.out).trans (hb5.mono (HB4.out).size))
  have hS5 : Below (w.heap.size + 1) W0 w5 := hS4.trans (hb5.mono (by have h1 := hS4.size; have h2 := HZ.out; omega))
  clear hb5
  refine hK _ _ hS5 ?_
  clear hK K
  refine h_take 6 (.bool true) rfl (by kernel_rfl) (by kernel_rfl) (by kernel_rfl) (fun _ _ _ h => h) (by kernel_rfl) hS5 (fun _ _ => by kernel_rfl) ?_
  refine h_take 7 (.bool true) rfl (by kernel_rfl) (by kernel_rfl) (by kernel_rfl) (fun _ _ _ h => h) (by kernel_rfl) hS5 (fun _ _ => by kernel_rfl) ?_
  refine h_take 8 (.bool true) rfl (by kernel_rfl) (by kernel_rfl) (by kernel_rfl) (fun _ _ _ h => h) (by kernel_rfl) hS5 (fun _ _ => by kernel_rfl) ?_
  refine wpAnyH_done (by kernel_rfl) ?_ _
  go_simp
  have HS5 := Lib.hid hS5
  clear hS hS3 hS4 hS5
  have r0 := HCELL.out (i := 0) rfl HS5.out
  have r1 := HCELL.out (i := 1) rfl HS5.out
  have r2 := HCELL.out (i := 2) rfl HS5.out
  have r3 := HCELL.out (i := 3) rfl HS5.out
  have r4 := HCELL.out (i := 4) rfl HS5.out
  have r5 := HCELL.out (i := 5) rfl HS5.out
  have r6 := HCELL.out (i := 6) rfl HS5.out
  have HB6 := Lib.hid (HB5.out.alloc HB5.out.size (.cells #[.int .i64 2, .string (tx t), .int .u64 u, .slice A n c, .int .u64 o, .int .u64 0, .string { data := #[] }] 25))
  have HS6 := Lib.hid (HS5.out.alloc (by have h1 := HS5.out.size; have h2 := HZ.out; omega) (.cells #[.int .i64 2, .string (tx t), .int .u64 u, .slice A n c, .int .u64 o, .int .u64 0, .string { data := #[] }] 25))
  have HX6 := Lib.hid (one_new w5 (.cells #[.int .i64 2, .string (tx t), .int .u64 u, .slice A n c, .int .u64 o, .int .u64 0, .string { data := #[] }] 25))
  have HX6Z : Hid (w5.heap.size < (w5.alloc (.cells #[.int .i64 2, .string (tx t), .int .u64 u, .slice A n c, .int .u64 o, .int .u64 0, .string { data := #[] }] 25)).heap.size) := by show _ < _; simp
  have HS6Z : Hid (w.heap.size + 1 ≤ (w5.alloc (.cells #[.int .i64 2, .string (tx t), .int .u64 u, .slice A n c, .int .u64 o, .int .u64 0, .string { data := #[] }] 25)).heap.size) := by have h1 := HS6.out.size; have h2 := HZ.out; show _ ≤ _; omega
  go_wp2_with (first
    | (go_at_call 8; have hk := HB9.out.size; refine (HM4.out _ HB9.out).mono ?_; rintro e w10 ⟨rfl, hb10⟩; have HB10 := Lib.hid (HB9.out.trans (hb10.mono HB9.out.size)); clear hb10)
    | (go_at_call 8; have hk := HB7.out.size; refine (HM0.out _ HB7.out).mono ?_; rintro e w9 ⟨rfl, hb9⟩; have HB9 := Lib.hid (HB7.out.trans (hb9.mono HB7.out.size)); have HS9 := Lib.hid (HS7.out.trans (hb9.mono HS7Z.out)); have n0 := HCELL.out (i := 0) rfl HS9.out; have n1 := HCELL.out (i := 1) rfl HS9.out; have n2 := HCELL.out (i := 2) rfl HS9.out; have n3 := HCELL.out (i := 3) rfl HS9.out; have n4 := HCELL.out (i := 4) rfl HS9.out; have n5 := HCELL.out (i := 5) rfl HS9.out; have n6 := HCELL.out (i := 6) rfl HS9.out; clear hb9)
    | (go_at_call 7; refine (HFX.out _).mono ?_; rintro e w7 ⟨rfl, hb7⟩; have HB7 := Lib.hid (HB6.out.trans (hb7.mono HB6.out.size)); have HS7 := Lib.hid (HS6.out.trans (hb7.mono HS6Z.out)); have HS7Z : Hid (w.heap.size + 1 ≤ w7.heap.size) := (Nat.le_trans HS6Z.out hb7.size); have s0 := HCELL.out (i := 0) rfl HS7.out; have s1 := HCELL.out (i := 1) rfl HS7.out; have s2 := HCELL.out (i := 2) rfl HS7.out; have s3 := HCELL.out (i := 3) rfl HS7.out; have s4 := HCELL.out (i := 4) rfl HS7.out; have s5 := HCELL.out (i := 5) rfl HS7.out; have s6 := HCELL.out (i := 6) rfl HS7.out; have x0 := (hb7.cell (p := ⟨w5.heap.size, 0, none⟩) HX6Z.out).trans (at_cell (i := 0) HX6.out rfl); have x1 := (hb7.cell (p := ⟨w5.heap.size, 1, none⟩) HX6Z.out).trans (at_cell (i := 1) HX6.out rfl); have x2 := (hb7.cell (p := ⟨w5.heap.size, 2, none⟩) HX6Z.out).trans (at_cell (i := 2) HX6.out rfl); have x3 := (hb7.cell (p := ⟨w5.heap.size, 3, none⟩) HX6Z.out).trans (at_cell (i := 3) HX6.out rfl); have x4 := (hb7.cell (p := ⟨w5.heap.size, 4, none⟩) HX6Z.out).trans (at_cell (i := 4) HX6.out rfl); have x5 := (hb7.cell (p := ⟨w5.heap.size, 5, none⟩) HX6Z.out).trans (at_cell (i := 5) HX6.out rfl); have x6 := (hb7.cell (p := ⟨w5.heap.size, 6, none⟩) HX6Z.out).trans (at_cell (i := 6) HX6.out rfl); clear hb7))
  go_ret
  exact ⟨rfl, HB10.out⟩

end Go.Proofs.Ytigkpcildopmfaa
