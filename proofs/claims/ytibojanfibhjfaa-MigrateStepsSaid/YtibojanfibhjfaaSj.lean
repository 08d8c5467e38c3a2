/- MigrateSteps' walk: the early ways out. -/
import Derived.Test.YtibojanfibhjfaaSi
namespace Go.Proofs.Ytibojanfibhjfaa
open Go.RowKit

set_option maxRecDepth 100000 in
set_option maxHeartbeats 4000000 in
theorem mst_ab (r1 : Rc) (A : Option Addr) (n1 c1 x y z : Nat) (a b c : Int) (hx : x < 256) (hy : y < 256) (hz : z < 256) (ha : a = 1 + ((x % 3 : Nat) : Int)) (hb : b = 1 + ((y % 3 : Nat) : Int)) (hc : c = 1 + ((z % 3 : Nat) : Int)) (hab : b < a) (w : World)
    (HFX : Hid (∀ W, Calls Try.prog 8 #[] W fun e w' => e = .returned (.bool true) ∧ Below W.heap.size W w'))
    (HG : Hid (∀ (W : World), Below w.heap.size w W → Calls Try.prog 7 #[.agg #[.int .i64 r1.kind, .string (tx r1.target), .int .u64 r1.rule, .slice A n1 c1, .int .u64 r1.out, .int .u64 r1.time, .string (tx r1.tag)]] W fun e w' => e = .returned (.bool false) ∧ Below W.heap.size W w')) :
    Calls Try.prog 5 #[.agg #[.int .i64 r1.kind, .string (tx r1.target), .int .u64 r1.rule, .slice A n1 c1, .int .u64 r1.out, .int .u64 r1.time, .string (tx r1.tag)], .agg #[.int .u8 (x : Int), .int .u8 (y : Int), .int .u8 (z : Int)]] w fun e w' => e = .returned (.bool true) ∧ Below w.heap.size w w' := by
  have h00 := two_new w (.cells #[.int .i64 r1.kind, .string (tx r1.target), .int .u64 r1.rule, .slice A n1 c1, .int .u64 r1.out, .int .u64 r1.time, .string (tx r1.tag)] 25) (.cells #[.int .u8 (x : Int), .int .u8 (y : Int), .int .u8 (z : Int)] 47)
  have HA0 := Lib.hid h00.1
  have HA1 := Lib.hid h00.2.1
  have HSZ := Lib.hid h00.2.2
  have HB0 := Lib.hid (((Below.refl w.heap.size w).alloc (Nat.le_refl _) (.cells #[.int .i64 r1.kind, .string (tx r1.target), .int .u64 r1.rule, .slice A n1 c1, .int .u64 r1.out, .int .u64 r1.time, .string (tx r1.tag)] 25)).alloc (by simp) (.cells #[.int .u8 (x : Int), .int .u8 (y : Int), .int .u8 (z : Int)] 47))
  have HCA : Hid (∀ {i : Nat} {vv : Value}, (#[.int .i64 r1.kind, .string (tx r1.target), .int .u64 r1.rule, .slice A n1 c1, .int .u64 r1.out, .int .u64 r1.time, .string (tx r1.tag)] : Array Value)[i]? = some vv → ∀ {W : World}, Below (w.heap.size + 2) ((w.alloc (.cells #[.int .i64 r1.kind, .string (tx r1.target), .int .u64 r1.rule, .slice A n1 c1, .int .u64 r1.out, .int .u64 r1.time, .string (tx r1.tag)] 25)).alloc (.cells #[.int .u8 (x : Int), .int .u8 (y : Int), .int .u8 (z : Int)] 47)) W → W.cell? ⟨w.heap.size, i, none⟩ = some vv) := fun hi W hb => (hb.cell (p := ⟨w.heap.size, _, none⟩) (show w.heap.size < w.heap.size + 2 by omega)).trans (at_cell HA0.out hi)
  have HCP : Hid (∀ {i : Nat} {vv : Value}, (#[.int .u8 (x : Int), .int .u8 (y : Int), .int .u8 (z : Int)] : Array Value)[i]? = some vv → ∀ {W : World}, Below (w.heap.size + 2) ((w.alloc (.cells #[.int .i64 r1.kind, .string (tx r1.target), .int .u64 r1.rule, .slice A n1 c1, .int .u64 r1.out, .int .u64 r1.time, .string (tx r1.tag)] 25)).alloc (.cells #[.int .u8 (x : Int), .int .u8 (y : Int), .int .u8 (z : Int)] 47)) W → W.cell? ⟨w.heap.size + 1, i, none⟩ = some vv) := fun hi W hb => (hb.cell (p := ⟨w.heap.size + 1, _, none⟩) (show w.heap.size + 1 < w.heap.size + 2 by omega)).trans (at_cell HA1.out hi)
  have q0 := at_cell (i := 0) h00.1 rfl
  have q1 := at_cell (i := 1) h00.1 rfl
  have q2 := at_cell (i := 2) h00.1 rfl
  have q3 := at_cell (i := 3) h00.1 rfl
  have q4 := at_cell (i := 4) h00.1 rfl
  have q5 := at_cell (i := 5) h00.1 rfl
  have q6 := at_cell (i := 6) h00.1 rfl
  clear h00
  have e3x : (x : Int).tmod 3 = ((x % 3 : Nat) : Int) := by rw [Int.tmod_eq_emod_of_nonneg (by omega)]; simp
  have e3y : (y : Int).tmod 3 = ((y % 3 : Nat) : Int) := by rw [Int.tmod_eq_emod_of_nonneg (by omega)]; simp
  have e3z : (z : Int).tmod 3 = ((z % 3 : Nat) : Int) := by rw [Int.tmod_eq_emod_of_nonneg (by omega)]; simp
  obtain ⟨xr, hxr⟩ : ∃ xr, xr = x % 3 := ⟨_, rfl⟩
  obtain ⟨yr, hyr⟩ : ∃ yr, yr = y % 3 := ⟨_, rfl⟩
  obtain ⟨zr, hzr⟩ : ∃ zr, zr = z % 3 := ⟨_, rfl⟩
  have lx : xr < 3 := by omega
  have ly : yr < 3 := by omega
  have lz : zr < 3 := by omega
  rw [← hxr] at e3x ha
  rw [← hyr] at e3y hb
  rw [← hzr] at e3z hc
  have HAE := Lib.hid ha
  have HBE := Lib.hid hb
  have HCE := Lib.hid hc
  clear hxr hyr hzr ha hb hc
  have d1 : decide (a > b) = true := decide_eq_true hab
  go_enter Try.func5, Try.ntmps5
  go_wp2_with (go_at_call 7; refine (HG.out _ HB0.out).mono ?_; rintro e w2 ⟨rfl, hb2⟩; have HB2 := Lib.hid (HB0.out.trans (hb2.mono HB0.out.size)); have HS2 := Lib.hid (hb2.mono (Nat.le_of_eq HSZ.out.symm)); have HS2Z : Hid (w.heap.size + 2 ≤ w2.heap.size) := (by have h1 := hb2.size; rw [HSZ.out] at h1; exact h1); have f20 := HCA.out (i := 0) rfl HS2.out; have f21 := HCA.out (i := 1) rfl HS2.out; have f22 := HCA.out (i := 2) rfl HS2.out; have f23 := HCA.out (i := 3) rfl HS2.out; have f24 := HCA.out (i := 4) rfl HS2.out; have f25 := HCA.out (i := 5) rfl HS2.out; have f26 := HCA.out (i := 6) rfl HS2.out; clear hb2)
  refine wp_region_held (S := fun v1 => Below (w.heap.size + 2) ((w.alloc (.cells #[.int .i64 r1.kind, .string (tx r1.target), .int .u64 r1.rule, .slice A n1 c1, .int .u64 r1.out, .int .u64 r1.time, .string (tx r1.tag)] 25)).alloc (.cells #[.int .u8 (x : Int), .int .u8 (y : Int), .int .u8 (z : Int)] 47)) v1) (by kernel_rfl) ?_
  have hS : Below (w.heap.size + 2) ((w.alloc (.cells #[.int .i64 r1.kind, .string (tx r1.target), .int .u64 r1.rule, .slice A n1 c1, .int .u64 r1.out, .int .u64 r1.time, .string (tx r1.tag)] 25)).alloc (.cells #[.int .u8 (x : Int), .int .u8 (y : Int), .int .u8 (z : Int)] 47)) w2.drew := HS2.out.drew
  refine h_take 0 (.pointer (some ⟨w.heap.size + 1, 0, none⟩)) rfl (by kernel_rfl) (by kernel_rfl) (by kernel_rfl) (fun _ _ _ h => h) (by kernel_rfl) hS (by intro v1 hv; go_simp) ?_
  refine h_take 1 (.int .u8 (x : Int)) rfl (by kernel_rfl) (by kernel_rfl) (by kernel_rfl) (fun _ _ _ h => h) (by kernel_rfl) hS (by intro v1 hv; have q := HCP.out (i := 0) rfl hv; go_simp; try rfl) ?_
  refine h_take 2 (.int .u8 (xr : Int)) rfl (by kernel_rfl) (by kernel_rfl) (by kernel_rfl) (fun _ _ _ h => h) (by kernel_rfl) hS (by intro v1 hv; go_simp) ?_
  refine h_take 3 (.int .i64 (xr : Int)) rfl (by kernel_rfl) (by kernel_rfl) (by kernel_rfl) (fun _ _ _ h => h) (by kernel_rfl) hS (by intro v1 hv; go_simp <;> exact wrap_small (by omega) (by omega)) ?_
  refine h_take 4 (.int .i64 a) rfl (by kernel_rfl) (by kernel_rfl) (by kernel_rfl) (fun _ _ _ h => h) (by kernel_rfl) hS (by intro v1 hv; have e := HAE.out; go_simp <;> (rw [wrap_small (by omega) (by omega)]; try omega)) ?_
  refine h_take 5 (.pointer (some ⟨w.heap.size + 1, 1, none⟩)) rfl (by kernel_rfl) (by kernel_rfl) (by kernel_rfl) (fun _ _ _ h => h) (by kernel_rfl) hS (by intro v1 hv; go_simp) ?_
  refine h_take 6 (.int .u8 (y : Int)) rfl (by kernel_rfl) (by kernel_rfl) (by kernel_rfl) (fun _ _ _ h => h) (by kernel_rfl) hS (by intro v1 hv; have q := HCP.out (i := 1) rfl hv; go_simp; try rfl) ?_
  refine h_take 7 (.int .u8 (yr : Int)) rfl (by kernel_rfl) (by kernel_rfl) (by kernel_rfl) (fun _ _ _ h => h) (by kernel_rfl) hS (by intro v1 hv; go_simp) ?_
  refine h_take 8 (.int .i64 (yr : Int)) rfl (by kernel_rfl) (by kernel_rfl) (by kernel_rfl) (fun _ _ _ h => h) (by kernel_rfl) hS (by intro v1 hv; go_simp <;> exact wrap_small (by omega) (by omega)) ?_
  refine h_take 9 (.int .i64 b) rfl (by kernel_rfl) (by kernel_rfl) (by kernel_rfl) (fun _ _ _ h => h) (by kernel_rfl) hS (by intro v1 hv; have e := HBE.out; go_simp <;> (rw [wrap_small (by omega) (by omega)]; try omega)) ?_
  refine h_take 10 (.pointer (some ⟨w.heap.size + 1, 2, none⟩)) rfl (by kernel_rfl) (by kernel_rfl) (by kernel_rfl) (fun _ _ _ h => h) (by kernel_rfl) hS (by intro v1 hv; go_simp) ?_
  refine h_take 11 (.int .u8 (z : Int)) rfl (by kernel_rfl) (by kernel_rfl) (by kernel_rfl) (fun _ _ _ h => h) (by kernel_rfl) hS (by intro v1 hv; have q := HCP.out (i := 2) rfl hv; go_simp; try rfl) ?_
  refine h_take 12 (.int .u8 (zr : Int)) rfl (by kernel_rfl) (by kernel_rfl) (by kernel_rfl) (fun _ _ _ h => h) (by kernel_rfl) hS (by intro v1 hv; go_simp) ?_
  refine h_take 13 (.int .i64 (zr : Int)) rfl (by kernel_rfl) (by kernel_rfl) (by kernel_rfl) (fun _ _ _ h => h) (by kernel_rfl) hS (by intro v1 hv; go_simp <;> exact wrap_small (by omega) (by omega)) ?_
  refine h_take 14 (.int .i64 c) rfl (by kernel_rfl) (by kernel_rfl) (by kernel_rfl) (fun _ _ _ h => h) (by kernel_rfl) hS (by intro v1 hv; have e := HCE.out; go_simp <;> (rw [wrap_small (by omega) (by omega)]; try omega)) ?_
  refine h_take 15 (.int .i64 a) rfl (by kernel_rfl) (by kernel_rfl) (by kernel_rfl) (fun _ _ _ h => h) (by kernel_rfl) hS (fun _ _ => by kernel_rfl) ?_
  refine h_take 16 (.int .i64 b) rfl (by kernel_rfl) (by kernel_rfl) (by kernel_rfl) (fun _ _ _ h => h) (by kernel_rfl) hS (fun _ _ => by kernel_rfl) ?_
  refine h_take 17 (.int .i64 c) rfl (by kernel_rfl) (by kernel_rfl) (by kernel_rfl) (fun _ _ _ h => h) (by kernel_rfl) hS (fun _ _ => by kernel_rfl) ?_
  refine wpAnyH_done (by kernel_rfl) ?_ _
  go_simp
  go_wp2_with (go_at_call 8; refine (HFX.out _).mono ?_; rintro e w9 ⟨rfl, hb9⟩; have HB9 := Lib.hid (HB2.out.drew.trans (hb9.mono (HB2.out.drew).size)); clear hb9)
  go_ret
  exact ⟨rfl, HB9.out⟩

set_option maxRecDepth 100000 in
set_option maxHeartbeats 4000000 in
theorem mst_bc (r1 : Rc) (A : Option Addr) (n1 c1 x y z : Nat) (a b c : Int) (hx : x < 256) (hy : y < 256) (hz : z < 256) (ha : a = 1 + ((x % 3 : Nat) : Int)) (hb : b = 1 + ((y % 3 : Nat) : Int)) (hc : c = 1 + ((z % 3 : Nat) : Int)) (hab : a ≤ b) (hbc : c < b) (w : World)
    (HFX : Hid (∀ W, Calls Try.prog 8 #[] W fun e w' => e = .returned (.bool true) ∧ Below W.heap.size W w'))
    (HG : Hid (∀ (W : World), Below w.heap.size w W → Calls Try.prog 7 #[.agg #[.int .i64 r1.kind, .string (tx r1.target), .int .u64 r1.rule, .slice A n1 c1, .int .u64 r1.out, .int .u64 r1.time, .string (tx r1.tag)]] W fun e w' => e = .returned (.bool false) ∧ Below W.heap.size W w')) :
    Calls Try.prog 5 #[.agg #[.int .i64 r1.kind, .string (tx r1.target), .int .u64 r1.rule, .slice A n1 c1, .int .u64 r1.out, .int .u64 r1.time, .string (tx r1.tag)], .agg #[.int .u8 (x : Int), .int .u8 (y : Int), .int .u8 (z : Int)]] w fun e w' => e = .returned (.bool true) ∧ Below w.heap.size w w' := by
  have h00 := two_new w (.cells #[.int .i64 r1.kind, .string (tx r1.target), .int .u64 r1.rule, .slice A n1 c1, .int .u64 r1.out, .int .u64 r1.time, .string (tx r1.tag)] 25) (.cells #[.int .u8 (x : Int), .int .u8 (y : Int), .int .u8 (z : Int)] 47)
  have HA0 := Lib.hid h00.1
  have HA1 := Lib.hid h00.2.1
  have HSZ := Lib.hid h00.2.2
  have HB0 := Lib.hid (((Below.refl w.heap.size w).alloc (Nat.le_refl _) (.cells #[.int .i64 r1.kind, .string (tx r1.target), .int .u64 r1.rule, .slice A n1 c1, .int .u64 r1.out, .int .u64 r1.time, .string (tx r1.tag)] 25)).alloc (by simp) (.cells #[.int .u8 (x : Int), .int .u8 (y : Int), .int .u8 (z : Int)] 47))
  have HCA : Hid (∀ {i : Nat} {vv : Value}, (#[.int .i64 r1.kind, .string (tx r1.target), .int .u64 r1.rule, .slice A n1 c1, .int .u64 r1.out, .int .u64 r1.time, .string (tx r1.tag)] : Array Value)[i]? = some vv → ∀ {W : World}, Below (w.heap.size + 2) ((w.alloc (.cells #[.int .i64 r1.kind, .string (tx r1.target), .int .u64 r1.rule, .slice A n1 c1, .int .u64 r1.out, .int .u64 r1.time, .string (tx r1.tag)] 25)).alloc (.cells #[.int .u8 (x : Int), .int .u8 (y : Int), .int .u8 (z : Int)] 47)) W → W.cell? ⟨w.heap.size, i, none⟩ = some vv) := fun hi W hb => (hb.cell (p := ⟨w.heap.size, _, none⟩) (show w.heap.size < w.heap.size + 2 by omega)).trans (at_cell HA0.out hi)
  have HCP : Hid (∀ {i : Nat} {vv : Value}, (#[.int .u8 (x : Int), .int .u8 (y : Int), .int .u8 (z : Int)] : Array Value)[i]? = some vv → ∀ {W : World}, Below (w.heap.size + 2) ((w.alloc (.cells #[.int .i64 r1.kind, .string (tx r1.target), .int .u64 r1.rule, .slice A n1 c1, .int .u64 r1.out, .int .u64 r1.time, .string (tx r1.tag)] 25)).alloc (.cells #[.int .u8 (x : Int), .int .u8 (y : Int), .int .u8 (z : Int)] 47)) W → W.cell? ⟨w.heap.size + 1, i, none⟩ = some vv) := fun hi W hb => (hb.cell (p := ⟨w.heap.size + 1, _, none⟩) (show w.heap.size + 1 < w.heap.size + 2 by omega)).trans (at_cell HA1.out hi)
  have q0 := at_cell (i := 0) h00.1 rfl
  have q1 := at_cell (i := 1) h00.1 rfl
  have q2 := at_cell (i := 2) h00.1 rfl
  have q3 := at_cell (i := 3) h00.1 rfl
  have q4 := at_cell (i := 4) h00.1 rfl
  have q5 := at_cell (i := 5) h00.1 rfl
  have q6 := at_cell (i := 6) h00.1 rfl
  clear h00
  have e3x : (x : Int).tmod 3 = ((x % 3 : Nat) : Int) := by rw [Int.tmod_eq_emod_of_nonneg (by omega)]; simp
  have e3y : (y : Int).tmod 3 = ((y % 3 : Nat) : Int) := by rw [Int.tmod_eq_emod_of_nonneg (by omega)]; simp
  have e3z : (z : Int).tmod 3 = ((z % 3 : Nat) : Int) := by rw [Int.tmod_eq_emod_of_nonneg (by omega)]; simp
  obtain ⟨xr, hxr⟩ : ∃ xr, xr = x % 3 := ⟨_, rfl⟩
  obtain ⟨yr, hyr⟩ : ∃ yr, yr = y % 3 := ⟨_, rfl⟩
  obtain ⟨zr, hzr⟩ : ∃ zr, zr = z % 3 := ⟨_, rfl⟩
  have lx : xr < 3 := by omega
  have ly : yr < 3 := by omega
  have lz : zr < 3 := by omega
  rw [← hxr] at e3x ha
  rw [← hyr] at e3y hb
  rw [← hzr] at e3z hc
  have HAE := Lib.hid ha
  have HBE := Lib.hid hb
  have HCE := Lib.hid hc
  clear hxr hyr hzr ha hb hc
  have d1 : decide (a > b) = false := decide_eq_false (by omega)
  have d2 : decide (b > c) = true := decide_eq_true hbc
  go_enter Try.func5, Try.ntmps5
  go_wp2_with (go_at_call 7; refine (HG.out _ HB0.out).mono ?_; rintro e w2 ⟨rfl, hb2⟩; have HB2 := Lib.hid (HB0.out.trans (hb2.mono HB0.out.size)); have HS2 := Lib.hid (hb2.mono (Nat.le_of_eq HSZ.out.symm)); have HS2Z : Hid (w.heap.size + 2 ≤ w2.heap.size) := (by have h1 := hb2.size; rw [HSZ.out] at h1; exact h1); have f20 := HCA.out (i := 0) rfl HS2.out; have f21 := HCA.out (i := 1) rfl HS2.out; have f22 := HCA.out (i := 2) rfl HS2.out; have f23 := HCA.out (i := 3) rfl HS2.out; have f24 := HCA.out (i := 4) rfl HS2.out; have f25 := HCA.out (i := 5) rfl HS2.out; have f26 := HCA.out (i := 6) rfl HS2.out; clear hb2)
  refine wp_region_held (S := fun v1 => Below (w.heap.size + 2) ((w.alloc (.cells #[.int .i64 r1.kind, .string (tx r1.target), .int .u64 r1.rule, .slice A n1 c1, .int .u64 r1.out, .int .u64 r1.time, .string (tx r1.tag)] 25)).alloc (.cells #[.int .u8 (x : Int), .int .u8 (y : Int), .int .u8 (z : Int)] 47)) v1) (by kernel_rfl) ?_
  have hS : Below (w.heap.size + 2) ((w.alloc (.cells #[.int .i64 r1.kind, .string (tx r1.target), .int .u64 r1.rule, .slice A n1 c1, .int .u64 r1.out, .int .u64 r1.time, .string (tx r1.tag)] 25)).alloc (.cells #[.int .u8 (x : Int), .int .u8 (y : Int), .int .u8 (z : Int)] 47)) w2.drew := HS2.out.drew
  refine h_take 0 (.pointer (some ⟨w.heap.size + 1, 0, none⟩)) rfl (by kernel_rfl) (by kernel_rfl) (by kernel_rfl) (fun _ _ _ h => h) (by kernel_rfl) hS (by intro v1 hv; go_simp) ?_
  refine h_take 1 (.int .u8 (x : Int)) rfl (by kernel_rfl) (by kernel_rfl) (by kernel_rfl) (fun _ _ _ h => h) (by kernel_rfl) hS (by intro v1 hv; have q := HCP.out (i := 0) rfl hv; go_simp; try rfl) ?_
  refine h_take 2 (.int .u8 (xr : Int)) rfl (by kernel_rfl) (by kernel_rfl) (by kernel_rfl) (fun _ _ _ h => h) (by kernel_rfl) hS (by intro v1 hv; go_simp) ?_
  refine h_take 3 (.int .i64 (xr : Int)) rfl (by kernel_rfl) (by kernel_rfl) (by kernel_rfl) (fun _ _ _ h => h) (by kernel_rfl) hS (by intro v1 hv; go_simp <;> exact wrap_small (by omega) (by omega)) ?_
  refine h_take 4 (.int .i64 a) rfl (by kernel_rfl) (by kernel_rfl) (by kernel_rfl) (fun _ _ _ h => h) (by kernel_rfl) hS (by intro v1 hv; have e := HAE.out; go_simp <;> (rw [wrap_small (by omega) (by omega)]; try omega)) ?_
  refine h_take 5 (.pointer (some ⟨w.heap.size + 1, 1, none⟩)) rfl (by kernel_rfl) (by kernel_rfl) (by kernel_rfl) (fun _ _ _ h => h) (by kernel_rfl) hS (by intro v1 hv; go_simp) ?_
  refine h_take 6 (.int .u8 (y : Int)) rfl (by kernel_rfl) (by kernel_rfl) (by kernel_rfl) (fun _ _ _ h => h) (by kernel_rfl) hS (by intro v1 hv; have q := HCP.out (i := 1) rfl hv; go_simp; try rfl) ?_
  refine h_take 7 (.int .u8 (yr : Int)) rfl (by kernel_rfl) (by kernel_rfl) (by kernel_rfl) (fun _ _ _ h => h) (by kernel_rfl) hS (by intro v1 hv; go_simp) ?_
  refine h_take 8 (.int .i64 (yr : Int)) rfl (by kernel_rfl) (by kernel_rfl) (by kernel_rfl) (fun _ _ _ h => h) (by kernel_rfl) hS (by intro v1 hv; go_simp <;> exact wrap_small (by omega) (by omega)) ?_
  refine h_take 9 (.int .i64 b) rfl (by kernel_rfl) (by kernel_rfl) (by kernel_rfl) (fun _ _ _ h => h) (by kernel_rfl) hS (by intro v1 hv; have e := HBE.out; go_simp <;> (rw [wrap_small (by omega) (by omega)]; try omega)) ?_
  refine h_take 10 (.pointer (some ⟨w.heap.size + 1, 2, none⟩)) rfl (by kernel_rfl) (by kernel_rfl) (by kernel_rfl) (fun _ _ _ h => h) (by kernel_rfl) hS (by intro v1 hv; go_simp) ?_
  refine h_take 11 (.int .u8 (z : Int)) rfl (by kernel_rfl) (by kernel_rfl) (by kernel_rfl) (fun _ _ _ h => h) (by kernel_rfl) hS (by intro v1 hv; have q := HCP.out (i := 2) rfl hv; go_simp; try rfl) ?_
  refine h_take 12 (.int .u8 (zr : Int)) rfl (by kernel_rfl) (by kernel_rfl) (by kernel_rfl) (fun _ _ _ h => h) (by kernel_rfl) hS (by intro v1 hv; go_simp) ?_
  refine h_take 13 (.int .i64 (zr : Int)) rfl (by kernel_rfl) (by kernel_rfl) (by kernel_rfl) (fun _ _ _ h => h) (by kernel_rfl) hS (by intro v1 hv; go_simp <;> exact wrap_small (by omega) (by omega)) ?_
  refine h_take 14 (.int .i64 c) rfl (by kernel_rfl) (by kernel_rfl) (by kernel_rfl) (fun _ _ _ h => h) (by kernel_rfl) hS (by intro v1 hv; have e := HCE.out; go_simp <;> (rw [wrap_small (by omega) (by omega)]; try omega)) ?_
  refine h_take 15 (.int .i64 a) rfl (by kernel_rfl) (by kernel_rfl) (by kernel_rfl) (fun _ _ _ h => h) (by kernel_rfl) hS (fun _ _ => by kernel_rfl) ?_
  refine h_take 16 (.int .i64 b) rfl (by kernel_rfl) (by kernel_rfl) (by kernel_rfl) (fun _ _ _ h => h) (by kernel_rfl) hS (fun _ _ => by kernel_rfl) ?_
  refine h_take 17 (.int .i64 c) rfl (by kernel_rfl) (by kernel_rfl) (by kernel_rfl) (fun _ _ _ h => h) (by kernel_rfl) hS (fun _ _ => by kernel_rfl) ?_
  refine wpAnyH_done (by kernel_rfl) ?_ _
  go_simp
  go_wp2_with (go_at_call 8; refine (HFX.out _).mono ?_; rintro e w9 ⟨rfl, hb9⟩; have HB9 := Lib.hid (HB2.out.drew.trans (hb9.mono (HB2.out.drew).size)); clear hb9)
  go_ret
  exact ⟨rfl, HB9.out⟩

set_option maxRecDepth 100000 in
set_option maxHeartbeats 4000000 in
theorem mst_may (r1 : Rc) (A : Option Addr) (n1 c1 x y z : Nat) (a b c : Int) (hx : x < 256) (hy : y < 256) (hz : z < 256) (ha : a = 1 + ((x % 3 : Nat) : Int)) (hb : b = 1 + ((y % 3 : Nat) : Int)) (hc : c = 1 + ((z % 3 : Nat) : Int)) (hab : a ≤ b) (hbc : b ≤ c) (w : World)
    (HFX : Hid (∀ W, Calls Try.prog 8 #[] W fun e w' => e = .returned (.bool true) ∧ Below W.heap.size W w'))
    (HG : Hid (∀ (W : World), Below w.heap.size w W → Calls Try.prog 7 #[.agg #[.int .i64 r1.kind, .string (tx r1.target), .int .u64 r1.rule, .slice A n1 c1, .int .u64 r1.out, .int .u64 r1.time, .string (tx r1.tag)]] W fun e w' => e = .returned (.bool false) ∧ Below W.heap.size W w'))
    (HM : Hid (∀ (W : World), Below w.heap.size w W → Calls Try.prog 18 #[.int .i64 a, .agg #[.int .i64 r1.kind, .string (tx r1.target), .int .u64 r1.rule, .slice A n1 c1, .int .u64 r1.out, .int .u64 r1.time, .string (tx r1.tag)]] W fun e w' => e = .returned (.bool false) ∧ Below W.heap.size W w')) :
    Calls Try.prog 5 #[.agg #[.int .i64 r1.kind, .string (tx r1.target), .int .u64 r1.rule, .slice A n1 c1, .int .u64 r1.out, .int .u64 r1.time, .string (tx r1.tag)], .agg #[.int .u8 (x : Int), .int .u8 (y : Int), .int .u8 (z : Int)]] w fun e w' => e = .returned (.bool true) ∧ Below w.heap.size w w' := by
  have h00 := two_new w (.cells #[.int .i64 r1.kind, .string (tx r1.target), .int .u64 r1.rule, .slice A n1 c1, .int .u64 r1.out, .int .u64 r1.time, .string (tx r1.tag)] 25) (.cells #[.int .u8 (x : Int), .int .u8 (y : Int), .int .u8 (z : Int)] 47)
  have HA0 := Lib.hid h00.1
  have HA1 := Lib.hid h00.2.1
  have HSZ := Lib.hid h00.2.2
  have HB0 := Lib.hid (((Below.refl w.heap.size w).alloc (Nat.le_refl _) (.cells #[.int .i64 r1.kind, .string (tx r1.target), .int .u64 r1.rule, .slice A n1 c1, .int .u64 r1.out, .int .u64 r1.time, .string (tx r1.tag)] 25)).alloc (by simp) (.cells #[.int .u8 (x : Int), .int .u8 (y : Int), .int .u8 (z : Int)] 47))
  have HCA : Hid (∀ {i : Nat} {vv : Value}, (#[.int .i64 r1.kind, .string (tx r1.target), .int .u64 r1.rule, .slice A n1 c1, .int .u64 r1.out, .int .u64 r1.time, .string (tx r1.tag)] : Array Value)[i]? = some vv → ∀ {W : World}, Below (w.heap.size + 2) ((w.alloc (.cells #[.int .i64 r1.kind, .string (tx r1.target), .int .u64 r1.rule, .slice A n1 c1, .int .u64 r1.out, .int .u64 r1.time, .string (tx r1.tag)] 25)).alloc (.cells #[.int .u8 (x : Int), .int .u8 (y : Int), .int .u8 (z : Int)] 47)) W → W.cell? ⟨w.heap.size, i, none⟩ = some vv) := fun hi W hb => (hb.cell (p := ⟨w.heap.size, _, none⟩) (show w.heap.size < w.heap.size + 2 by omega)).trans (at_cell HA0.out hi)
  have HCP : Hid (∀ {i : Nat} {vv : Value}, (#[.int .u8 (x : Int), .int .u8 (y : Int), .int .u8 (z : Int)] : Array Value)[i]? = some vv → ∀ {W : World}, Below (w.heap.size + 2) ((w.alloc (.cells #[.int .i64 r1.kind, .string (tx r1.target), .int .u64 r1.rule, .slice A n1 c1, .int .u64 r1.out, .int .u64 r1.time, .string (tx r1.tag)] 25)).alloc (.cells #[.int .u8 (x : Int), .int .u8 (y : Int), .int .u8 (z : Int)] 47)) W → W.cell? ⟨w.heap.size + 1, i, none⟩ = some vv) := fun hi W hb => (hb.cell (p := ⟨w.heap.size + 1, _, none⟩) (show w.heap.size + 1 < w.heap.size + 2 by omega)).trans (at_cell HA1.out hi)
  have q0 := at_cell (i := 0) h00.1 rfl
  have q1 := at_cell (i := 1) h00.1 rfl
  have q2 := at_cell (i := 2) h00.1 rfl
  have q3 := at_cell (i := 3) h00.1 rfl
  have q4 := at_cell (i := 4) h00.1 rfl
  have q5 := at_cell (i := 5) h00.1 rfl
  have q6 := at_cell (i := 6) h00.1 rfl
  clear h00
  have e3x : (x : Int).tmod 3 = ((x % 3 : Nat) : Int) := by rw [Int.tmod_eq_emod_of_nonneg (by omega)]; simp
  have e3y : (y : Int).tmod 3 = ((y % 3 : Nat) : Int) := by rw [Int.tmod_eq_emod_of_nonneg (by omega)]; simp
  have e3z : (z : Int).tmod 3 = ((z % 3 : Nat) : Int) := by rw [Int.tmod_eq_emod_of_nonneg (by omega)]; simp
  obtain ⟨xr, hxr⟩ : ∃ xr, xr = x % 3 := ⟨_, rfl⟩
  obtain ⟨yr, hyr⟩ : ∃ yr, yr = y % 3 := ⟨_, rfl⟩
  obtain ⟨zr, hzr⟩ : ∃ zr, zr = z % 3 := ⟨_, rfl⟩
  have lx : xr < 3 := by omega
  have ly : yr < 3 := by omega
  have lz : zr < 3 := by omega
  rw [← hxr] at e3x ha
  rw [← hyr] at e3y hb
  rw [← hzr] at e3z hc
  have HAE := Lib.hid ha
  have HBE := Lib.hid hb
  have HCE := Lib.hid hc
  clear hxr hyr hzr ha hb hc
  have d1 : decide (a > b) = false := decide_eq_false (by omega)
  have d2 : decide (b > c) = false := decide_eq_false (by omega)
  go_enter Try.func5, Try.ntmps5
  go_wp2_with (go_at_call 7; refine (HG.out _ HB0.out).mono ?_; rintro e w2 ⟨rfl, hb2⟩; have HB2 := Lib.hid (HB0.out.trans (hb2.mono HB0.out.size)); have HS2 := Lib.hid (hb2.mono (Nat.le_of_eq HSZ.out.symm)); have HS2Z : Hid (w.heap.size + 2 ≤ w2.heap.size) := (by have h1 := hb2.size; rw [HSZ.out] at h1; exact h1); have f20 := HCA.out (i := 0) rfl HS2.out; have f21 := HCA.out (i := 1) rfl HS2.out; have f22 := HCA.out (i := 2) rfl HS2.out; have f23 := HCA.out (i := 3) rfl HS2.out; have f24 := HCA.out (i := 4) rfl HS2.out; have f25 := HCA.out (i := 5) rfl HS2.out; have f26 := HCA.out (i := 6) rfl HS2.out; clear hb2)
  refine wp_region_held (S := fun v1 => Below (w.heap.size + 2) ((w.alloc (.cells #[.int .i64 r1.kind, .string (tx r1.target), .int .u64 r1.rule, .slice A n1 c1, .int .u64 r1.out, .int .u64 r1.time, .string (tx r1.tag)] 25)).alloc (.cells #[.int .u8 (x : Int), .int .u8 (y : Int), .int .u8 (z : Int)] 47)) v1) (by kernel_rfl) ?_
  have hS : Below (w.heap.size + 2) ((w.alloc (.cells #[.int .i64 r1.kind, .string (tx r1.target), .int .u64 r1.rule, .slice A n1 c1, .int .u64 r1.out, .int .u64 r1.time, .string (tx r1.tag)] 25)).alloc (.cells #[.int .u8 (x : Int), .int .u8 (y : Int), .int .u8 (z : Int)] 47)) w2.drew := HS2.out.drew
  refine h_take 0 (.pointer (some ⟨w.heap.size + 1, 0, none⟩)) rfl (by kernel_rfl) (by kernel_rfl) (by kernel_rfl) (fun _ _ _ h => h) (by kernel_rfl) hS (by intro v1 hv; go_simp) ?_
  refine h_take 1 (.int .u8 (x : Int)) rfl (by kernel_rfl) (by kernel_rfl) (by kernel_rfl) (fun _ _ _ h => h) (by kernel_rfl) hS (by intro v1 hv; have q := HCP.out (i := 0) rfl hv; go_simp; try rfl) ?_
  refine h_take 2 (.int .u8 (xr : Int)) rfl (by kernel_rfl) (by kernel_rfl) (by kernel_rfl) (fun _ _ _ h => h) (by kernel_rfl) hS (by intro v1 hv; go_simp) ?_
  refine h_take 3 (.int .i64 (xr : Int)) rfl (by kernel_rfl) (by kernel_rfl) (by kernel_rfl) (fun _ _ _ h => h) (by kernel_rfl) hS (by intro v1 hv; go_simp <;> exact wrap_small (by omega) (by omega)) ?_
  refine h_take 4 (.int .i64 a) rfl (by kernel_rfl) (by kernel_rfl) (by kernel_rfl) (fun _ _ _ h => h) (by kernel_rfl) hS (by intro v1 hv; have e := HAE.out; go_simp <;> (rw [wrap_small (by omega) (by omega)]; try omega)) ?_
  refine h_take 5 (.pointer (some ⟨w.heap.size + 1, 1, none⟩)) rfl (by kernel_rfl) (by kernel_rfl) (by kernel_rfl) (fun _ _ _ h => h) (by kernel_rfl) hS (by intro v1 hv; go_simp) ?_
  refine h_take 6 (.int .u8 (y : Int)) rfl (by kernel_rfl) (by kernel_rfl) (by kernel_rfl) (fun _ _ _ h => h) (by kernel_rfl) hS (by intro v1 hv; have q := HCP.out (i := 1) rfl hv; go_simp; try rfl) ?_
  refine h_take 7 (.int .u8 (yr : Int)) rfl (by kernel_rfl) (by kernel_rfl) (by kernel_rfl) (fun _ _ _ h => h) (by kernel_rfl) hS (by intro v1 hv; go_simp) ?_
  refine h_take 8 (.int .i64 (yr : Int)) rfl (by kernel_rfl) (by kernel_rfl) (by kernel_rfl) (fun _ _ _ h => h) (by kernel_rfl) hS (by intro v1 hv; go_simp <;> exact wrap_small (by omega) (by omega)) ?_
  refine h_take 9 (.int .i64 b) rfl (by kernel_rfl) (by kernel_rfl) (by kernel_rfl) (fun _ _ _ h => h) (by kernel_rfl) hS (by intro v1 hv; have e := HBE.out; go_simp <;> (rw [wrap_small (by omega) (by omega)]; try omega)) ?_
  refine h_take 10 (.pointer (some ⟨w.heap.size + 1, 2, none⟩)) rfl (by kernel_rfl) (by kernel_rfl) (by kernel_rfl) (fun _ _ _ h => h) (by kernel_rfl) hS (by intro v1 hv; go_simp) ?_
  refine h_take 11 (.int .u8 (z : Int)) rfl (by kernel_rfl) (by kernel_rfl) (by kernel_rfl) (fun _ _ _ h => h) (by kernel_rfl) hS (by intro v1 hv; have q := HCP.out (i := 2) rfl hv; go_simp; try rfl) ?_
  refine h_take 12 (.int .u8 (zr : Int)) rfl (by kernel_rfl) (by kernel_rfl) (by kernel_rfl) (fun _ _ _ h => h) (by kernel_rfl) hS (by intro v1 hv; go_simp) ?_
  refine h_take 13 (.int .i64 (zr : Int)) rfl (by kernel_rfl) (by kernel_rfl) (by kernel_rfl) (fun _ _ _ h => h) (by kernel_rfl) hS (by intro v1 hv; go_simp <;> exact wrap_small (by omega) (by omega)) ?_
  refine h_take 14 (.int .i64 c) rfl (by kernel_rfl) (by kernel_rfl) (by kernel_rfl) (fun _ _ _ h => h) (by kernel_rfl) hS (by intro v1 hv; have e := HCE.out; go_simp <;> (rw [wrap_small (by omega) (by omega)]; try omega)) ?_
  refine h_take 15 (.int .i64 a) rfl (by kernel_rfl) (by kernel_rfl) (by kernel_rfl) (fun _ _ _ h => h) (by kernel_rfl) hS (fun _ _ => by kernel_rfl) ?_
  refine h_take 16 (.int .i64 b) rfl (by kernel_rfl) (by kernel_rfl) (by kernel_rfl) (fun _ _ _ h => h) (by kernel_rfl) hS (fun _ _ => by kernel_rfl) ?_
  refine h_take 17 (.int .i64 c) rfl (by kernel_rfl) (by kernel_rfl) (by kernel_rfl) (fun _ _ _ h => h) (by kernel_rfl) hS (fun _ _ => by kernel_rfl) ?_
  refine wpAnyH_done (by kernel_rfl) ?_ _
  go_simp
  have f30 := HCA.out (i := 0) rfl HS2.out.drew
  have f31 := HCA.out (i := 1) rfl HS2.out.drew
  have f32 := HCA.out (i := 2) rfl HS2.out.drew
  have f33 := HCA.out (i := 3) rfl HS2.out.drew
  have f34 := HCA.out (i := 4) rfl HS2.out.drew
  have f35 := HCA.out (i := 5) rfl HS2.out.drew
  have f36 := HCA.out (i := 6) rfl HS2.out.drew
  go_wp2_with (first
    | (go_at_call 8; have hk := HB3.out.size; refine (HFX.out _).mono ?_; rintro e w9 ⟨rfl, hb9⟩; have HB9 := Lib.hid (HB3.out.trans (hb9.mono (HB3.out).size)); clear hb9)
    | (go_at_call 18; refine (HM.out _ HB2.out.drew).mono ?_; rintro e w3 ⟨rfl, hb3⟩; have HB3 := Lib.hid (HB2.out.drew.trans (hb3.mono HB2.out.drew.size)); clear hb3))
  go_ret
  exact ⟨rfl, HB9.out⟩

end Go.Proofs.Ytibojanfibhjfaa
