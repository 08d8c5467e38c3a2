/- schema.fields.of. -/
import Derived.Test.YtfdncdejjlcgpaaUc
namespace Go.Proofs.Ytfdncdejjlcgpaa
open Go.RowKit

/-- Functions in a row, behind others. -/
theorem reads_funs (W : World) (gs : List Value) : Reads (W.alloc (.cells gs.toArray 88)) (W.heap.size + 1) 1 (some ⟨W.heap.size, 0, none⟩) gs.length gs := by
  refine ⟨by simp, fun _ => ⟨_, rfl, by show W.heap.size < _; omega, fun j u hu => ?_⟩⟩
  have h2 := at_cell (w := W.alloc (.cells gs.toArray 88)) (b := W.heap.size) (i := j) (one_new W _) (by simpa using hu)
  rw [show (⟨W.heap.size, 0, none⟩ : Addr).add j = ⟨W.heap.size, j, none⟩ from by unfold Addr.add; split <;> simp_all]
  exact h2
theorem own_funs (W : World) (b : Nat) (gs : List Value) (hb : b ≤ W.heap.size) (hl : gs.length ≤ 1000) : (W.alloc (.cells gs.toArray 88)).ownsRow b 88 1 (.slice (some ⟨W.heap.size, 0, none⟩) gs.length gs.length) gs.length gs :=
  ownsRow_of_block (cap := gs.length) (cs := gs) hb (one_new W _) (Nat.le_refl _) (by unfold maxLen; omega) rfl (by simp)
theorem infoF : (Try.prog.info? 88).map (fun i => (i.zero, i.size, i.bytes)) = some (some .nilFunc, 1, 8) := by kernel_rfl

section
variable (k0 k1 k2 k3 k4 k5 : Nat) (p : Value)

set_option maxRecDepth 100000 in
set_option maxHeartbeats 1000000 in
theorem of_11 (w : World) :
    Calls Try.prog 53 #[.agg #[.func (.func k0) #[p] #[], .func (.func k1) #[p] #[], .func (.func k2) #[p] #[], .func (.func k3) #[p] #[], .func (.func k4) #[p] #[], .func (.func k5) #[p] #[]], .int .i64 1, .int .i64 1] w fun e w' => ∃ v, e = .returned v ∧ w'.ownsRow (w.heap.size + 1) 88 1 v 4 [.func (.func k0) #[p] #[], .func (.func k1) #[p] #[], .func (.func k2) #[p] #[], .func (.func k3) #[p] #[]] ∧ Below w.heap.size w w' := by
  obtain ⟨i0, ii0, iz0, iz1, iz2⟩ := info_parts infoF
  have HA := Lib.hid (one_new w (.cells #[.func (.func k0) #[p] #[], .func (.func k1) #[p] #[], .func (.func k2) #[p] #[], .func (.func k3) #[p] #[], .func (.func k4) #[p] #[], .func (.func k5) #[p] #[]] 90))
  have HB0 := Lib.hid ((Below.refl _ w).alloc (Nat.le_refl _) (.cells #[.func (.func k0) #[p] #[], .func (.func k1) #[p] #[], .func (.func k2) #[p] #[], .func (.func k3) #[p] #[], .func (.func k4) #[p] #[], .func (.func k5) #[p] #[]] 90))
  have HZ : Hid ((w.alloc (.cells #[.func (.func k0) #[p] #[], .func (.func k1) #[p] #[], .func (.func k2) #[p] #[], .func (.func k3) #[p] #[], .func (.func k4) #[p] #[], .func (.func k5) #[p] #[]] 90)).heap.size = w.heap.size + 1) := by show _ = _; simp
  have q0 := at_cell (i := 0) HA.out rfl
  have q1 := at_cell (i := 1) HA.out rfl
  have q2 := at_cell (i := 2) HA.out rfl
  have q3 := at_cell (i := 3) HA.out rfl
  have q4 := at_cell (i := 4) HA.out rfl
  have q5 := at_cell (i := 5) HA.out rfl
  have ho0 := own_funs (w.alloc (.cells #[.func (.func k0) #[p] #[], .func (.func k1) #[p] #[], .func (.func k2) #[p] #[], .func (.func k3) #[p] #[], .func (.func k4) #[p] #[], .func (.func k5) #[p] #[]] 90)) (w.heap.size + 1) [.func (.func k0) #[p] #[], .func (.func k1) #[p] #[], .func (.func k2) #[p] #[], .func (.func k3) #[p] #[]] (by simp) (by simp)
  rw [HZ.out] at ho0
  have HO0 := Lib.hid ho0
  clear ho0
  have HB1 := Lib.hid (HB0.out.alloc (by have h1 := HZ.out; omega) (.cells #[.func (.func k0) #[p] #[], .func (.func k1) #[p] #[], .func (.func k2) #[p] #[], .func (.func k3) #[p] #[]] 88))
  go_enter Try.func53, Try.ntmps53
  go_wp2
  go_ret
  exact ⟨_, rfl, HO0.out, HB1.out⟩

set_option maxRecDepth 100000 in
set_option maxHeartbeats 1000000 in
theorem of_21 (w : World) :
    Calls Try.prog 53 #[.agg #[.func (.func k0) #[p] #[], .func (.func k1) #[p] #[], .func (.func k2) #[p] #[], .func (.func k3) #[p] #[], .func (.func k4) #[p] #[], .func (.func k5) #[p] #[]], .int .i64 2, .int .i64 1] w fun e w' => ∃ v, e = .returned v ∧ w'.ownsRow (w.heap.size + 1) 88 1 v 5 [.func (.func k0) #[p] #[], .func (.func k1) #[p] #[], .func (.func k2) #[p] #[], .func (.func k3) #[p] #[], .func (.func k4) #[p] #[]] ∧ Below w.heap.size w w' := by
  obtain ⟨i0, ii0, iz0, iz1, iz2⟩ := info_parts infoF
  have HA := Lib.hid (one_new w (.cells #[.func (.func k0) #[p] #[], .func (.func k1) #[p] #[], .func (.func k2) #[p] #[], .func (.func k3) #[p] #[], .func (.func k4) #[p] #[], .func (.func k5) #[p] #[]] 90))
  have HB0 := Lib.hid ((Below.refl _ w).alloc (Nat.le_refl _) (.cells #[.func (.func k0) #[p] #[], .func (.func k1) #[p] #[], .func (.func k2) #[p] #[], .func (.func k3) #[p] #[], .func (.func k4) #[p] #[], .func (.func k5) #[p] #[]] 90))
  have HZ : Hid ((w.alloc (.cells #[.func (.func k0) #[p] #[], .func (.func k1) #[p] #[], .func (.func k2) #[p] #[], .func (.func k3) #[p] #[], .func (.func k4) #[p] #[], .func (.func k5) #[p] #[]] 90)).heap.size = w.heap.size + 1) := by show _ = _; simp
  have q0 := at_cell (i := 0) HA.out rfl
  have q1 := at_cell (i := 1) HA.out rfl
  have q2 := at_cell (i := 2) HA.out rfl
  have q3 := at_cell (i := 3) HA.out rfl
  have q4 := at_cell (i := 4) HA.out rfl
  have q5 := at_cell (i := 5) HA.out rfl
  have ho0 := own_funs (w.alloc (.cells #[.func (.func k0) #[p] #[], .func (.func k1) #[p] #[], .func (.func k2) #[p] #[], .func (.func k3) #[p] #[], .func (.func k4) #[p] #[], .func (.func k5) #[p] #[]] 90)) (w.heap.size + 1) [.func (.func k0) #[p] #[], .func (.func k1) #[p] #[], .func (.func k2) #[p] #[], .func (.func k3) #[p] #[]] (by simp) (by simp)
  rw [HZ.out] at ho0
  have HO0 := Lib.hid ho0
  clear ho0
  have HB1 := Lib.hid (HB0.out.alloc (by have h1 := HZ.out; omega) (.cells #[.func (.func k0) #[p] #[], .func (.func k1) #[p] #[], .func (.func k2) #[p] #[], .func (.func k3) #[p] #[]] 88))
  go_enter Try.func53, Try.ntmps53
  have HU0 : Hid (Below (w.heap.size + 1) (w.alloc (.cells #[.func (.func k0) #[p] #[], .func (.func k1) #[p] #[], .func (.func k2) #[p] #[], .func (.func k3) #[p] #[], .func (.func k4) #[p] #[], .func (.func k5) #[p] #[]] 90)) ((w.alloc (.cells #[.func (.func k0) #[p] #[], .func (.func k1) #[p] #[], .func (.func k2) #[p] #[], .func (.func k3) #[p] #[], .func (.func k4) #[p] #[], .func (.func k5) #[p] #[]] 90)).alloc (.cells #[.func (.func k0) #[p] #[], .func (.func k1) #[p] #[], .func (.func k2) #[p] #[], .func (.func k3) #[p] #[]] 88))) := (Below.refl _ _).alloc (by simp) _
  have HS0 : Hid (w.heap.size + 1 ≤ ((w.alloc (.cells #[.func (.func k0) #[p] #[], .func (.func k1) #[p] #[], .func (.func k2) #[p] #[], .func (.func k3) #[p] #[], .func (.func k4) #[p] #[], .func (.func k5) #[p] #[]] 90)).alloc (.cells #[.func (.func k0) #[p] #[], .func (.func k1) #[p] #[], .func (.func k2) #[p] #[], .func (.func k3) #[p] #[]] 88)).heap.size) := by show _ ≤ _; simp
  go_wp2_with (at_builtin; have ho := World.ownsRow.alloc HO0.out (.cells #[.func (.func k4) #[p] #[]] 88); have hb := HB1.out.alloc HB1.out.size (.cells #[.func (.func k4) #[p] #[]] 88); have hr := reads_funs ((w.alloc (.cells #[.func (.func k0) #[p] #[], .func (.func k1) #[p] #[], .func (.func k2) #[p] #[], .func (.func k3) #[p] #[], .func (.func k4) #[p] #[], .func (.func k5) #[p] #[]] 90)).alloc (.cells #[.func (.func k0) #[p] #[], .func (.func k1) #[p] #[], .func (.func k2) #[p] #[], .func (.func k3) #[p] #[]] 88)) [.func (.func k4) #[p] #[]]; refine wpList_append_many _ rfl (.tmp 22) (.tmp 25) 91 rfl (w.heap.size + 1) 88 i0 _ 1 8 Try.underlying91 ii0 iz0 iz1 iz2 rfl (by decide) _ 4 [.func (.func k0) #[p] #[], .func (.func k1) #[p] #[], .func (.func k2) #[p] #[], .func (.func k3) #[p] #[]] rfl ho (some ⟨w.heap.size + 1 + 1, 0, none⟩) 1 1 (w.heap.size + 1 + 1 + 1) [.func (.func k4) #[p] #[]] rfl (by simp) (by simpa using hr) (fun u hu => by obtain rfl := List.mem_singleton.1 hu; rfl) (by unfold maxLen; omega) (by omega) (Nat.le_trans HS0.out (by simp)) ?_; intro v3 w3 ho3 hg3; have HO3 := Lib.hid ho3; have HB3 := Lib.hid (hb.grown hg3 hb.size (fun g hg => by have h1 := own_block HO0.out g hg; omega)); have HS1 : Hid (w.heap.size + 1 ≤ w3.heap.size) := (Nat.le_trans (Nat.le_trans HS0.out (by simp)) hg3.size); have HU1 := Lib.hid ((HU0.out.alloc HS0.out (.cells #[.func (.func k4) #[p] #[]] 88)).grown hg3 (Nat.le_trans HS0.out (by simp)) (fun g hg => own_block HO0.out g hg)); have j5 := (HU1.out.cell (p := ⟨w.heap.size, 5, none⟩) (show w.heap.size < w.heap.size + 1 by omega)).trans (at_cell (i := 5) HA.out rfl); clear ho hb hr ho3 hg3)
  go_ret
  exact ⟨_, rfl, HO3.out, HB3.out⟩

set_option maxRecDepth 100000 in
set_option maxHeartbeats 1000000 in
theorem of_31 (w : World) :
    Calls Try.prog 53 #[.agg #[.func (.func k0) #[p] #[], .func (.func k1) #[p] #[], .func (.func k2) #[p] #[], .func (.func k3) #[p] #[], .func (.func k4) #[p] #[], .func (.func k5) #[p] #[]], .int .i64 3, .int .i64 1] w fun e w' => ∃ v, e = .returned v ∧ w'.ownsRow (w.heap.size + 1) 88 1 v 6 [.func (.func k0) #[p] #[], .func (.func k1) #[p] #[], .func (.func k2) #[p] #[], .func (.func k3) #[p] #[], .func (.func k4) #[p] #[], .func (.func k5) #[p] #[]] ∧ Below w.heap.size w w' := by
  obtain ⟨i0, ii0, iz0, iz1, iz2⟩ := info_parts infoF
  have HA := Lib.hid (one_new w (.cells #[.func (.func k0) #[p] #[], .func (.func k1) #[p] #[], .func (.func k2) #[p] #[], .func (.func k3) #[p] #[], .func (.func k4) #[p] #[], .func (.func k5) #[p] #[]] 90))
  have HB0 := Lib.hid ((Below.refl _ w).alloc (Nat.le_refl _) (.cells #[.func (.func k0) #[p] #[], .func (.func k1) #[p] #[], .func (.func k2) #[p] #[], .func (.func k3) #[p] #[], .func (.func k4) #[p] #[], .func (.func k5) #[p] #[]] 90))
  have HZ : Hid ((w.alloc (.cells #[.func (.func k0) #[p] #[], .func (.func k1) #[p] #[], .func (.func k2) #[p] #[], .func (.func k3) #[p] #[], .func (.func k4) #[p] #[], .func (.func k5) #[p] #[]] 90)).heap.size = w.heap.size + 1) := by show _ = _; simp
  have q0 := at_cell (i := 0) HA.out rfl
  have q1 := at_cell (i := 1) HA.out rfl
  have q2 := at_cell (i := 2) HA.out rfl
  have q3 := at_cell (i := 3) HA.out rfl
  have q4 := at_cell (i := 4) HA.out rfl
  have q5 := at_cell (i := 5) HA.out rfl
  have ho0 := own_funs (w.alloc (.cells #[.func (.func k0) #[p] #[], .func (.func k1) #[p] #[], .func (.func k2) #[p] #[], .func (.func k3) #[p] #[], .func (.func k4) #[p] #[], .func (.func k5) #[p] #[]] 90)) (w.heap.size + 1) [.func (.func k0) #[p] #[], .func (.func k1) #[p] #[], .func (.func k2) #[p] #[], .func (.func k3) #[p] #[]] (by simp) (by simp)
  rw [HZ.out] at ho0
  have HO0 := Lib.hid ho0
  clear ho0
  have HB1 := Lib.hid (HB0.out.alloc (by have h1 := HZ.out; omega) (.cells #[.func (.func k0) #[p] #[], .func (.func k1) #[p] #[], .func (.func k2) #[p] #[], .func (.func k3) #[p] #[]] 88))
  go_enter Try.func53, Try.ntmps53
  have HU0 : Hid (Below (w.heap.size + 1) (w.alloc (.cells #[.func (.func k0) #[p] #[], .func (.func k1) #[p] #[], .func (.func k2) #[p] #[], .func (.func k3) #[p] #[], .func (.func k4) #[p] #[], .func (.func k5) #[p] #[]] 90)) ((w.alloc (.cells #[.func (.func k0) #[p] #[], .func (.func k1) #[p] #[], .func (.func k2) #[p] #[], .func (.func k3) #[p] #[], .func (.func k4) #[p] #[], .func (.func k5) #[p] #[]] 90)).alloc (.cells #[.func (.func k0) #[p] #[], .func (.func k1) #[p] #[], .func (.func k2) #[p] #[], .func (.func k3) #[p] #[]] 88))) := (Below.refl _ _).alloc (by simp) _
  have HS0 : Hid (w.heap.size + 1 ≤ ((w.alloc (.cells #[.func (.func k0) #[p] #[], .func (.func k1) #[p] #[], .func (.func k2) #[p] #[], .func (.func k3) #[p] #[], .func (.func k4) #[p] #[], .func (.func k5) #[p] #[]] 90)).alloc (.cells #[.func (.func k0) #[p] #[], .func (.func k1) #[p] #[], .func (.func k2) #[p] #[], .func (.func k3) #[p] #[]] 88)).heap.size) := by show _ ≤ _; simp
  go_wp2_with (first
    | (at_builtin; have ho := World.ownsRow.alloc HO3.out (.cells #[.func (.func k5) #[p] #[]] 88); have hb := HB3.out.alloc HB3.out.size (.cells #[.func (.func k5) #[p] #[]] 88); have hr := reads_funs w3 [.func (.func k5) #[p] #[]]; refine wpList_append_many _ rfl (.tmp 29) (.tmp 32) 91 rfl (w.heap.size + 1) 88 i0 _ 1 8 Try.underlying91 ii0 iz0 iz1 iz2 rfl (by decide) _ 5 [.func (.func k0) #[p] #[], .func (.func k1) #[p] #[], .func (.func k2) #[p] #[], .func (.func k3) #[p] #[], .func (.func k4) #[p] #[]] rfl ho (some ⟨w3.heap.size, 0, none⟩) 1 1 (w3.heap.size + 1) [.func (.func k5) #[p] #[]] rfl (by simp) (by simpa using hr) (fun u hu => by obtain rfl := List.mem_singleton.1 hu; rfl) (by unfold maxLen; omega) (by omega) (Nat.le_trans HS1.out (by simp)) ?_; intro v4 w4 ho4 hg4; have HO4 := Lib.hid ho4; have HB4 := Lib.hid (hb.grown hg4 hb.size (fun g hg => by have h1 := own_block HO3.out g hg; omega)); have HS2 : Hid (w.heap.size + 1 ≤ w4.heap.size) := (Nat.le_trans (Nat.le_trans HS1.out (by simp)) hg4.size); have HU2 := Lib.hid ((HU1.out.alloc HS1.out (.cells #[.func (.func k5) #[p] #[]] 88)).grown hg4 (Nat.le_trans HS1.out (by simp)) (fun g hg => own_block HO3.out g hg)); have j5 := (HU2.out.cell (p := ⟨w.heap.size, 5, none⟩) (show w.heap.size < w.heap.size + 1 by omega)).trans (at_cell (i := 5) HA.out rfl); clear ho hb hr ho4 hg4)
    | (at_builtin; have ho := World.ownsRow.alloc HO0.out (.cells #[.func (.func k4) #[p] #[]] 88); have hb := HB1.out.alloc HB1.out.size (.cells #[.func (.func k4) #[p] #[]] 88); have hr := reads_funs ((w.alloc (.cells #[.func (.func k0) #[p] #[], .func (.func k1) #[p] #[], .func (.func k2) #[p] #[], .func (.func k3) #[p] #[], .func (.func k4) #[p] #[], .func (.func k5) #[p] #[]] 90)).alloc (.cells #[.func (.func k0) #[p] #[], .func (.func k1) #[p] #[], .func (.func k2) #[p] #[], .func (.func k3) #[p] #[]] 88)) [.func (.func k4) #[p] #[]]; refine wpList_append_many _ rfl (.tmp 22) (.tmp 25) 91 rfl (w.heap.size + 1) 88 i0 _ 1 8 Try.underlying91 ii0 iz0 iz1 iz2 rfl (by decide) _ 4 [.func (.func k0) #[p] #[], .func (.func k1) #[p] #[], .func (.func k2) #[p] #[], .func (.func k3) #[p] #[]] rfl ho (some ⟨w.heap.size + 1 + 1, 0, none⟩) 1 1 (w.heap.size + 1 + 1 + 1) [.func (.func k4) #[p] #[]] rfl (by simp) (by simpa using hr) (fun u hu => by obtain rfl := List.mem_singleton.1 hu; rfl) (by unfold maxLen; omega) (by omega) (Nat.le_trans HS0.out (by simp)) ?_; intro v3 w3 ho3 hg3; have HO3 := Lib.hid ho3; have HB3 := Lib.hid (hb.grown hg3 hb.size (fun g hg => by have h1 := own_block HO0.out g hg; omega)); have HS1 : Hid (w.heap.size + 1 ≤ w3.heap.size) := (Nat.le_trans (Nat.le_trans HS0.out (by simp)) hg3.size); have HU1 := Lib.hid ((HU0.out.alloc HS0.out (.cells #[.func (.func k4) #[p] #[]] 88)).grown hg3 (Nat.le_trans HS0.out (by simp)) (fun g hg => own_block HO0.out g hg)); have j5 := (HU1.out.cell (p := ⟨w.heap.size, 5, none⟩) (show w.heap.size < w.heap.size + 1 by omega)).trans (at_cell (i := 5) HA.out rfl); clear ho hb hr ho3 hg3))
  go_ret
  exact ⟨_, rfl, HO4.out, HB4.out⟩

set_option maxRecDepth 100000 in
set_option maxHeartbeats 1000000 in
theorem of_2 (ver : Int) (w : World) :
    Calls Try.prog 53 #[.agg #[.func (.func k0) #[p] #[], .func (.func k1) #[p] #[], .func (.func k2) #[p] #[], .func (.func k3) #[p] #[], .func (.func k4) #[p] #[], .func (.func k5) #[p] #[]], .int .i64 ver, .int .i64 2] w fun e w' => ∃ v, e = .returned v ∧ w'.ownsRow (w.heap.size + 1) 88 1 v 1 [.func (.func k0) #[p] #[]] ∧ Below w.heap.size w w' := by
  obtain ⟨i0, ii0, iz0, iz1, iz2⟩ := info_parts infoF
  have HA := Lib.hid (one_new w (.cells #[.func (.func k0) #[p] #[], .func (.func k1) #[p] #[], .func (.func k2) #[p] #[], .func (.func k3) #[p] #[], .func (.func k4) #[p] #[], .func (.func k5) #[p] #[]] 90))
  have HB0 := Lib.hid ((Below.refl _ w).alloc (Nat.le_refl _) (.cells #[.func (.func k0) #[p] #[], .func (.func k1) #[p] #[], .func (.func k2) #[p] #[], .func (.func k3) #[p] #[], .func (.func k4) #[p] #[], .func (.func k5) #[p] #[]] 90))
  have HZ : Hid ((w.alloc (.cells #[.func (.func k0) #[p] #[], .func (.func k1) #[p] #[], .func (.func k2) #[p] #[], .func (.func k3) #[p] #[], .func (.func k4) #[p] #[], .func (.func k5) #[p] #[]] 90)).heap.size = w.heap.size + 1) := by show _ = _; simp
  have q0 := at_cell (i := 0) HA.out rfl
  have q1 := at_cell (i := 1) HA.out rfl
  have q2 := at_cell (i := 2) HA.out rfl
  have q3 := at_cell (i := 3) HA.out rfl
  have q4 := at_cell (i := 4) HA.out rfl
  have q5 := at_cell (i := 5) HA.out rfl
  have ho0 := own_funs (w.alloc (.cells #[.func (.func k0) #[p] #[], .func (.func k1) #[p] #[], .func (.func k2) #[p] #[], .func (.func k3) #[p] #[], .func (.func k4) #[p] #[], .func (.func k5) #[p] #[]] 90)) (w.heap.size + 1) [.func (.func k0) #[p] #[]] (by simp) (by simp)
  rw [HZ.out] at ho0
  have HO0 := Lib.hid ho0
  clear ho0
  have HB1 := Lib.hid (HB0.out.alloc (by have h1 := HZ.out; omega) (.cells #[.func (.func k0) #[p] #[]] 88))
  go_enter Try.func53, Try.ntmps53
  go_wp2
  go_ret
  exact ⟨_, rfl, HO0.out, HB1.out⟩

set_option maxRecDepth 100000 in
set_option maxHeartbeats 1000000 in
theorem of_none (ver k : Int) (hk : k ≠ 1 ∧ k ≠ 2) (w : World) :
    Calls Try.prog 53 #[.agg #[.func (.func k0) #[p] #[], .func (.func k1) #[p] #[], .func (.func k2) #[p] #[], .func (.func k3) #[p] #[], .func (.func k4) #[p] #[], .func (.func k5) #[p] #[]], .int .i64 ver, .int .i64 k] w fun e w' => ∃ v, e = .returned v ∧ w'.ownsRow (w.heap.size + 1) 88 1 v 0 [] ∧ Below w.heap.size w w' := by
  obtain ⟨i0, ii0, iz0, iz1, iz2⟩ := info_parts infoF
  have HA := Lib.hid (one_new w (.cells #[.func (.func k0) #[p] #[], .func (.func k1) #[p] #[], .func (.func k2) #[p] #[], .func (.func k3) #[p] #[], .func (.func k4) #[p] #[], .func (.func k5) #[p] #[]] 90))
  have HB0 := Lib.hid ((Below.refl _ w).alloc (Nat.le_refl _) (.cells #[.func (.func k0) #[p] #[], .func (.func k1) #[p] #[], .func (.func k2) #[p] #[], .func (.func k3) #[p] #[], .func (.func k4) #[p] #[], .func (.func k5) #[p] #[]] 90))
  have HZ : Hid ((w.alloc (.cells #[.func (.func k0) #[p] #[], .func (.func k1) #[p] #[], .func (.func k2) #[p] #[], .func (.func k3) #[p] #[], .func (.func k4) #[p] #[], .func (.func k5) #[p] #[]] 90)).heap.size = w.heap.size + 1) := by show _ = _; simp
  have q0 := at_cell (i := 0) HA.out rfl
  have q1 := at_cell (i := 1) HA.out rfl
  have q2 := at_cell (i := 2) HA.out rfl
  have q3 := at_cell (i := 3) HA.out rfl
  have q4 := at_cell (i := 4) HA.out rfl
  have q5 := at_cell (i := 5) HA.out rfl
  obtain ⟨hk1, hk2⟩ := hk
  have d1 : decide (k = 1) = false := decide_eq_false hk1
  have d2 : (k == 1) = false := by rw [beq_eq_false_iff_ne]; exact hk1
  have d3 : decide (k = 2) = false := decide_eq_false hk2
  have d4 : (k == 2) = false := by rw [beq_eq_false_iff_ne]; exact hk2
  clear hk1 hk2
  go_enter Try.func53, Try.ntmps53
  go_wp2
  go_ret
  exact ⟨_, rfl, World.ownsRow_nil _ _ _ _, HB0.out⟩

end

end Go.Proofs.Ytfdncdejjlcgpaa
