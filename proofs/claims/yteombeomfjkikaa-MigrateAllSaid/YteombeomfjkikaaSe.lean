/- MigrateOne's walk. -/
import Derived.Test.YteombeomfjkikaaSd
import Derived.Test.YteombeomfjkikaaRu
import Derived.Test.YteombeomfjkikaaRj
import Derived.Test.YteombeomfjkikaaRl2
import Derived.Test.YteombeomfjkikaaH
namespace Go.Proofs.Yteombeomfjkikaa
open Go.RowKit

theorem and_mono {P : Prop} {e : Ending} {w w' : World} {b : Bool} (hp : b = true ↔ P) (h : Tells P e ∧ Below w.heap.size w w') : e = .returned (.bool b) ∧ Below w.heap.size w w' := by
  obtain ⟨⟨q, h1, h2⟩, h3⟩ := h
  exact ⟨by rw [h2]; congr 2; rw [Bool.eq_iff_iff, h1, hp], h3⟩

theorem fxm_may : MayP 1 ⟨1, [97], 0, 0, 0, []⟩ [] := ⟨by omega, by omega, by decide, .inl ⟨rfl, .inl rfl, .inl rfl, by simp, by simp, by simp [names]⟩⟩

set_option maxRecDepth 100000 in
set_option maxHeartbeats 1000000 in
theorem mfixed_any (w : World) : Calls Try.prog 8 #[] w fun e w' => e = .returned (.bool true) ∧ Below w.heap.size w w' := by
  have fit : Fits ⟨1, [97], 0, 0, 0, []⟩ [] := ⟨by unfold maxLen; simp, by unfold maxLen; simp, by simp⟩
  have HTO : Hid (∀ W, Calls Try.prog 9 #[.int .i64 1, .int .i64 3, .agg #[.int .i64 1, .string { data := #[97] }, .int .u64 0, .slice none 0 0, .int .u64 0, .int .u64 0, .string { data := #[] }]] W fun e w' => ∃ A' c', e = .returned (.tuple #[.agg #[.int .i64 1, .string { data := #[97] }, .int .u64 0, .slice A' 0 c', .int .u64 0, .int .u64 1, .string { data := #[111, 108, 100] }], .int .i64 0]) ∧ Deps w' W.heap.size A' 0 c' [] ∧ Below W.heap.size W w') := fun W =>
    to_ok 1 3 1 [97] [] [111, 108, 100] 0 0 0 1 none 0 0 [] (by decide) W
      (fun W2 hb => (may_any 1 ⟨1, [97], 0, 0, 0, []⟩ none 0 0 [] (by omega) fit W2 Reads.none_).mono fun e w' h => and_mono (by simp [fxm_may]) h)
      (fun W2 hb => moved_13 [97] [] 0 0 0 none 0 0 [] (fun _ => rfl) (by omega) W2 Reads.none_)
  clear fit
  go_enter Try.func8, Try.ntmps8
  go_wp2_with (go_at_call 9; refine (HTO.out _).mono ?_; rintro e w2 ⟨A4, c4, rfl, _, hb2⟩; have hn := one_new w2 (.cells #[.int .i64 1, .string { data := #[97] }, .int .u64 0, .slice A4 0 c4, .int .u64 0, .int .u64 1, .string { data := #[111, 108, 100] }] 25); have q5 := at_cell (i := 5) hn rfl; have q6 := at_cell (i := 6) hn rfl; have HB2 := Lib.hid (hb2.alloc hb2.size (.cells #[.int .i64 1, .string { data := #[97] }, .int .u64 0, .slice A4 0 c4, .int .u64 0, .int .u64 1, .string { data := #[111, 108, 100] }] 25)); clear hn hb2)
  go_ret
  exact ⟨rfl, HB2.out⟩

set_option maxRecDepth 100000 in
set_option maxHeartbeats 4000000 in
theorem mone_g1 (r1 r2 : Rc) (A B : Option Addr) (n1 n2 c1 c2 : Nat) (w : World)
    (HFX : Hid (∀ W, Calls Try.prog 8 #[] W fun e w' => e = .returned (.bool true) ∧ Below W.heap.size W w'))
    (HG1 : Hid (∀ W, Below w.heap.size w W → Calls Try.prog 7 #[.agg #[.int .i64 r1.kind, .string (tx r1.target), .int .u64 r1.rule, .slice A n1 c1, .int .u64 r1.out, .int .u64 r1.time, .string (tx r1.tag)]] W fun e w' => e = .returned (.bool true) ∧ Below W.heap.size W w')) :
    Calls Try.prog 6 #[.agg #[.int .i64 r1.kind, .string (tx r1.target), .int .u64 r1.rule, .slice A n1 c1, .int .u64 r1.out, .int .u64 r1.time, .string (tx r1.tag)], .agg #[.int .i64 r2.kind, .string (tx r2.target), .int .u64 r2.rule, .slice B n2 c2, .int .u64 r2.out, .int .u64 r2.time, .string (tx r2.tag)]] w fun e w' => e = .returned (.bool true) ∧ Below w.heap.size w w' := by
  have h00 := two_new w (.cells #[.int .i64 r1.kind, .string (tx r1.target), .int .u64 r1.rule, .slice A n1 c1, .int .u64 r1.out, .int .u64 r1.time, .string (tx r1.tag)] 25) (.cells #[.int .i64 r2.kind, .string (tx r2.target), .int .u64 r2.rule, .slice B n2 c2, .int .u64 r2.out, .int .u64 r2.time, .string (tx r2.tag)] 25)
  have HA0 := Lib.hid h00.1
  have HA1 := Lib.hid h00.2.1
  have HSZ := Lib.hid h00.2.2
  have HB0 := Lib.hid (((Below.refl w.heap.size w).alloc (Nat.le_refl _) (.cells #[.int .i64 r1.kind, .string (tx r1.target), .int .u64 r1.rule, .slice A n1 c1, .int .u64 r1.out, .int .u64 r1.time, .string (tx r1.tag)] 25)).alloc (by simp) (.cells #[.int .i64 r2.kind, .string (tx r2.target), .int .u64 r2.rule, .slice B n2 c2, .int .u64 r2.out, .int .u64 r2.time, .string (tx r2.tag)] 25))
  have HCA : Hid (∀ {i : Nat} {x : Value}, (#[.int .i64 r1.kind, .string (tx r1.target), .int .u64 r1.rule, .slice A n1 c1, .int .u64 r1.out, .int .u64 r1.time, .string (tx r1.tag)] : Array Value)[i]? = some x → ∀ {W : World}, Below (w.heap.size + 2) ((w.alloc (.cells #[.int .i64 r1.kind, .string (tx r1.target), .int .u64 r1.rule, .slice A n1 c1, .int .u64 r1.out, .int .u64 r1.time, .string (tx r1.tag)] 25)).alloc (.cells #[.int .i64 r2.kind, .string (tx r2.target), .int .u64 r2.rule, .slice B n2 c2, .int .u64 r2.out, .int .u64 r2.time, .string (tx r2.tag)] 25)) W → W.cell? ⟨w.heap.size, i, none⟩ = some x) := fun hi W hb => (hb.cell (p := ⟨w.heap.size, _, none⟩) (show w.heap.size < w.heap.size + 2 by omega)).trans (at_cell HA0.out hi)
  have HCB : Hid (∀ {i : Nat} {x : Value}, (#[.int .i64 r2.kind, .string (tx r2.target), .int .u64 r2.rule, .slice B n2 c2, .int .u64 r2.out, .int .u64 r2.time, .string (tx r2.tag)] : Array Value)[i]? = some x → ∀ {W : World}, Below (w.heap.size + 2) ((w.alloc (.cells #[.int .i64 r1.kind, .string (tx r1.target), .int .u64 r1.rule, .slice A n1 c1, .int .u64 r1.out, .int .u64 r1.time, .string (tx r1.tag)] 25)).alloc (.cells #[.int .i64 r2.kind, .string (tx r2.target), .int .u64 r2.rule, .slice B n2 c2, .int .u64 r2.out, .int .u64 r2.time, .string (tx r2.tag)] 25)) W → W.cell? ⟨w.heap.size + 1, i, none⟩ = some x) := fun hi W hb => (hb.cell (p := ⟨w.heap.size + 1, _, none⟩) (show w.heap.size + 1 < w.heap.size + 2 by omega)).trans (at_cell HA1.out hi)
  have q0 := at_cell (i := 0) h00.1 rfl
  have q1 := at_cell (i := 1) h00.1 rfl
  have q2 := at_cell (i := 2) h00.1 rfl
  have q3 := at_cell (i := 3) h00.1 rfl
  have q4 := at_cell (i := 4) h00.1 rfl
  have q5 := at_cell (i := 5) h00.1 rfl
  have q6 := at_cell (i := 6) h00.1 rfl
  clear h00
  go_enter Try.func6, Try.ntmps6
  go_wp2_with (first
    | (go_at_call 8; have hk := HB2.out.size; refine (HFX.out _).mono ?_; rintro e w9 ⟨rfl, hb9⟩; have HB9 := Lib.hid (HB2.out.trans (hb9.mono HB2.out.size)); clear hb9)
    | (go_at_call 7; refine (HG1.out _ HB0.out).mono ?_; rintro e w2 ⟨rfl, hb2⟩; have HB2 := Lib.hid (HB0.out.trans (hb2.mono HB0.out.size)); have HS2 := Lib.hid (hb2.mono (Nat.le_of_eq HSZ.out.symm)); have HS2Z : Hid (w.heap.size + 2 ≤ w2.heap.size) := (by have h1 := hb2.size; rw [HSZ.out] at h1; exact h1); have f20 := HCB.out (i := 0) rfl HS2.out; have f21 := HCB.out (i := 1) rfl HS2.out; have f22 := HCB.out (i := 2) rfl HS2.out; have f23 := HCB.out (i := 3) rfl HS2.out; have f24 := HCB.out (i := 4) rfl HS2.out; have f25 := HCB.out (i := 5) rfl HS2.out; have f26 := HCB.out (i := 6) rfl HS2.out; clear hb2))
  go_ret
  exact ⟨rfl, HB9.out⟩

set_option maxRecDepth 100000 in
set_option maxHeartbeats 4000000 in
theorem mone_g2 (r1 r2 : Rc) (A B : Option Addr) (n1 n2 c1 c2 : Nat) (w : World)
    (HFX : Hid (∀ W, Calls Try.prog 8 #[] W fun e w' => e = .returned (.bool true) ∧ Below W.heap.size W w'))
    (HG1 : Hid (∀ W, Below w.heap.size w W → Calls Try.prog 7 #[.agg #[.int .i64 r1.kind, .string (tx r1.target), .int .u64 r1.rule, .slice A n1 c1, .int .u64 r1.out, .int .u64 r1.time, .string (tx r1.tag)]] W fun e w' => e = .returned (.bool false) ∧ Below W.heap.size W w'))
    (HG2 : Hid (∀ W, Below w.heap.size w W → Calls Try.prog 7 #[.agg #[.int .i64 r2.kind, .string (tx r2.target), .int .u64 r2.rule, .slice B n2 c2, .int .u64 r2.out, .int .u64 r2.time, .string (tx r2.tag)]] W fun e w' => e = .returned (.bool true) ∧ Below W.heap.size W w')) :
    Calls Try.prog 6 #[.agg #[.int .i64 r1.kind, .string (tx r1.target), .int .u64 r1.rule, .slice A n1 c1, .int .u64 r1.out, .int .u64 r1.time, .string (tx r1.tag)], .agg #[.int .i64 r2.kind, .string (tx r2.target), .int .u64 r2.rule, .slice B n2 c2, .int .u64 r2.out, .int .u64 r2.time, .string (tx r2.tag)]] w fun e w' => e = .returned (.bool true) ∧ Below w.heap.size w w' := by
  have h00 := two_new w (.cells #[.int .i64 r1.kind, .string (tx r1.target), .int .u64 r1.rule, .slice A n1 c1, .int .u64 r1.out, .int .u64 r1.time, .string (tx r1.tag)] 25) (.cells #[.int .i64 r2.kind, .string (tx r2.target), .int .u64 r2.rule, .slice B n2 c2, .int .u64 r2.out, .int .u64 r2.time, .string (tx r2.tag)] 25)
  have HA0 := Lib.hid h00.1
  have HA1 := Lib.hid h00.2.1
  have HSZ := Lib.hid h00.2.2
  have HB0 := Lib.hid (((Below.refl w.heap.size w).alloc (Nat.le_refl _) (.cells #[.int .i64 r1.kind, .string (tx r1.target), .int .u64 r1.rule, .slice A n1 c1, .int .u64 r1.out, .int .u64 r1.time, .string (tx r1.tag)] 25)).alloc (by simp) (.cells #[.int .i64 r2.kind, .string (tx r2.target), .int .u64 r2.rule, .slice B n2 c2, .int .u64 r2.out, .int .u64 r2.time, .string (tx r2.tag)] 25))
  have HCA : Hid (∀ {i : Nat} {x : Value}, (#[.int .i64 r1.kind, .string (tx r1.target), .int .u64 r1.rule, .slice A n1 c1, .int .u64 r1.out, .int .u64 r1.time, .string (tx r1.tag)] : Array Value)[i]? = some x → ∀ {W : World}, Below (w.heap.size + 2) ((w.alloc (.cells #[.int .i64 r1.kind, .string (tx r1.target), .int .u64 r1.rule, .slice A n1 c1, .int .u64 r1.out, .int .u64 r1.time, .string (tx r1.tag)] 25)).alloc (.cells #[.int .i64 r2.kind, .string (tx r2.target), .int .u64 r2.rule, .slice B n2 c2, .int .u64 r2.out, .int .u64 r2.time, .string (tx r2.tag)] 25)) W → W.cell? ⟨w.heap.size, i, none⟩ = some x) := fun hi W hb => (hb.cell (p := ⟨w.heap.size, _, none⟩) (show w.heap.size < w.heap.size + 2 by omega)).trans (at_cell HA0.out hi)
  have HCB : Hid (∀ {i : Nat} {x : Value}, (#[.int .i64 r2.kind, .string (tx r2.target), .int .u64 r2.rule, .slice B n2 c2, .int .u64 r2.out, .int .u64 r2.time, .string (tx r2.tag)] : Array Value)[i]? = some x → ∀ {W : World}, Below (w.heap.size + 2) ((w.alloc (.cells #[.int .i64 r1.kind, .string (tx r1.target), .int .u64 r1.rule, .slice A n1 c1, .int .u64 r1.out, .int .u64 r1.time, .string (tx r1.tag)] 25)).alloc (.cells #[.int .i64 r2.kind, .string (tx r2.target), .int .u64 r2.rule, .slice B n2 c2, .int .u64 r2.out, .int .u64 r2.time, .string (tx r2.tag)] 25)) W → W.cell? ⟨w.heap.size + 1, i, none⟩ = some x) := fun hi W hb => (hb.cell (p := ⟨w.heap.size + 1, _, none⟩) (show w.heap.size + 1 < w.heap.size + 2 by omega)).trans (at_cell HA1.out hi)
  have q0 := at_cell (i := 0) h00.1 rfl
  have q1 := at_cell (i := 1) h00.1 rfl
  have q2 := at_cell (i := 2) h00.1 rfl
  have q3 := at_cell (i := 3) h00.1 rfl
  have q4 := at_cell (i := 4) h00.1 rfl
  have q5 := at_cell (i := 5) h00.1 rfl
  have q6 := at_cell (i := 6) h00.1 rfl
  clear h00
  go_enter Try.func6, Try.ntmps6
  go_wp2_with (first
    | (go_at_call 8; have hk := HB3.out.size; refine (HFX.out _).mono ?_; rintro e w9 ⟨rfl, hb9⟩; have HB9 := Lib.hid (HB3.out.trans (hb9.mono HB3.out.size)); clear hb9)
    | (go_at_call 7; have hk := HB2.out.size; refine (HG2.out _ HB2.out).mono ?_; rintro e w3 ⟨rfl, hb3⟩; have HB3 := Lib.hid (HB2.out.trans (hb3.mono HB2.out.size)); have HS3 := Lib.hid (HS2.out.trans (hb3.mono HS2Z.out)); have HS3Z : Hid (w.heap.size + 2 ≤ w3.heap.size) := (Nat.le_trans HS2Z.out hb3.size); have f30 := HCA.out (i := 0) rfl HS3.out; have f31 := HCA.out (i := 1) rfl HS3.out; have f32 := HCA.out (i := 2) rfl HS3.out; have f33 := HCA.out (i := 3) rfl HS3.out; have f34 := HCA.out (i := 4) rfl HS3.out; have f35 := HCA.out (i := 5) rfl HS3.out; have f36 := HCA.out (i := 6) rfl HS3.out; clear hb3)
    | (go_at_call 7; refine (HG1.out _ HB0.out).mono ?_; rintro e w2 ⟨rfl, hb2⟩; have HB2 := Lib.hid (HB0.out.trans (hb2.mono HB0.out.size)); have HS2 := Lib.hid (hb2.mono (Nat.le_of_eq HSZ.out.symm)); have HS2Z : Hid (w.heap.size + 2 ≤ w2.heap.size) := (by have h1 := hb2.size; rw [HSZ.out] at h1; exact h1); have f20 := HCB.out (i := 0) rfl HS2.out; have f21 := HCB.out (i := 1) rfl HS2.out; have f22 := HCB.out (i := 2) rfl HS2.out; have f23 := HCB.out (i := 3) rfl HS2.out; have f24 := HCB.out (i := 4) rfl HS2.out; have f25 := HCB.out (i := 5) rfl HS2.out; have f26 := HCB.out (i := 6) rfl HS2.out; clear hb2))
  go_ret
  exact ⟨rfl, HB9.out⟩

set_option maxRecDepth 100000 in
set_option maxHeartbeats 4000000 in
theorem mone_m1 (r1 r2 : Rc) (A B : Option Addr) (n1 n2 c1 c2 : Nat) (w : World)
    (HFX : Hid (∀ W, Calls Try.prog 8 #[] W fun e w' => e = .returned (.bool true) ∧ Below W.heap.size W w'))
    (HG1 : Hid (∀ W, Below w.heap.size w W → Calls Try.prog 7 #[.agg #[.int .i64 r1.kind, .string (tx r1.target), .int .u64 r1.rule, .slice A n1 c1, .int .u64 r1.out, .int .u64 r1.time, .string (tx r1.tag)]] W fun e w' => e = .returned (.bool false) ∧ Below W.heap.size W w'))
    (HG2 : Hid (∀ W, Below w.heap.size w W → Calls Try.prog 7 #[.agg #[.int .i64 r2.kind, .string (tx r2.target), .int .u64 r2.rule, .slice B n2 c2, .int .u64 r2.out, .int .u64 r2.time, .string (tx r2.tag)]] W fun e w' => e = .returned (.bool false) ∧ Below W.heap.size W w'))
    (HM1 : Hid (∀ W, Below w.heap.size w W → Calls Try.prog 18 #[.int .i64 1, .agg #[.int .i64 r1.kind, .string (tx r1.target), .int .u64 r1.rule, .slice A n1 c1, .int .u64 r1.out, .int .u64 r1.time, .string (tx r1.tag)]] W fun e w' => e = .returned (.bool false) ∧ Below W.heap.size W w')) :
    Calls Try.prog 6 #[.agg #[.int .i64 r1.kind, .string (tx r1.target), .int .u64 r1.rule, .slice A n1 c1, .int .u64 r1.out, .int .u64 r1.time, .string (tx r1.tag)], .agg #[.int .i64 r2.kind, .string (tx r2.target), .int .u64 r2.rule, .slice B n2 c2, .int .u64 r2.out, .int .u64 r2.time, .string (tx r2.tag)]] w fun e w' => e = .returned (.bool true) ∧ Below w.heap.size w w' := by
  have h00 := two_new w (.cells #[.int .i64 r1.kind, .string (tx r1.target), .int .u64 r1.rule, .slice A n1 c1, .int .u64 r1.out, .int .u64 r1.time, .string (tx r1.tag)] 25) (.cells #[.int .i64 r2.kind, .string (tx r2.target), .int .u64 r2.rule, .slice B n2 c2, .int .u64 r2.out, .int .u64 r2.time, .string (tx r2.tag)] 25)
  have HA0 := Lib.hid h00.1
  have HA1 := Lib.hid h00.2.1
  have HSZ := Lib.hid h00.2.2
  have HB0 := Lib.hid (((Below.refl w.heap.size w).alloc (Nat.le_refl _) (.cells #[.int .i64 r1.kind, .string (tx r1.target), .int .u64 r1.rule, .slice A n1 c1, .int .u64 r1.out, .int .u64 r1.time, .string (tx r1.tag)] 25)).alloc (by simp) (.cells #[.int .i64 r2.kind, .string (tx r2.target), .int .u64 r2.rule, .slice B n2 c2, .int .u64 r2.out, .int .u64 r2.time, .string (tx r2.tag)] 25))
  have HCA : Hid (∀ {i : Nat} {x : Value}, (#[.int .i64 r1.kind, .string (tx r1.target), .int .u64 r1.rule, .slice A n1 c1, .int .u64 r1.out, .int .u64 r1.time, .string (tx r1.tag)] : Array Value)[i]? = some x → ∀ {W : World}, Below (w.heap.size + 2) ((w.alloc (.cells #[.int .i64 r1.kind, .string (tx r1.target), .int .u64 r1.rule, .slice A n1 c1, .int .u64 r1.out, .int .u64 r1.time, .string (tx r1.tag)] 25)).alloc (.cells #[.int .i64 r2.kind, .string (tx r2.target), .int .u64 r2.rule, .slice B n2 c2, .int .u64 r2.out, .int .u64 r2.time, .string (tx r2.tag)] 25)) W → W.cell? ⟨w.heap.size, i, none⟩ = some x) := fun hi W hb => (hb.cell (p := ⟨w.heap.size, _, none⟩) (show w.heap.size < w.heap.size + 2 by omega)).trans (at_cell HA0.out hi)
  have HCB : Hid (∀ {i : Nat} {x : Value}, (#[.int .i64 r2.kind, .string (tx r2.target), .int .u64 r2.rule, .slice B n2 c2, .int .u64 r2.out, .int .u64 r2.time, .string (tx r2.tag)] : Array Value)[i]? = some x → ∀ {W : World}, Below (w.heap.size + 2) ((w.alloc (.cells #[.int .i64 r1.kind, .string (tx r1.target), .int .u64 r1.rule, .slice A n1 c1, .int .u64 r1.out, .int .u64 r1.time, .string (tx r1.tag)] 25)).alloc (.cells #[.int .i64 r2.kind, .string (tx r2.target), .int .u64 r2.rule, .slice B n2 c2, .int .u64 r2.out, .int .u64 r2.time, .string (tx r2.tag)] 25)) W → W.cell? ⟨w.heap.size + 1, i, none⟩ = some x) := fun hi W hb => (hb.cell (p := ⟨w.heap.size + 1, _, none⟩) (show w.heap.size + 1 < w.heap.size + 2 by omega)).trans (at_cell HA1.out hi)
  have q0 := at_cell (i := 0) h00.1 rfl
  have q1 := at_cell (i := 1) h00.1 rfl
  have q2 := at_cell (i := 2) h00.1 rfl
  have q3 := at_cell (i := 3) h00.1 rfl
  have q4 := at_cell (i := 4) h00.1 rfl
  have q5 := at_cell (i := 5) h00.1 rfl
  have q6 := at_cell (i := 6) h00.1 rfl
  clear h00
  go_enter Try.func6, Try.ntmps6
  go_wp2_with (first
    | (go_at_call 8; have hk := HB4.out.size; refine (HFX.out _).mono ?_; rintro e w9 ⟨rfl, hb9⟩; have HB9 := Lib.hid (HB4.out.trans (hb9.mono HB4.out.size)); clear hb9)
    | (go_at_call 18; have hk := HB3.out.size; refine (HM1.out _ HB3.out).mono ?_; rintro e w4 ⟨rfl, hb4⟩; have HB4 := Lib.hid (HB3.out.trans (hb4.mono HB3.out.size)); have HS4 := Lib.hid (HS3.out.trans (hb4.mono HS3Z.out)); have HS4Z : Hid (w.heap.size + 2 ≤ w4.heap.size) := (Nat.le_trans HS3Z.out hb4.size); have f40 := HCB.out (i := 0) rfl HS4.out; have f41 := HCB.out (i := 1) rfl HS4.out; have f42 := HCB.out (i := 2) rfl HS4.out; have f43 := HCB.out (i := 3) rfl HS4.out; have f44 := HCB.out (i := 4) rfl HS4.out; have f45 := HCB.out (i := 5) rfl HS4.out; have f46 := HCB.out (i := 6) rfl HS4.out; clear hb4)
    | (go_at_call 7; have hk := HB2.out.size; refine (HG2.out _ HB2.out).mono ?_; rintro e w3 ⟨rfl, hb3⟩; have HB3 := Lib.hid (HB2.out.trans (hb3.mono HB2.out.size)); have HS3 := Lib.hid (HS2.out.trans (hb3.mono HS2Z.out)); have HS3Z : Hid (w.heap.size + 2 ≤ w3.heap.size) := (Nat.le_trans HS2Z.out hb3.size); have f30 := HCA.out (i := 0) rfl HS3.out; have f31 := HCA.out (i := 1) rfl HS3.out; have f32 := HCA.out (i := 2) rfl HS3.out; have f33 := HCA.out (i := 3) rfl HS3.out; have f34 := HCA.out (i := 4) rfl HS3.out; have f35 := HCA.out (i := 5) rfl HS3.out; have f36 := HCA.out (i := 6) rfl HS3.out; clear hb3)
    | (go_at_call 7; refine (HG1.out _ HB0.out).mono ?_; rintro e w2 ⟨rfl, hb2⟩; have HB2 := Lib.hid (HB0.out.trans (hb2.mono HB0.out.size)); have HS2 := Lib.hid (hb2.mono (Nat.le_of_eq HSZ.out.symm)); have HS2Z : Hid (w.heap.size + 2 ≤ w2.heap.size) := (by have h1 := hb2.size; rw [HSZ.out] at h1; exact h1); have f20 := HCB.out (i := 0) rfl HS2.out; have f21 := HCB.out (i := 1) rfl HS2.out; have f22 := HCB.out (i := 2) rfl HS2.out; have f23 := HCB.out (i := 3) rfl HS2.out; have f24 := HCB.out (i := 4) rfl HS2.out; have f25 := HCB.out (i := 5) rfl HS2.out; have f26 := HCB.out (i := 6) rfl HS2.out; clear hb2))
  go_ret
  exact ⟨rfl, HB9.out⟩

set_option maxRecDepth 100000 in
set_option maxHeartbeats 4000000 in
theorem mone_m2 (r1 r2 : Rc) (A B : Option Addr) (n1 n2 c1 c2 : Nat) (w : World)
    (HFX : Hid (∀ W, Calls Try.prog 8 #[] W fun e w' => e = .returned (.bool true) ∧ Below W.heap.size W w'))
    (HG1 : Hid (∀ W, Below w.heap.size w W → Calls Try.prog 7 #[.agg #[.int .i64 r1.kind, .string (tx r1.target), .int .u64 r1.rule, .slice A n1 c1, .int .u64 r1.out, .int .u64 r1.time, .string (tx r1.tag)]] W fun e w' => e = .returned (.bool false) ∧ Below W.heap.size W w'))
    (HG2 : Hid (∀ W, Below w.heap.size w W → Calls Try.prog 7 #[.agg #[.int .i64 r2.kind, .string (tx r2.target), .int .u64 r2.rule, .slice B n2 c2, .int .u64 r2.out, .int .u64 r2.time, .string (tx r2.tag)]] W fun e w' => e = .returned (.bool false) ∧ Below W.heap.size W w'))
    (HM1 : Hid (∀ W, Below w.heap.size w W → Calls Try.prog 18 #[.int .i64 1, .agg #[.int .i64 r1.kind, .string (tx r1.target), .int .u64 r1.rule, .slice A n1 c1, .int .u64 r1.out, .int .u64 r1.time, .string (tx r1.tag)]] W fun e w' => e = .returned (.bool true) ∧ Below W.heap.size W w'))
    (HM2 : Hid (∀ W, Below w.heap.size w W → Calls Try.prog 18 #[.int .i64 1, .agg #[.int .i64 r2.kind, .string (tx r2.target), .int .u64 r2.rule, .slice B n2 c2, .int .u64 r2.out, .int .u64 r2.time, .string (tx r2.tag)]] W fun e w' => e = .returned (.bool false) ∧ Below W.heap.size W w')) :
    Calls Try.prog 6 #[.agg #[.int .i64 r1.kind, .string (tx r1.target), .int .u64 r1.rule, .slice A n1 c1, .int .u64 r1.out, .int .u64 r1.time, .string (tx r1.tag)], .agg #[.int .i64 r2.kind, .string (tx r2.target), .int .u64 r2.rule, .slice B n2 c2, .int .u64 r2.out, .int .u64 r2.time, .string (tx r2.tag)]] w fun e w' => e = .returned (.bool true) ∧ Below w.heap.size w w' := by
  have h00 := two_new w (.cells #[.int .i64 r1.kind, .string (tx r1.target), .int .u64 r1.rule, .slice A n1 c1, .int .u64 r1.out, .int .u64 r1.time, .string (tx r1.tag)] 25) (.cells #[.int .i64 r2.kind, .string (tx r2.target), .int .u64 r2.rule, .slice B n2 c2, .int .u64 r2.out, .int .u64 r2.time, .string (tx r2.tag)] 25)
  have HA0 := Lib.hid h00.1
  have HA1 := Lib.hid h00.2.1
  have HSZ := Lib.hid h00.2.2
  have HB0 := Lib.hid (((Below.refl w.heap.size w).alloc (Nat.le_refl _) (.cells #[.int .i64 r1.kind, .string (tx r1.target), .int .u64 r1.rule, .slice A n1 c1, .int .u64 r1.out, .int .u64 r1.time, .string (tx r1.tag)] 25)).alloc (by simp) (.cells #[.int .i64 r2.kind, .string (tx r2.target), .int .u64 r2.rule, .slice B n2 c2, .int .u64 r2.out, .int .u64 r2.time, .string (tx r2.tag)] 25))
  have HCA : Hid (∀ {i : Nat} {x : Value}, (#[.int .i64 r1.kind, .string (tx r1.target), .int .u64 r1.rule, .slice A n1 c1, .int .u64 r1.out, .int .u64 r1.time, .string (tx r1.tag)] : Array Value)[i]? = some x → ∀ {W : World}, Below (w.heap.size + 2) ((w.alloc (.cells #[.int .i64 r1.kind, .string (tx r1.target), .int .u64 r1.rule, .slice A n1 c1, .int .u64 r1.out, .int .u64 r1.time, .string (tx r1.tag)] 25)).alloc (.cells #[.int .i64 r2.kind, .string (tx r2.target), .int .u64 r2.rule, .slice B n2 c2, .int .u64 r2.out, .int .u64 r2.time, .string (tx r2.tag)] 25)) W → W.cell? ⟨w.heap.size, i, none⟩ = some x) := fun hi W hb => (hb.cell (p := ⟨w.heap.size, _, none⟩) (show w.heap.size < w.heap.size + 2 by omega)).trans (at_cell HA0.out hi)
  have HCB : Hid (∀ {i : Nat} {x : Value}, (#[.int .i64 r2.kind, .string (tx r2.target), .int .u64 r2.rule, .slice B n2 c2, .int .u64 r2.out, .int .u64 r2.time, .string (tx r2.tag)] : Array Value)[i]? = some x → ∀ {W : World}, Below (w.heap.size + 2) ((w.alloc (.cells #[.int .i64 r1.kind, .string (tx r1.target), .int .u64 r1.rule, .slice A n1 c1, .int .u64 r1.out, .int .u64 r1.time, .string (tx r1.tag)] 25)).alloc (.cells #[.int .i64 r2.kind, .string (tx r2.target), .int .u64 r2.rule, .slice B n2 c2, .int .u64 r2.out, .int .u64 r2.time, .string (tx r2.tag)] 25)) W → W.cell? ⟨w.heap.size + 1, i, none⟩ = some x) := fun hi W hb => (hb.cell (p := ⟨w.heap.size + 1, _, none⟩) (show w.heap.size + 1 < w.heap.size + 2 by omega)).trans (at_cell HA1.out hi)
  have q0 := at_cell (i := 0) h00.1 rfl
  have q1 := at_cell (i := 1) h00.1 rfl
  have q2 := at_cell (i := 2) h00.1 rfl
  have q3 := at_cell (i := 3) h00.1 rfl
  have q4 := at_cell (i := 4) h00.1 rfl
  have q5 := at_cell (i := 5) h00.1 rfl
  have q6 := at_cell (i := 6) h00.1 rfl
  clear h00
  go_enter Try.func6, Try.ntmps6
  go_wp2_with (first
    | (go_at_call 8; have hk := HB5.out.size; refine (HFX.out _).mono ?_; rintro e w9 ⟨rfl, hb9⟩; have HB9 := Lib.hid (HB5.out.trans (hb9.mono HB5.out.size)); clear hb9)
    | (go_at_call 18; have hk := HB4.out.size; refine (HM2.out _ HB4.out).mono ?_; rintro e w5 ⟨rfl, hb5⟩; have HB5 := Lib.hid (HB4.out.trans (hb5.mono HB4.out.size)); have HS5 := Lib.hid (HS4.out.trans (hb5.mono HS4Z.out)); have HS5Z : Hid (w.heap.size + 2 ≤ w5.heap.size) := (Nat.le_trans HS4Z.out hb5.size); have f50 := HCA.out (i := 0) rfl HS5.out; have f51 := HCA.out (i := 1) rfl HS5.out; have f52 := HCA.out (i := 2) rfl HS5.out; have f53 := HCA.out (i := 3) rfl HS5.out; have f54 := HCA.out (i := 4) rfl HS5.out; have f55 := HCA.out (i := 5) rfl HS5.out; have f56 := HCA.out (i := 6) rfl HS5.out; clear hb5)
    | (go_at_call 18; have hk := HB3.out.size; refine (HM1.out _ HB3.out).mono ?_; rintro e w4 ⟨rfl, hb4⟩; have HB4 := Lib.hid (HB3.out.trans (hb4.mono HB3.out.size)); have HS4 := Lib.hid (HS3.out.trans (hb4.mono HS3Z.out)); have HS4Z : Hid (w.heap.size + 2 ≤ w4.heap.size) := (Nat.le_trans HS3Z.out hb4.size); have f40 := HCB.out (i := 0) rfl HS4.out; have f41 := HCB.out (i := 1) rfl HS4.out; have f42 := HCB.out (i := 2) rfl HS4.out; have f43 := HCB.out (i := 3) rfl HS4.out; have f44 := HCB.out (i := 4) rfl HS4.out; have f45 := HCB.out (i := 5) rfl HS4.out; have f46 := HCB.out (i := 6) rfl HS4.out; clear hb4)
    | (go_at_call 7; have hk := HB2.out.size; refine (HG2.out _ HB2.out).mono ?_; rintro e w3 ⟨rfl, hb3⟩; have HB3 := Lib.hid (HB2.out.trans (hb3.mono HB2.out.size)); have HS3 := Lib.hid (HS2.out.trans (hb3.mono HS2Z.out)); have HS3Z : Hid (w.heap.size + 2 ≤ w3.heap.size) := (Nat.le_trans HS2Z.out hb3.size); have f30 := HCA.out (i := 0) rfl HS3.out; have f31 := HCA.out (i := 1) rfl HS3.out; have f32 := HCA.out (i := 2) rfl HS3.out; have f33 := HCA.out (i := 3) rfl HS3.out; have f34 := HCA.out (i := 4) rfl HS3.out; have f35 := HCA.out (i := 5) rfl HS3.out; have f36 := HCA.out (i := 6) rfl HS3.out; clear hb3)
    | (go_at_call 7; refine (HG1.out _ HB0.out).mono ?_; rintro e w2 ⟨rfl, hb2⟩; have HB2 := Lib.hid (HB0.out.trans (hb2.mono HB0.out.size)); have HS2 := Lib.hid (hb2.mono (Nat.le_of_eq HSZ.out.symm)); have HS2Z : Hid (w.heap.size + 2 ≤ w2.heap.size) := (by have h1 := hb2.size; rw [HSZ.out] at h1; exact h1); have f20 := HCB.out (i := 0) rfl HS2.out; have f21 := HCB.out (i := 1) rfl HS2.out; have f22 := HCB.out (i := 2) rfl HS2.out; have f23 := HCB.out (i := 3) rfl HS2.out; have f24 := HCB.out (i := 4) rfl HS2.out; have f25 := HCB.out (i := 5) rfl HS2.out; have f26 := HCB.out (i := 6) rfl HS2.out; clear hb2))
  go_ret
  exact ⟨rfl, HB9.out⟩

end Go.Proofs.Yteombeomfjkikaa
