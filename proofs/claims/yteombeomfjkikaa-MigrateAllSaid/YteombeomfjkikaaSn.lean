/- What To answers; the document's Step and To, migrate.To and Step, at any arguments. -/
import Derived.Test.YteombeomfjkikaaSm
namespace Go.Proofs.Yteombeomfjkikaa
open Go.RowKit

def zeroR : Rc := ⟨0, [], 0, 0, 0, []⟩
/-- What To answers. -/
def Ans (v v2 : Int) (r : Rc) (l : List Dp) (R : Rc) (L : List Dp) (E : Int) : Prop :=
  (isWayB v v2 = false ∧ R = zeroR ∧ L = [] ∧ E = 11) ∨ (isWayB v v2 = true ∧ ¬ MayP v r l ∧ R = zeroR ∧ L = [] ∧ E = 1) ∨ (isWayB v v2 = true ∧ MayP v r l ∧ R = movedR v v2 r ∧ l = L ∧ E = 0)

theorem ans_is (v v2 : Int) (r : Rc) (l : List Dp) : ∃ R L E, Ans v v2 r l R L E := by
  by_cases h1 : isWayB v v2 = true
  · by_cases h2 : MayP v r l
    · exact ⟨_, _, _, .inr (.inr ⟨h1, h2, rfl, rfl, rfl⟩)⟩
    · exact ⟨_, _, _, .inr (.inl ⟨h1, h2, rfl, rfl, rfl⟩)⟩
  · exact ⟨_, _, _, .inl ⟨by simpa using h1, rfl, rfl, rfl⟩⟩

theorem zero_rcv : rcv zeroR none 0 0 = .agg #[.int .i64 0, .string { data := #[] }, .int .u64 0, .slice none 0 0, .int .u64 0, .int .u64 0, .string { data := #[] }] := rfl

theorem deps_none (w : World) (b : Nat) : Deps w b none 0 0 [] := ⟨World.ownsRow_nil _ _ _ _, fun _ => rfl⟩

theorem to_any (v v2 : Int) (r : Rc) (A : Option Addr) (n c : Nat) (l : List Dp) (hn : n ≤ 1000) (hA : A = none → c = 0) (hfit : Fits r l) {R : Rc} {L : List Dp} {E : Int} (h : Ans v v2 r l R L E) (w : World) (hr : Reads w w.heap.size 3 A n (dps l)) :
    Calls Try.prog 9 #[.int .i64 v, .int .i64 v2, rcv r A n c] w fun e w' => ∃ A' n' c', e = .returned (.tuple #[rcv R A' n' c', .int .i64 E]) ∧ n' ≤ n ∧ Deps w' w.heap.size A' n' c' L ∧ Below w.heap.size w w' := by
  rcases h with ⟨h1, rfl, rfl, rfl⟩ | ⟨h1, h2, rfl, rfl, rfl⟩ | ⟨h1, h2, rfl, rfl, rfl⟩
  · exact (to_way v v2 r.kind r.target r.tag r.rule r.out r.time A n c h1 w).mono fun e w' ⟨h3, h4⟩ => ⟨none, 0, 0, by rw [zero_rcv]; exact h3, by omega, deps_none _ _, h4⟩
  · exact (to_arg v v2 r.kind r.target r.tag r.rule r.out r.time A n c h1 w (fun W hb => (may_any v r A n c l hn hfit W ((hr.below hb).more hb.size)).mono fun e w' h => and_mono (b := false) (by simp [h2]) h)).mono fun e w' ⟨h3, h4⟩ => ⟨none, 0, 0, by rw [zero_rcv]; exact h3, by omega, deps_none _ _, h4⟩
  · exact ((to_pair v v2 h1 r A n c l hn hA hfit h2 w hr).out w (Below.refl _ w)).mono fun e w' ⟨A', c', h3, h4, h5⟩ => ⟨A', n, c', h3, Nat.le_refl _, h4, h5⟩

theorem moved_1 {r : Rc} (hk : r.kind = 1) : movedR 1 2 r = ⟨r.kind, r.target, r.rule, r.out, 1, r.tag⟩ := by
  unfold movedR
  rw [if_pos hk, if_pos (by omega), if_neg (by omega)]
theorem moved_2 {r : Rc} (hk : r.kind = 1) : movedR 2 3 r = ⟨r.kind, r.target, r.rule, r.out, r.time, [111, 108, 100]⟩ := by
  unfold movedR
  rw [if_pos hk, if_neg (by omega), if_pos (by omega)]

theorem moved_fit {v v2 : Int} {r : Rc} {l : List Dp} (h : Fits r l) : Fits (movedR v v2 r) l := by
  unfold movedR
  split
  · refine ⟨h.1, ?_, h.2.2⟩
    show (if v ≤ 2 ∧ 3 ≤ v2 then ([111, 108, 100] : List UInt8) else r.tag).length ≤ maxLen
    split
    · unfold maxLen; simp
    · exact h.2.1
  · exact h

/-- The document's Step. -/
theorem rstep_any (v : Int) (r : Rc) (A : Option Addr) (n c : Nat) (l : List Dp) (hn : n ≤ 1000) (hA : A = none → c = 0) (hfit : Fits r l) {R : Rc} {L : List Dp} {E : Int} (h : Ans v (v + 1) r l R L E) (w : World) (hr : Reads w w.heap.size 3 A n (dps l)) :
    Calls Try.prog 12 #[.int .i64 v, rcv r A n c] w fun e w' => ∃ A' n' c', e = .returned (.tuple #[rcv R A' n' c', .int .i64 E]) ∧ n' ≤ n ∧ (A' = none → c' = 0) ∧ Reads w' w'.heap.size 3 A' n' (dps L) ∧ (E = 0 → A' = A ∧ n' = n ∧ c' = c) ∧ Below w.heap.size w w' := by
  have hm : ∀ b : Bool, (b = true ↔ MayP v r l) → Hid (∀ W, Below w.heap.size w W → Calls Try.prog 18 #[.int .i64 v, rcv r A n c] W fun e w' => e = .returned (.bool b) ∧ Below W.heap.size W w') := fun b hb W hbl => (rmay_any v r A n c l hn hfit W ((hr.below hbl).more hbl.size)).mono fun e w' h => and_mono hb h
  have no : ∀ {e : Ending} {w' : World} {E : Int}, E ≠ 0 → (e = .returned (.tuple #[.agg #[.int .i64 0, .string { data := #[] }, .int .u64 0, .slice none 0 0, .int .u64 0, .int .u64 0, .string { data := #[] }], .int .i64 E]) ∧ Below w.heap.size w w') → ∃ A' n' c', e = .returned (.tuple #[rcv zeroR A' n' c', .int .i64 E]) ∧ n' ≤ n ∧ (A' = none → c' = 0) ∧ Reads w' w'.heap.size 3 A' n' (dps []) ∧ (E = 0 → A' = A ∧ n' = n ∧ c' = c) ∧ Below w.heap.size w w' := fun hE ⟨h3, h4⟩ => ⟨none, 0, 0, by rw [zero_rcv]; exact h3, by omega, fun _ => rfl, Reads.none_, fun h => absurd h hE, h4⟩
  have yes : ∀ {e : Ending} {w' : World} {s : Rc}, (e = .returned (.tuple #[rcv s A n c, .int .i64 0]) ∧ Below w.heap.size w w') → ∃ A' n' c', e = .returned (.tuple #[rcv s A' n' c', .int .i64 0]) ∧ n' ≤ n ∧ (A' = none → c' = 0) ∧ Reads w' w'.heap.size 3 A' n' (dps l) ∧ ((0 : Int) = 0 → A' = A ∧ n' = n ∧ c' = c) ∧ Below w.heap.size w w' := fun ⟨h3, h4⟩ => ⟨A, n, c, h3, Nat.le_refl _, hA, (hr.below h4).more h4.size, fun _ => ⟨rfl, rfl, rfl⟩, h4⟩
  rcases h with ⟨h1, rfl, rfl, rfl⟩ | ⟨h1, h2, rfl, rfl, rfl⟩ | ⟨h1, h2, rfl, rfl, rfl⟩
  · have hv : v ≠ 1 ∧ v ≠ 2 := by have := of_decide_eq_false h1; omega
    exact (rstep_way v r.kind r.target r.tag r.rule r.out r.time A n c hv w).mono fun e w' h => no (by omega) h
  · have hv : v = 1 ∨ v = 2 := by have := of_decide_eq_true h1; omega
    rcases hv with rfl | rfl
    · exact (rstep_arg1 r.kind r.target r.tag r.rule r.out r.time A n c w (hm false (by simp [h2]))).mono fun e w' h => no (by omega) h
    · exact (rstep_arg2 r.kind r.target r.tag r.rule r.out r.time A n c w (hm false (by simp [h2]))).mono fun e w' h => no (by omega) h
  · have hv : v = 1 ∨ v = 2 := by have := of_decide_eq_true h1; omega
    obtain ⟨k, t, u, o, m, g⟩ := r
    by_cases hk : k = 1
    · subst hk
      rcases hv with rfl | rfl
      · rw [show (1 : Int) + 1 = 2 from rfl, moved_1 rfl]
        exact (rstep_trace1 t g u o m A n c w (hm true (by simp [h2]))).mono fun e w' h => yes h
      · rw [show (2 : Int) + 1 = 3 from rfl, moved_2 rfl]
        exact (rstep_trace2 t g u o m A n c w (hm true (by simp [h2]))).mono fun e w' h => yes h
    · rw [movedR_gone (by exact hk)]
      rcases hv with rfl | rfl
      · exact (rstep_gone1 k t g u o m A n c hk w (hm true (by simp [h2]))).mono fun e w' h => yes h
      · exact (rstep_gone2 k t g u o m A n c hk w (hm true (by simp [h2]))).mono fun e w' h => yes h

set_option maxRecDepth 100000 in
set_option maxHeartbeats 1000000 in
theorem rto_way0 (v v2 k : Int) (t g : List UInt8) (u o m : Int) (A : Option Addr) (n c : Nat) (hv : v < 1) (w : World) :
    Calls Try.prog 10 #[.int .i64 v, .int .i64 v2, .agg #[.int .i64 k, .string (tx t), .int .u64 u, .slice A n c, .int .u64 o, .int .u64 m, .string (tx g)]] w fun e w' => e = .returned (.tuple #[.agg #[.int .i64 0, .string { data := #[] }, .int .u64 0, .slice none 0 0, .int .u64 0, .int .u64 0, .string { data := #[] }], .int .i64 11]) ∧ Below w.heap.size w w' := by
  have h00 := two_new w (.cells #[.int .i64 k, .string (tx t), .int .u64 u, .slice A n c, .int .u64 o, .int .u64 m, .string (tx g)] 25) (.cells #[.int .i64 0, .string { data := #[] }, .int .u64 0, .slice none 0 0, .int .u64 0, .int .u64 0, .string { data := #[] }] 25)
  have HA0 := Lib.hid h00.1
  have HA1 := Lib.hid h00.2.1
  have HSZ := Lib.hid h00.2.2
  have HB0 := Lib.hid (((Below.refl w.heap.size w).alloc (Nat.le_refl _) (.cells #[.int .i64 k, .string (tx t), .int .u64 u, .slice A n c, .int .u64 o, .int .u64 m, .string (tx g)] 25)).alloc (by simp) (.cells #[.int .i64 0, .string { data := #[] }, .int .u64 0, .slice none 0 0, .int .u64 0, .int .u64 0, .string { data := #[] }] 25))
  have q0 := at_cell (i := 0) h00.1 rfl
  have q1 := at_cell (i := 1) h00.1 rfl
  have q2 := at_cell (i := 2) h00.1 rfl
  have q3 := at_cell (i := 3) h00.1 rfl
  have q4 := at_cell (i := 4) h00.1 rfl
  have q5 := at_cell (i := 5) h00.1 rfl
  have q6 := at_cell (i := 6) h00.1 rfl
  clear h00
  have d1 : decide (v < 1) = true := decide_eq_true hv
  clear hv
  go_enter Try.func10, Try.ntmps10
  go_wp2_with fail
  refine bodyPost_ret (results_cell_tmp_row rfl _ _ _ _ _ _ _ rfl HA1.out Try.underlying25 rfl (by kernel_rfl)) rfl ?_
  exact ⟨rfl, HB0.out⟩

set_option maxRecDepth 100000 in
set_option maxHeartbeats 1000000 in
theorem rto_way1 (v v2 k : Int) (t g : List UInt8) (u o m : Int) (A : Option Addr) (n c : Nat) (hv : 1 ≤ v ∧ 3 < v2) (w : World) :
    Calls Try.prog 10 #[.int .i64 v, .int .i64 v2, .agg #[.int .i64 k, .string (tx t), .int .u64 u, .slice A n c, .int .u64 o, .int .u64 m, .string (tx g)]] w fun e w' => e = .returned (.tuple #[.agg #[.int .i64 0, .string { data := #[] }, .int .u64 0, .slice none 0 0, .int .u64 0, .int .u64 0, .string { data := #[] }], .int .i64 11]) ∧ Below w.heap.size w w' := by
  have h00 := two_new w (.cells #[.int .i64 k, .string (tx t), .int .u64 u, .slice A n c, .int .u64 o, .int .u64 m, .string (tx g)] 25) (.cells #[.int .i64 0, .string { data := #[] }, .int .u64 0, .slice none 0 0, .int .u64 0, .int .u64 0, .string { data := #[] }] 25)
  have HA0 := Lib.hid h00.1
  have HA1 := Lib.hid h00.2.1
  have HSZ := Lib.hid h00.2.2
  have HB0 := Lib.hid (((Below.refl w.heap.size w).alloc (Nat.le_refl _) (.cells #[.int .i64 k, .string (tx t), .int .u64 u, .slice A n c, .int .u64 o, .int .u64 m, .string (tx g)] 25)).alloc (by simp) (.cells #[.int .i64 0, .string { data := #[] }, .int .u64 0, .slice none 0 0, .int .u64 0, .int .u64 0, .string { data := #[] }] 25))
  have q0 := at_cell (i := 0) h00.1 rfl
  have q1 := at_cell (i := 1) h00.1 rfl
  have q2 := at_cell (i := 2) h00.1 rfl
  have q3 := at_cell (i := 3) h00.1 rfl
  have q4 := at_cell (i := 4) h00.1 rfl
  have q5 := at_cell (i := 5) h00.1 rfl
  have q6 := at_cell (i := 6) h00.1 rfl
  clear h00
  have d1 : decide (v < 1) = false := decide_eq_false (by omega)
  have d2 : decide (v2 > 3) = true := decide_eq_true (by omega)
  clear hv
  go_enter Try.func10, Try.ntmps10
  go_wp2_with fail
  refine bodyPost_ret (results_cell_tmp_row rfl _ _ _ _ _ _ _ rfl HA1.out Try.underlying25 rfl (by kernel_rfl)) rfl ?_
  exact ⟨rfl, HB0.out⟩

set_option maxRecDepth 100000 in
set_option maxHeartbeats 1000000 in
theorem rto_way2 (v v2 k : Int) (t g : List UInt8) (u o m : Int) (A : Option Addr) (n c : Nat) (hv : 1 ≤ v ∧ v2 ≤ 3 ∧ v2 < v) (w : World) :
    Calls Try.prog 10 #[.int .i64 v, .int .i64 v2, .agg #[.int .i64 k, .string (tx t), .int .u64 u, .slice A n c, .int .u64 o, .int .u64 m, .string (tx g)]] w fun e w' => e = .returned (.tuple #[.agg #[.int .i64 0, .string { data := #[] }, .int .u64 0, .slice none 0 0, .int .u64 0, .int .u64 0, .string { data := #[] }], .int .i64 11]) ∧ Below w.heap.size w w' := by
  have h00 := two_new w (.cells #[.int .i64 k, .string (tx t), .int .u64 u, .slice A n c, .int .u64 o, .int .u64 m, .string (tx g)] 25) (.cells #[.int .i64 0, .string { data := #[] }, .int .u64 0, .slice none 0 0, .int .u64 0, .int .u64 0, .string { data := #[] }] 25)
  have HA0 := Lib.hid h00.1
  have HA1 := Lib.hid h00.2.1
  have HSZ := Lib.hid h00.2.2
  have HB0 := Lib.hid (((Below.refl w.heap.size w).alloc (Nat.le_refl _) (.cells #[.int .i64 k, .string (tx t), .int .u64 u, .slice A n c, .int .u64 o, .int .u64 m, .string (tx g)] 25)).alloc (by simp) (.cells #[.int .i64 0, .string { data := #[] }, .int .u64 0, .slice none 0 0, .int .u64 0, .int .u64 0, .string { data := #[] }] 25))
  have q0 := at_cell (i := 0) h00.1 rfl
  have q1 := at_cell (i := 1) h00.1 rfl
  have q2 := at_cell (i := 2) h00.1 rfl
  have q3 := at_cell (i := 3) h00.1 rfl
  have q4 := at_cell (i := 4) h00.1 rfl
  have q5 := at_cell (i := 5) h00.1 rfl
  have q6 := at_cell (i := 6) h00.1 rfl
  clear h00
  have d1 : decide (v < 1) = false := decide_eq_false (by omega)
  have d2 : decide (v2 > 3) = false := decide_eq_false (by omega)
  have d3 : decide (v > v2) = true := decide_eq_true (by omega)
  clear hv
  go_enter Try.func10, Try.ntmps10
  go_wp2_with fail
  refine bodyPost_ret (results_cell_tmp_row rfl _ _ _ _ _ _ _ rfl HA1.out Try.underlying25 rfl (by kernel_rfl)) rfl ?_
  exact ⟨rfl, HB0.out⟩

set_option maxRecDepth 100000 in
set_option maxHeartbeats 1000000 in
theorem rto_arg (v v2 k : Int) (t g : List UInt8) (u o m : Int) (A : Option Addr) (n c : Nat) (hw : 1 ≤ v ∧ v ≤ v2 ∧ v2 ≤ 3) (w : World)
    (HM : Hid (∀ W, Below w.heap.size w W → Calls Try.prog 18 #[.int .i64 v, .agg #[.int .i64 k, .string (tx t), .int .u64 u, .slice A n c, .int .u64 o, .int .u64 m, .string (tx g)]] W fun e w' => e = .returned (.bool false) ∧ Below W.heap.size W w')) :
    Calls Try.prog 10 #[.int .i64 v, .int .i64 v2, .agg #[.int .i64 k, .string (tx t), .int .u64 u, .slice A n c, .int .u64 o, .int .u64 m, .string (tx g)]] w fun e w' => e = .returned (.tuple #[.agg #[.int .i64 0, .string { data := #[] }, .int .u64 0, .slice none 0 0, .int .u64 0, .int .u64 0, .string { data := #[] }], .int .i64 1]) ∧ Below w.heap.size w w' := by
  have h00 := two_new w (.cells #[.int .i64 k, .string (tx t), .int .u64 u, .slice A n c, .int .u64 o, .int .u64 m, .string (tx g)] 25) (.cells #[.int .i64 0, .string { data := #[] }, .int .u64 0, .slice none 0 0, .int .u64 0, .int .u64 0, .string { data := #[] }] 25)
  have HA0 := Lib.hid h00.1
  have HA1 := Lib.hid h00.2.1
  have HSZ := Lib.hid h00.2.2
  have HB0 := Lib.hid (((Below.refl w.heap.size w).alloc (Nat.le_refl _) (.cells #[.int .i64 k, .string (tx t), .int .u64 u, .slice A n c, .int .u64 o, .int .u64 m, .string (tx g)] 25)).alloc (by simp) (.cells #[.int .i64 0, .string { data := #[] }, .int .u64 0, .slice none 0 0, .int .u64 0, .int .u64 0, .string { data := #[] }] 25))
  have q0 := at_cell (i := 0) h00.1 rfl
  have q1 := at_cell (i := 1) h00.1 rfl
  have q2 := at_cell (i := 2) h00.1 rfl
  have q3 := at_cell (i := 3) h00.1 rfl
  have q4 := at_cell (i := 4) h00.1 rfl
  have q5 := at_cell (i := 5) h00.1 rfl
  have q6 := at_cell (i := 6) h00.1 rfl
  clear h00
  have d1 : decide (v < 1) = false := decide_eq_false (by omega)
  have d2 : decide (v2 > 3) = false := decide_eq_false (by omega)
  have d3 : decide (v > v2) = false := decide_eq_false (by omega)
  clear hw
  go_enter Try.func10, Try.ntmps10
  go_wp2_with (go_at_call 18; refine (HM.out _ HB0.out).mono ?_; rintro e w2 ⟨rfl, hb2⟩; have hbx := (hb2.block w.heap.size (by rw [HSZ.out]; omega)).trans HA0.out; have hbz := (hb2.block (w.heap.size + 1) (by rw [HSZ.out]; omega)).trans HA1.out; have r0 := at_cell (i := 0) hbx rfl; have f0 := at_frozen (i := 0) hbx; have j0 := at_cell (i := 0) hbz rfl; have x0 := at_frozen (i := 0) hbz; have r1 := at_cell (i := 1) hbx rfl; have f1 := at_frozen (i := 1) hbx; have j1 := at_cell (i := 1) hbz rfl; have x1 := at_frozen (i := 1) hbz; have r2 := at_cell (i := 2) hbx rfl; have f2 := at_frozen (i := 2) hbx; have j2 := at_cell (i := 2) hbz rfl; have x2 := at_frozen (i := 2) hbz; have r3 := at_cell (i := 3) hbx rfl; have f3 := at_frozen (i := 3) hbx; have j3 := at_cell (i := 3) hbz rfl; have x3 := at_frozen (i := 3) hbz; have r4 := at_cell (i := 4) hbx rfl; have f4 := at_frozen (i := 4) hbx; have j4 := at_cell (i := 4) hbz rfl; have x4 := at_frozen (i := 4) hbz; have r5 := at_cell (i := 5) hbx rfl; have f5 := at_frozen (i := 5) hbx; have j5 := at_cell (i := 5) hbz rfl; have x5 := at_frozen (i := 5) hbz; have r6 := at_cell (i := 6) hbx rfl; have f6 := at_frozen (i := 6) hbx; have j6 := at_cell (i := 6) hbz rfl; have x6 := at_frozen (i := 6) hbz; have HBX := Lib.hid hbx; have HBZ := Lib.hid hbz; have HB2 := Lib.hid (HB0.out.trans (hb2.mono HB0.out.size)); have HZ2 : Hid (w.heap.size + 2 ≤ w2.heap.size) := (by have h1 := hb2.size; rw [HSZ.out] at h1; exact h1); clear hbx hbz hb2)
  have hfin := (set_same (set_same (set_same (set_same (set_same (set_same (set_same HBZ.out 0 (.int .i64 0)) 1 (.string { data := #[] })) 2 (.int .u64 0)) 3 (.slice none 0 0)) 4 (.int .u64 0)) 5 (.int .u64 0)) 6 (.string { data := #[] }))
  have hbb := (Below.setCell (Below.setCell (Below.setCell (Below.setCell (Below.setCell (Below.setCell (Below.setCell HB2.out (p := ⟨w.heap.size + 1, 0, none⟩) (show w.heap.size ≤ w.heap.size + 1 by omega) (.int .i64 0)) (p := ⟨w.heap.size + 1, 1, none⟩) (show w.heap.size ≤ w.heap.size + 1 by omega) (.string { data := #[] })) (p := ⟨w.heap.size + 1, 2, none⟩) (show w.heap.size ≤ w.heap.size + 1 by omega) (.int .u64 0)) (p := ⟨w.heap.size + 1, 3, none⟩) (show w.heap.size ≤ w.heap.size + 1 by omega) (.slice none 0 0)) (p := ⟨w.heap.size + 1, 4, none⟩) (show w.heap.size ≤ w.heap.size + 1 by omega) (.int .u64 0)) (p := ⟨w.heap.size + 1, 5, none⟩) (show w.heap.size ≤ w.heap.size + 1 by omega) (.int .u64 0)) (p := ⟨w.heap.size + 1, 6, none⟩) (show w.heap.size ≤ w.heap.size + 1 by omega) (.string { data := #[] }))
  refine bodyPost_ret (results_cell_tmp_row rfl _ _ _ _ _ _ _ rfl hfin Try.underlying25 rfl (by kernel_rfl)) rfl ?_
  exact ⟨rfl, hbb⟩

/-- What stands at a round of the document's To. -/
def ToRel (v v2 : Int) (r : Rc) (A : Option Addr) (n c : Nat) (w : World) (idx : Value) (wr : World) : Prop :=
  ∃ (q : Int) (s : Rc), v ≤ q ∧ q ≤ v2 ∧ idx = .int .i64 q ∧ s = movedR v q r ∧ wr.heap[w.heap.size]? = some (.cells #[.int .i64 s.kind, .string (tx s.target), .int .u64 s.rule, .slice A n c, .int .u64 s.out, .int .u64 s.time, .string (tx s.tag)] 25 (0, 0)) ∧ wr.heap[w.heap.size + 1]? = some (.cells #[.int .i64 0, .string { data := #[] }, .int .u64 0, .slice none 0 0, .int .u64 0, .int .u64 0, .string { data := #[] }] 25 (0, 0)) ∧ Below w.heap.size w wr

set_option maxRecDepth 100000 in
set_option maxHeartbeats 2000000 in
theorem rto_ok (v v2 : Int) (r : Rc) (A : Option Addr) (n c : Nat) (hw : 1 ≤ v ∧ v ≤ v2 ∧ v2 ≤ 3) (w : World)
    (HM : Hid (∀ W, Below w.heap.size w W → Calls Try.prog 18 #[.int .i64 v, .agg #[.int .i64 r.kind, .string (tx r.target), .int .u64 r.rule, .slice A n c, .int .u64 r.out, .int .u64 r.time, .string (tx r.tag)]] W fun e w' => e = .returned (.bool true) ∧ Below W.heap.size W w'))
    (HST : Hid (∀ (q : Int) (s : Rc) (W : World), v ≤ q → q < v2 → s = movedR v q r → Below w.heap.size w W → Calls Try.prog 12 #[.int .i64 q, .agg #[.int .i64 s.kind, .string (tx s.target), .int .u64 s.rule, .slice A n c, .int .u64 s.out, .int .u64 s.time, .string (tx s.tag)]] W fun e w' => ∃ s2 : Rc, s2 = movedR v (q + 1) r ∧ e = .returned (.tuple #[.agg #[.int .i64 s2.kind, .string (tx s2.target), .int .u64 s2.rule, .slice A n c, .int .u64 s2.out, .int .u64 s2.time, .string (tx s2.tag)], .int .i64 0]) ∧ Below W.heap.size W w')) :
    Calls Try.prog 10 #[.int .i64 v, .int .i64 v2, .agg #[.int .i64 r.kind, .string (tx r.target), .int .u64 r.rule, .slice A n c, .int .u64 r.out, .int .u64 r.time, .string (tx r.tag)]] w fun e w' => e = .returned (.tuple #[rcv (movedR v v2 r) A n c, .int .i64 0]) ∧ Below w.heap.size w w' := by
  have h00 := two_new w (.cells #[.int .i64 r.kind, .string (tx r.target), .int .u64 r.rule, .slice A n c, .int .u64 r.out, .int .u64 r.time, .string (tx r.tag)] 25) (.cells #[.int .i64 0, .string { data := #[] }, .int .u64 0, .slice none 0 0, .int .u64 0, .int .u64 0, .string { data := #[] }] 25)
  have HA0 := Lib.hid h00.1
  have HA1 := Lib.hid h00.2.1
  have HSZ := Lib.hid h00.2.2
  have HB0 := Lib.hid (((Below.refl w.heap.size w).alloc (Nat.le_refl _) (.cells #[.int .i64 r.kind, .string (tx r.target), .int .u64 r.rule, .slice A n c, .int .u64 r.out, .int .u64 r.time, .string (tx r.tag)] 25)).alloc (by simp) (.cells #[.int .i64 0, .string { data := #[] }, .int .u64 0, .slice none 0 0, .int .u64 0, .int .u64 0, .string { data := #[] }] 25))
  have q0 := at_cell (i := 0) h00.1 rfl
  have q1 := at_cell (i := 1) h00.1 rfl
  have q2 := at_cell (i := 2) h00.1 rfl
  have q3 := at_cell (i := 3) h00.1 rfl
  have q4 := at_cell (i := 4) h00.1 rfl
  have q5 := at_cell (i := 5) h00.1 rfl
  have q6 := at_cell (i := 6) h00.1 rfl
  clear h00
  have d1 : decide (v < 1) = false := decide_eq_false (by omega)
  have d2 : decide (v2 > 3) = false := decide_eq_false (by omega)
  have d3 : decide (v > v2) = false := decide_eq_false (by omega)
  have HW := Lib.hid hw
  clear hw
  go_enter Try.func10, Try.ntmps10
  go_wp2_with (go_at_call 18; refine (HM.out _ HB0.out).mono ?_; rintro e w2 ⟨rfl, hb2⟩; have hbx := (hb2.block w.heap.size (by rw [HSZ.out]; omega)).trans HA0.out; have hbz := (hb2.block (w.heap.size + 1) (by rw [HSZ.out]; omega)).trans HA1.out; have r0 := at_cell (i := 0) hbx rfl; have f0 := at_frozen (i := 0) hbx; have j0 := at_cell (i := 0) hbz rfl; have x0 := at_frozen (i := 0) hbz; have r1 := at_cell (i := 1) hbx rfl; have f1 := at_frozen (i := 1) hbx; have j1 := at_cell (i := 1) hbz rfl; have x1 := at_frozen (i := 1) hbz; have r2 := at_cell (i := 2) hbx rfl; have f2 := at_frozen (i := 2) hbx; have j2 := at_cell (i := 2) hbz rfl; have x2 := at_frozen (i := 2) hbz; have r3 := at_cell (i := 3) hbx rfl; have f3 := at_frozen (i := 3) hbx; have j3 := at_cell (i := 3) hbz rfl; have x3 := at_frozen (i := 3) hbz; have r4 := at_cell (i := 4) hbx rfl; have f4 := at_frozen (i := 4) hbx; have j4 := at_cell (i := 4) hbz rfl; have x4 := at_frozen (i := 4) hbz; have r5 := at_cell (i := 5) hbx rfl; have f5 := at_frozen (i := 5) hbx; have j5 := at_cell (i := 5) hbz rfl; have x5 := at_frozen (i := 5) hbz; have r6 := at_cell (i := 6) hbx rfl; have f6 := at_frozen (i := 6) hbx; have j6 := at_cell (i := 6) hbz rfl; have x6 := at_frozen (i := 6) hbz; have HBX := Lib.hid hbx; have HBZ := Lib.hid hbz; have HB2 := Lib.hid (HB0.out.trans (hb2.mono HB0.out.size)); have HZ2 : Hid (w.heap.size + 2 ≤ w2.heap.size) := (by have h1 := hb2.size; rw [HSZ.out] at h1; exact h1); clear hbx hbz hb2)
  go_loopw [8] (fun idx wr => ToRel v v2 r A n c w idx wr) (fun idx wr => (v2 - intOf idx).toNat)
  case atStart => exact ⟨v, r, by omega, HW.out.2.1, rfl, moved_none.symm, HBX.out, HBZ.out, HB2.out⟩
  case round =>
    obtain ⟨q, s, hq1, hq2, rfl, hs, hbx, hbz, hb⟩ := hrel
    have k0 := at_cell (i := 0) hbx rfl
    have g0 := at_frozen (i := 0) hbx
    have l0 := at_cell (i := 0) hbz rfl
    have m0 := at_frozen (i := 0) hbz
    have k1 := at_cell (i := 1) hbx rfl
    have g1 := at_frozen (i := 1) hbx
    have l1 := at_cell (i := 1) hbz rfl
    have m1 := at_frozen (i := 1) hbz
    have k2 := at_cell (i := 2) hbx rfl
    have g2 := at_frozen (i := 2) hbx
    have l2 := at_cell (i := 2) hbz rfl
    have m2 := at_frozen (i := 2) hbz
    have k3 := at_cell (i := 3) hbx rfl
    have g3 := at_frozen (i := 3) hbx
    have l3 := at_cell (i := 3) hbz rfl
    have m3 := at_frozen (i := 3) hbz
    have k4 := at_cell (i := 4) hbx rfl
    have g4 := at_frozen (i := 4) hbx
    have l4 := at_cell (i := 4) hbz rfl
    have m4 := at_frozen (i := 4) hbz
    have k5 := at_cell (i := 5) hbx rfl
    have g5 := at_frozen (i := 5) hbx
    have l5 := at_cell (i := 5) hbz rfl
    have m5 := at_frozen (i := 5) hbz
    have k6 := at_cell (i := 6) hbx rfl
    have g6 := at_frozen (i := 6) hbx
    have l6 := at_cell (i := 6) hbz rfl
    have m6 := at_frozen (i := 6) hbz
    have HS := Lib.hid hs
    have HXR := Lib.hid hbx
    have HZR := Lib.hid hbz
    have HBR := Lib.hid hb
    have hzr : w.heap.size + 2 ≤ wr.heap.size := by
      rcases Nat.lt_or_ge (w.heap.size + 1) wr.heap.size with h | h
      · exact h
      · rw [Array.getElem?_eq_none h] at hbz; cases hbz
    have HZRZ := Lib.hid hzr
    clear hs hbx hbz hb hzr
    by_cases hlt : q < v2
    · have d4 : decide (q < v2) = true := decide_eq_true hlt
      have HQ1 := Lib.hid hq1
      have HLT := Lib.hid hlt
      have HQ3 : Hid (q + 1 ≤ 3) := by have := HW.out; show _ ≤ _; omega
      have hq4 : -9223372036854775808 ≤ q + 1 ∧ q + 1 ≤ 9223372036854775807 := by have := HW.out; have := HQ3.out; omega
      clear hq2
      go_wp2_with (go_at_call 12; have hk := HBR.out.size; refine (HST.out q s _ HQ1.out HLT.out HS.out HBR.out).mono ?_; rintro e w3 ⟨s2, hs2, rfl, hb3⟩; have hx3 := (hb3.block w.heap.size (by have := HZRZ.out; omega)).trans HXR.out; have hz3 := (hb3.block (w.heap.size + 1) (by have := HZRZ.out; omega)).trans HZR.out; have o0 := at_cell (i := 0) hx3 rfl; have e0 := at_frozen (i := 0) hx3; have o1 := at_cell (i := 1) hx3 rfl; have e1 := at_frozen (i := 1) hx3; have o2 := at_cell (i := 2) hx3 rfl; have e2 := at_frozen (i := 2) hx3; have o3 := at_cell (i := 3) hx3 rfl; have e3 := at_frozen (i := 3) hx3; have o4 := at_cell (i := 4) hx3 rfl; have e4 := at_frozen (i := 4) hx3; have o5 := at_cell (i := 5) hx3 rfl; have e5 := at_frozen (i := 5) hx3; have o6 := at_cell (i := 6) hx3 rfl; have e6 := at_frozen (i := 6) hx3; have HX3 := Lib.hid hx3; have HZ3 := Lib.hid hz3; have HB3 := Lib.hid (HBR.out.trans (hb3.mono HBR.out.size)); have HS2 := Lib.hid hs2; clear hx3 hz3 hb3 hs2)
      exact ⟨⟨q + 1, s2, by omega, by omega, by go_num, HS2.out, (set_same (set_same (set_same (set_same (set_same (set_same (set_same HX3.out 0 (.int .i64 s2.kind)) 1 (.string (tx s2.target))) 2 (.int .u64 s2.rule)) 3 (.slice A n c)) 4 (.int .u64 s2.out)) 5 (.int .u64 s2.time)) 6 (.string (tx s2.tag))), ((Below.heap_setCell ((((((w3.setCell ⟨w.heap.size, 0, none⟩ (.int .i64 s2.kind)).setCell ⟨w.heap.size, 1, none⟩ (.string (tx s2.target))).setCell ⟨w.heap.size, 2, none⟩ (.int .u64 s2.rule)).setCell ⟨w.heap.size, 3, none⟩ (.slice A n c)).setCell ⟨w.heap.size, 4, none⟩ (.int .u64 s2.out)).setCell ⟨w.heap.size, 5, none⟩ (.int .u64 s2.time)) ⟨w.heap.size, 6, none⟩ (.string (tx s2.tag)) (w.heap.size + 1) (by show w.heap.size + 1 ≠ w.heap.size; omega)).trans ((Below.heap_setCell (((((w3.setCell ⟨w.heap.size, 0, none⟩ (.int .i64 s2.kind)).setCell ⟨w.heap.size, 1, none⟩ (.string (tx s2.target))).setCell ⟨w.heap.size, 2, none⟩ (.int .u64 s2.rule)).setCell ⟨w.heap.size, 3, none⟩ (.slice A n c)).setCell ⟨w.heap.size, 4, none⟩ (.int .u64 s2.out)) ⟨w.heap.size, 5, none⟩ (.int .u64 s2.time) (w.heap.size + 1) (by show w.heap.size + 1 ≠ w.heap.size; omega)).trans ((Below.heap_setCell ((((w3.setCell ⟨w.heap.size, 0, none⟩ (.int .i64 s2.kind)).setCell ⟨w.heap.size, 1, none⟩ (.string (tx s2.target))).setCell ⟨w.heap.size, 2, none⟩ (.int .u64 s2.rule)).setCell ⟨w.heap.size, 3, none⟩ (.slice A n c)) ⟨w.heap.size, 4, none⟩ (.int .u64 s2.out) (w.heap.size + 1) (by show w.heap.size + 1 ≠ w.heap.size; omega)).trans ((Below.heap_setCell (((w3.setCell ⟨w.heap.size, 0, none⟩ (.int .i64 s2.kind)).setCell ⟨w.heap.size, 1, none⟩ (.string (tx s2.target))).setCell ⟨w.heap.size, 2, none⟩ (.int .u64 s2.rule)) ⟨w.heap.size, 3, none⟩ (.slice A n c) (w.heap.size + 1) (by show w.heap.size + 1 ≠ w.heap.size; omega)).trans ((Below.heap_setCell ((w3.setCell ⟨w.heap.size, 0, none⟩ (.int .i64 s2.kind)).setCell ⟨w.heap.size, 1, none⟩ (.string (tx s2.target))) ⟨w.heap.size, 2, none⟩ (.int .u64 s2.rule) (w.heap.size + 1) (by show w.heap.size + 1 ≠ w.heap.size; omega)).trans ((Below.heap_setCell (w3.setCell ⟨w.heap.size, 0, none⟩ (.int .i64 s2.kind)) ⟨w.heap.size, 1, none⟩ (.string (tx s2.target)) (w.heap.size + 1) (by show w.heap.size + 1 ≠ w.heap.size; omega)).trans ((Below.heap_setCell w3 ⟨w.heap.size, 0, none⟩ (.int .i64 s2.kind) (w.heap.size + 1) (by show w.heap.size + 1 ≠ w.heap.size; omega)).trans HZ3.out))))))), (Below.setCell (Below.setCell (Below.setCell (Below.setCell (Below.setCell (Below.setCell (Below.setCell HB3.out (p := ⟨w.heap.size, 0, none⟩) (show w.heap.size ≤ w.heap.size by omega) (.int .i64 s2.kind)) (p := ⟨w.heap.size, 1, none⟩) (show w.heap.size ≤ w.heap.size by omega) (.string (tx s2.target))) (p := ⟨w.heap.size, 2, none⟩) (show w.heap.size ≤ w.heap.size by omega) (.int .u64 s2.rule)) (p := ⟨w.heap.size, 3, none⟩) (show w.heap.size ≤ w.heap.size by omega) (.slice A n c)) (p := ⟨w.heap.size, 4, none⟩) (show w.heap.size ≤ w.heap.size by omega) (.int .u64 s2.out)) (p := ⟨w.heap.size, 5, none⟩) (show w.heap.size ≤ w.heap.size by omega) (.int .u64 s2.time)) (p := ⟨w.heap.size, 6, none⟩) (show w.heap.size ≤ w.heap.size by omega) (.string (tx s2.tag)))⟩, by simp [intOf]; omega⟩
    · have d4 : decide (q < v2) = false := decide_eq_false hlt
      obtain rfl : q = v2 := by omega
      go_wp2
      have hfin := (set_same (set_same (set_same (set_same (set_same (set_same (set_same HZR.out 0 (.int .i64 s.kind)) 1 (.string (tx s.target))) 2 (.int .u64 s.rule)) 3 (.slice A n c)) 4 (.int .u64 s.out)) 5 (.int .u64 s.time)) 6 (.string (tx s.tag)))
      have hbb := (Below.setCell (Below.setCell (Below.setCell (Below.setCell (Below.setCell (Below.setCell (Below.setCell HBR.out (p := ⟨w.heap.size + 1, 0, none⟩) (show w.heap.size ≤ w.heap.size + 1 by omega) (.int .i64 s.kind)) (p := ⟨w.heap.size + 1, 1, none⟩) (show w.heap.size ≤ w.heap.size + 1 by omega) (.string (tx s.target))) (p := ⟨w.heap.size + 1, 2, none⟩) (show w.heap.size ≤ w.heap.size + 1 by omega) (.int .u64 s.rule)) (p := ⟨w.heap.size + 1, 3, none⟩) (show w.heap.size ≤ w.heap.size + 1 by omega) (.slice A n c)) (p := ⟨w.heap.size + 1, 4, none⟩) (show w.heap.size ≤ w.heap.size + 1 by omega) (.int .u64 s.out)) (p := ⟨w.heap.size + 1, 5, none⟩) (show w.heap.size ≤ w.heap.size + 1 by omega) (.int .u64 s.time)) (p := ⟨w.heap.size + 1, 6, none⟩) (show w.heap.size ≤ w.heap.size + 1 by omega) (.string (tx s.tag)))
      refine bodyPost_ret (results_cell_tmp_row rfl _ _ _ _ _ _ _ rfl hfin Try.underlying25 rfl (by kernel_rfl)) rfl ?_
      have hs := HS.out
      subst hs
      exact ⟨rfl, hbb⟩

/-- The document's To. -/
theorem rto_any (v v2 : Int) (r : Rc) (A : Option Addr) (n c : Nat) (l : List Dp) (hn : n ≤ 1000) (hA : A = none → c = 0) (hfit : Fits r l) {R : Rc} {L : List Dp} {E : Int} (h : Ans v v2 r l R L E) (w : World) (hr : Reads w w.heap.size 3 A n (dps l)) :
    Calls Try.prog 10 #[.int .i64 v, .int .i64 v2, rcv r A n c] w fun e w' => ∃ A' n' c', e = .returned (.tuple #[rcv R A' n' c', .int .i64 E]) ∧ n' ≤ n ∧ (A' = none → c' = 0) ∧ Reads w' w'.heap.size 3 A' n' (dps L) ∧ (E = 0 → A' = A ∧ n' = n ∧ c' = c) ∧ Below w.heap.size w w' := by
  have hm : ∀ b : Bool, (b = true ↔ MayP v r l) → Hid (∀ W, Below w.heap.size w W → Calls Try.prog 18 #[.int .i64 v, rcv r A n c] W fun e w' => e = .returned (.bool b) ∧ Below W.heap.size W w') := fun b hb W hbl => (rmay_any v r A n c l hn hfit W ((hr.below hbl).more hbl.size)).mono fun e w' h => and_mono hb h
  have no : ∀ {e : Ending} {w' : World} {E : Int}, E ≠ 0 → (e = .returned (.tuple #[.agg #[.int .i64 0, .string { data := #[] }, .int .u64 0, .slice none 0 0, .int .u64 0, .int .u64 0, .string { data := #[] }], .int .i64 E]) ∧ Below w.heap.size w w') → ∃ A' n' c', e = .returned (.tuple #[rcv zeroR A' n' c', .int .i64 E]) ∧ n' ≤ n ∧ (A' = none → c' = 0) ∧ Reads w' w'.heap.size 3 A' n' (dps []) ∧ (E = 0 → A' = A ∧ n' = n ∧ c' = c) ∧ Below w.heap.size w w' := fun hE ⟨h3, h4⟩ => ⟨none, 0, 0, by rw [zero_rcv]; exact h3, by omega, fun _ => rfl, Reads.none_, fun h => absurd h hE, h4⟩
  rcases h with ⟨h1, rfl, rfl, rfl⟩ | ⟨h1, h2, rfl, rfl, rfl⟩ | ⟨h1, h2, rfl, rfl, rfl⟩
  · have hv := of_decide_eq_false h1
    by_cases a : v < 1
    · exact (rto_way0 v v2 r.kind r.target r.tag r.rule r.out r.time A n c a w).mono fun e w' h => no (by omega) h
    by_cases b : 3 < v2
    · exact (rto_way1 v v2 r.kind r.target r.tag r.rule r.out r.time A n c ⟨by omega, b⟩ w).mono fun e w' h => no (by omega) h
    · exact (rto_way2 v v2 r.kind r.target r.tag r.rule r.out r.time A n c ⟨by omega, by omega, by omega⟩ w).mono fun e w' h => no (by omega) h
  · exact (rto_arg v v2 r.kind r.target r.tag r.rule r.out r.time A n c (of_decide_eq_true h1) w (hm false (by simp [h2]))).mono fun e w' h => no (by omega) h
  · have hw := of_decide_eq_true h1
    refine (rto_ok v v2 r A n c hw w (hm true (by simp [h2])) ?_).mono fun e w' ⟨h4, h5⟩ => ⟨A, n, c, h4, Nat.le_refl _, hA, (hr.below h5).more h5.size, fun _ => ⟨rfl, rfl, rfl⟩, h5⟩
    intro q s W h3 h4 h5 hb
    have w1 : isWayB v q = true := decide_eq_true (by omega)
    have w2 : isWayB q (q + 1) = true := decide_eq_true (by omega)
    have hmq : MayP q s l := by rw [h5]; exact moved_may w1 h2
    have hfq : Fits s l := by rw [h5]; exact moved_fit hfit
    refine (rstep_any q s A n c l hn hA hfq (.inr (.inr ⟨w2, hmq, rfl, rfl, rfl⟩)) W ((hr.below hb).more hb.size)).mono ?_
    rintro e w' ⟨A', n', c', h6, _, _, _, h7, h8⟩
    obtain ⟨rfl, rfl, rfl⟩ := h7 rfl
    exact ⟨_, by rw [h5]; exact moved_two (by omega) (by omega), h6, h8⟩

end Go.Proofs.Yteombeomfjkikaa
