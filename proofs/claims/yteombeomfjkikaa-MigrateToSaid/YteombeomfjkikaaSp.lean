/- migrate.Step; MigrateTo at any arguments. -/
import Derived.Test.YteombeomfjkikaaSo
import Derived.Test.YteombeomfjkikaaRs
namespace Go.Proofs.Yteombeomfjkikaa
open Go.RowKit

theorem ans_wrap {v : Int} {r : Rc} {l L : List Dp} {R : Rc} {E : Int} (hv : -9223372036854775808 ≤ v ∧ v ≤ 9223372036854775807) (h : Ans v (v + 1) r l R L E) : Ans v (wrap64 (v + 1)) r l R L E := by
  by_cases hm : v = 9223372036854775807
  · subst hm
    have h1 : isWayB 9223372036854775807 (9223372036854775807 + 1) = false := by decide
    have h2 : isWayB 9223372036854775807 (wrap64 (9223372036854775807 + 1)) = false := decide_eq_false (by unfold wrap64; omega)
    rcases h with ⟨_, h3⟩ | ⟨h3, _⟩ | ⟨h3, _⟩
    · exact .inl ⟨h2, h3⟩
    · rw [h1] at h3; cases h3
    · rw [h1] at h3; cases h3
  · rw [show wrap64 (v + 1) = v + 1 from by unfold wrap64; omega]
    exact h

set_option maxRecDepth 100000 in
set_option maxHeartbeats 1000000 in
theorem step_ok (v v2 : Int) (r s : Rc) (E : Int) (A : Option Addr) (n c : Nat) (L : List Dp) (hv : wrap64 (v + 1) = v2) (w : World)
    (HT : Hid (∀ W, Below w.heap.size w W → Calls Try.prog 9 #[.int .i64 v, .int .i64 v2, .agg #[.int .i64 r.kind, .string (tx r.target), .int .u64 r.rule, .slice A n c, .int .u64 r.out, .int .u64 r.time, .string (tx r.tag)]] W fun e w' => ∃ A' n' c', e = .returned (.tuple #[.agg #[.int .i64 s.kind, .string (tx s.target), .int .u64 s.rule, .slice A' n' c', .int .u64 s.out, .int .u64 s.time, .string (tx s.tag)], .int .i64 E]) ∧ n' ≤ n ∧ Deps w' W.heap.size A' n' c' L ∧ Below W.heap.size W w')) :
    Calls Try.prog 11 #[.int .i64 v, .agg #[.int .i64 r.kind, .string (tx r.target), .int .u64 r.rule, .slice A n c, .int .u64 r.out, .int .u64 r.time, .string (tx r.tag)]] w fun e w' => ∃ A' n' c', e = .returned (.tuple #[.agg #[.int .i64 s.kind, .string (tx s.target), .int .u64 s.rule, .slice A' n' c', .int .u64 s.out, .int .u64 s.time, .string (tx s.tag)], .int .i64 E]) ∧ n' ≤ n ∧ Deps w' w.heap.size A' n' c' L ∧ Below w.heap.size w w' := by
  have h00 := two_new w (.cells #[.int .i64 r.kind, .string (tx r.target), .int .u64 r.rule, .slice A n c, .int .u64 r.out, .int .u64 r.time, .string (tx r.tag)] 25) (.cells #[.int .i64 0, .string { data := #[] }, .int .u64 0, .slice none 0 0, .int .u64 0, .int .u64 0, .string { data := #[] }] 25)
  have HA1 := Lib.hid h00.2.1
  have HSZ := Lib.hid h00.2.2
  have HB0 := Lib.hid (((Below.refl w.heap.size w).alloc (Nat.le_refl _) (.cells #[.int .i64 r.kind, .string (tx r.target), .int .u64 r.rule, .slice A n c, .int .u64 r.out, .int .u64 r.time, .string (tx r.tag)] 25)).alloc (by simp) (.cells #[.int .i64 0, .string { data := #[] }, .int .u64 0, .slice none 0 0, .int .u64 0, .int .u64 0, .string { data := #[] }] 25))
  have q0 := at_cell (i := 0) h00.1 rfl
  have q1 := at_cell (i := 1) h00.1 rfl
  have q2 := at_cell (i := 2) h00.1 rfl
  have q3 := at_cell (i := 3) h00.1 rfl
  have q4 := at_cell (i := 4) h00.1 rfl
  have q5 := at_cell (i := 5) h00.1 rfl
  have q6 := at_cell (i := 6) h00.1 rfl
  clear h00
  go_enter Try.func11, Try.ntmps11
  go_wp2_with (go_at_call 9; refine (HT.out _ HB0.out).mono ?_; rintro e w2 ⟨A4, n4, c4, rfl, hn4, hd4, hb2⟩; have hbz := (hb2.block (w.heap.size + 1) (by rw [HSZ.out]; omega)).trans HA1.out; have j0 := at_cell (i := 0) hbz rfl; have x0 := at_frozen (i := 0) hbz; have j1 := at_cell (i := 1) hbz rfl; have x1 := at_frozen (i := 1) hbz; have j2 := at_cell (i := 2) hbz rfl; have x2 := at_frozen (i := 2) hbz; have j3 := at_cell (i := 3) hbz rfl; have x3 := at_frozen (i := 3) hbz; have j4 := at_cell (i := 4) hbz rfl; have x4 := at_frozen (i := 4) hbz; have j5 := at_cell (i := 5) hbz rfl; have x5 := at_frozen (i := 5) hbz; have j6 := at_cell (i := 6) hbz rfl; have x6 := at_frozen (i := 6) hbz; have HBZ := Lib.hid hbz; have HB2 := Lib.hid (HB0.out.trans (hb2.mono HB0.out.size)); have HD4 := Lib.hid hd4; have HN4 := Lib.hid hn4; clear hbz hb2 hd4 hn4)
  have hfin := (set_same (set_same (set_same (set_same (set_same (set_same (set_same HBZ.out 0 (.int .i64 s.kind)) 1 (.string (tx s.target))) 2 (.int .u64 s.rule)) 3 (.slice A4 n4 c4)) 4 (.int .u64 s.out)) 5 (.int .u64 s.time)) 6 (.string (tx s.tag)))
  have hd := HD4.out
  unfold Deps at hd
  rw [HSZ.out] at hd
  have hrw := (ownsRow_setCell_below (ownsRow_setCell_below (ownsRow_setCell_below (ownsRow_setCell_below (ownsRow_setCell_below (ownsRow_setCell_below (ownsRow_setCell_below hd.1 (a := ⟨w.heap.size + 1, 0, none⟩) (show w.heap.size + 1 < w.heap.size + 2 by omega) (.int .i64 s.kind)) (a := ⟨w.heap.size + 1, 1, none⟩) (show w.heap.size + 1 < w.heap.size + 2 by omega) (.string (tx s.target))) (a := ⟨w.heap.size + 1, 2, none⟩) (show w.heap.size + 1 < w.heap.size + 2 by omega) (.int .u64 s.rule)) (a := ⟨w.heap.size + 1, 3, none⟩) (show w.heap.size + 1 < w.heap.size + 2 by omega) (.slice A4 n4 c4)) (a := ⟨w.heap.size + 1, 4, none⟩) (show w.heap.size + 1 < w.heap.size + 2 by omega) (.int .u64 s.out)) (a := ⟨w.heap.size + 1, 5, none⟩) (show w.heap.size + 1 < w.heap.size + 2 by omega) (.int .u64 s.time)) (a := ⟨w.heap.size + 1, 6, none⟩) (show w.heap.size + 1 < w.heap.size + 2 by omega) (.string (tx s.tag)))
  have hbb := (Below.setCell (Below.setCell (Below.setCell (Below.setCell (Below.setCell (Below.setCell (Below.setCell HB2.out (p := ⟨w.heap.size + 1, 0, none⟩) (show w.heap.size ≤ w.heap.size + 1 by omega) (.int .i64 s.kind)) (p := ⟨w.heap.size + 1, 1, none⟩) (show w.heap.size ≤ w.heap.size + 1 by omega) (.string (tx s.target))) (p := ⟨w.heap.size + 1, 2, none⟩) (show w.heap.size ≤ w.heap.size + 1 by omega) (.int .u64 s.rule)) (p := ⟨w.heap.size + 1, 3, none⟩) (show w.heap.size ≤ w.heap.size + 1 by omega) (.slice A4 n4 c4)) (p := ⟨w.heap.size + 1, 4, none⟩) (show w.heap.size ≤ w.heap.size + 1 by omega) (.int .u64 s.out)) (p := ⟨w.heap.size + 1, 5, none⟩) (show w.heap.size ≤ w.heap.size + 1 by omega) (.int .u64 s.time)) (p := ⟨w.heap.size + 1, 6, none⟩) (show w.heap.size ≤ w.heap.size + 1 by omega) (.string (tx s.tag)))
  refine bodyPost_ret (results_cell_tmp_row rfl _ _ _ _ _ _ _ rfl hfin Try.underlying25 rfl (by kernel_rfl)) rfl ?_
  exact ⟨A4, n4, c4, rfl, HN4.out, ⟨own_less hrw (by omega), hd.2⟩, hbb⟩

set_option maxRecDepth 100000 in
set_option maxHeartbeats 1000000 in
theorem mto_great (v v2 : Int) (r : Rc) (A : Option Addr) (n c : Nat) (w : World)
    (HFX : Hid (∀ W, Calls Try.prog 8 #[] W fun e w' => e = .returned (.bool true) ∧ Below W.heap.size W w'))
    (HG : Hid (∀ W, Below w.heap.size w W → Calls Try.prog 7 #[.agg #[.int .i64 r.kind, .string (tx r.target), .int .u64 r.rule, .slice A n c, .int .u64 r.out, .int .u64 r.time, .string (tx r.tag)]] W fun e w' => e = .returned (.bool true) ∧ Below W.heap.size W w')) :
    Calls Try.prog 3 #[.int .i64 v, .int .i64 v2, .agg #[.int .i64 r.kind, .string (tx r.target), .int .u64 r.rule, .slice A n c, .int .u64 r.out, .int .u64 r.time, .string (tx r.tag)]] w fun e w' => e = .returned (.bool true) ∧ Below w.heap.size w w' := by
  have h00 := one_new w (.cells #[.int .i64 r.kind, .string (tx r.target), .int .u64 r.rule, .slice A n c, .int .u64 r.out, .int .u64 r.time, .string (tx r.tag)] 25)
  have HB0 := Lib.hid ((Below.refl w.heap.size w).alloc (Nat.le_refl _) (.cells #[.int .i64 r.kind, .string (tx r.target), .int .u64 r.rule, .slice A n c, .int .u64 r.out, .int .u64 r.time, .string (tx r.tag)] 25))
  have q0 := at_cell (i := 0) h00 rfl
  have q1 := at_cell (i := 1) h00 rfl
  have q2 := at_cell (i := 2) h00 rfl
  have q3 := at_cell (i := 3) h00 rfl
  have q4 := at_cell (i := 4) h00 rfl
  have q5 := at_cell (i := 5) h00 rfl
  have q6 := at_cell (i := 6) h00 rfl
  clear h00
  go_enter Try.func3, Try.ntmps3
  go_wp2_with (first
    | (go_at_call 8; have hk := HB2.out.size; refine (HFX.out _).mono ?_; rintro e w3 ⟨rfl, hb3⟩; have HB3 := Lib.hid (HB2.out.trans (hb3.mono HB2.out.size)))
    | (go_at_call 7; refine (HG.out _ HB0.out).mono ?_; rintro e w2 ⟨rfl, hb2⟩; have HB2 := Lib.hid (HB0.out.trans (hb2.mono HB0.out.size)); clear hb2))
  go_ret
  exact ⟨rfl, HB3.out⟩

theorem mto_any (v v2 : Int) (hv : -9223372036854775808 ≤ v ∧ v ≤ 9223372036854775807) (r : Rc) (A : Option Addr) (n c : Nat) (l : List Dp) (hn : n ≤ maxLen) (hA : A = none → c = 0) (f : Fits r l) (w : World) (h1 : Reads w w.heap.size 3 A n (dps l)) :
    Calls Try.prog 3 #[.int .i64 v, .int .i64 v2, rcv r A n c] w fun e w' => e = .returned (.bool true) ∧ Below w.heap.size w w' := by
  have hfx : Hid (∀ W, Calls Try.prog 8 #[] W fun e w' => e = .returned (.bool true) ∧ Below W.heap.size W w') := mfixed_any
  have hl1 : l.length = n := by have := h1.1; rw [dps_len] at this; omega
  have g1 : ∀ b : Bool, (b = true ↔ ¬ small r l) → Hid (∀ W, Below w.heap.size w W → Calls Try.prog 7 #[rcv r A n c] W fun e w' => e = .returned (.bool b) ∧ Below W.heap.size W w') := fun b hb W hbl =>
    (great_says r A n c l W hn f.2.2 f.1 f.2.1 ((h1.below hbl).more hbl.size)).mono fun e w' h => and_mono hb h
  by_cases sm : small r l
  · have hn60 : n ≤ 60 := by rw [← hl1]; exact sm.2.1
    obtain ⟨R1, L1, E1, a1⟩ := ans_is v v2 r l
    obtain ⟨R2, L2, E2, a2⟩ := ans_is v (v + 1) r l
    have rd : ∀ W, Below w.heap.size w W → Reads W W.heap.size 3 A n (dps l) := fun W hb => (h1.below hb).more hb.size
    refine mto_small v v2 r R1 R2 E1 E2 A n c l L1 L2 hn60 hA w h1 hfx (g1 false (by simp [sm])) ?_ ?_ ?_ ?_
    · exact fun W hb => to_any v v2 r A n c l (by omega) hA f a1 W (rd W hb)
    · exact fun W hb => (rto_any v v2 r A n c l (by omega) hA f a1 W (rd W hb)).mono fun e w' ⟨A', n', c', h3, h4, h5, h6, h7⟩ => ⟨A', n', c', h3, h4, h6, h7⟩
    · exact fun W hb => (step_ok v _ r R2 E2 A n c L2 rfl W (fun W2 hb2 => to_any v _ r A n c l (by omega) hA f (ans_wrap hv a2) W2 (rd W2 (hb.trans (hb2.mono hb.size))))).mono fun e w' ⟨A', n', c', h3, h4, h6, h7⟩ => ⟨A', n', c', h3, h4, Reads.of_own h6.1, h7⟩
    · exact fun W hb => (rstep_any v r A n c l (by omega) hA f a2 W (rd W hb)).mono fun e w' ⟨A', n', c', h3, h4, h5, h6, _, h7⟩ => ⟨A', n', c', h3, h4, h6, h7⟩
  · exact mto_great v v2 r A n c w hfx (g1 true (by simp [sm]))

end Go.Proofs.Yteombeomfjkikaa
