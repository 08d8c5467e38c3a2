/- RecordMay at any version and any record. -/
import Derived.Test.YtigkpcildopmfaaRu
import Derived.Test.YtigkpcildopmfaaRw
import Derived.Test.YtigkpcildopmfaaRx
import Derived.Test.YtigkpcildopmfaaRt
namespace Go.Proofs.Ytigkpcildopmfaa
open Go.RowKit

set_option maxRecDepth 100000 in
set_option maxHeartbeats 400000 in
theorem rmlaw_great (v : Int) (r : Rc) (A : Option Addr) (n c : Nat) (w : World)
    (HG : Hid (Calls Try.prog 6 #[rcv r A n c] (w.alloc (.cells (rcells r A n c) 25)) fun e w' => e = .returned (.bool true) ∧ Below (w.alloc (.cells (rcells r A n c) 25)).heap.size (w.alloc (.cells (rcells r A n c) 25)) w'))
    (HFX : Hid (∀ W, Calls Try.prog 7 #[] W fun e w' => e = .returned (.bool true) ∧ Below W.heap.size W w')) :
    Calls Try.prog 3 #[.int .i64 v, rcv r A n c] w fun e w' => e = .returned (.bool true) ∧ Below w.heap.size w w' := by
  have HB0 := Lib.hid ((Below.refl w.heap.size w).alloc (Nat.le_refl _) (.cells (rcells r A n c) 25))
  unfold rcv rsv rcells at *
  go_enter Try.func3, Try.ntmps3
  go_wp2_with (first
    | (go_at_call 7; have hk := HB2.out.size; refine (HFX.out _).mono ?_; rintro e w3 ⟨rfl, hb3⟩; have HB3 := Lib.hid (HB2.out.trans (hb3.mono HB2.out.size)))
    | (go_at_call 6; refine HG.out.mono ?_; rintro e w2 ⟨rfl, hb2⟩; have HB2 := Lib.hid (HB0.out.trans (hb2.mono HB0.out.size)); clear hb2))
  go_ret
  exact ⟨rfl, HB3.out⟩

set_option maxRecDepth 100000 in
set_option maxHeartbeats 2000000 in
theorem rmlaw_small (v k : Int) (t g : List UInt8) (u o m : Int) (A : Option Addr) (n c : Nat) (T : List (List UInt8)) (b : Bool) (hT : T.length ≤ 1073741824) (w : World)
    (HG : Hid (Calls Try.prog 6 #[.agg #[.int .i64 k, .string (tx t), .int .u64 u, .slice A n c, .int .u64 o, .int .u64 m, .string (tx g)]] (w.alloc (.cells #[.int .i64 k, .string (tx t), .int .u64 u, .slice A n c, .int .u64 o, .int .u64 m, .string (tx g)] 25)) fun e w' => e = .returned (.bool false) ∧ Below (w.alloc (.cells #[.int .i64 k, .string (tx t), .int .u64 u, .slice A n c, .int .u64 o, .int .u64 m, .string (tx g)] 25)).heap.size (w.alloc (.cells #[.int .i64 k, .string (tx t), .int .u64 u, .slice A n c, .int .u64 o, .int .u64 m, .string (tx g)] 25)) w'))
    (HFX : Hid (∀ W, Calls Try.prog 7 #[] W fun e w' => e = .returned (.bool true) ∧ Below W.heap.size W w'))
    (HM : Hid (∀ W, Below w.heap.size w W → Calls Try.prog 8 #[.int .i64 v, .agg #[.int .i64 k, .string (tx t), .int .u64 u, .slice A n c, .int .u64 o, .int .u64 m, .string (tx g)]] W fun e w' => e = .returned (.bool b) ∧ Below W.heap.size W w'))
    (HRM : Hid (∀ W, Below w.heap.size w W → Calls Try.prog 9 #[.int .i64 v, .agg #[.int .i64 k, .string (tx t), .int .u64 u, .slice A n c, .int .u64 o, .int .u64 m, .string (tx g)]] W fun e w' => e = .returned (.bool b) ∧ Below W.heap.size W w'))
    (HN : Hid (∀ W, Below w.heap.size w W → Calls Try.prog 11 #[.agg #[.int .i64 k, .string (tx t), .int .u64 u, .slice A n c, .int .u64 o, .int .u64 m, .string (tx g)]] W fun e w' => ∃ v, e = .returned v ∧ Own w' W.heap.size v T ∧ Below W.heap.size W w'))
    (HRN : Hid (∀ W, Below w.heap.size w W → Calls Try.prog 12 #[.agg #[.int .i64 k, .string (tx t), .int .u64 u, .slice A n c, .int .u64 o, .int .u64 m, .string (tx g)]] W fun e w' => ∃ v, e = .returned v ∧ Own w' W.heap.size v T ∧ Below W.heap.size W w')) :
    Calls Try.prog 3 #[.int .i64 v, .agg #[.int .i64 k, .string (tx t), .int .u64 u, .slice A n c, .int .u64 o, .int .u64 m, .string (tx g)]] w fun e w' => e = .returned (.bool true) ∧ Below w.heap.size w w' := by
  have H0 := Lib.hid (one_new w (.cells #[.int .i64 k, .string (tx t), .int .u64 u, .slice A n c, .int .u64 o, .int .u64 m, .string (tx g)] 25))
  have HB0 := Lib.hid ((Below.refl w.heap.size w).alloc (Nat.le_refl _) (.cells #[.int .i64 k, .string (tx t), .int .u64 u, .slice A n c, .int .u64 o, .int .u64 m, .string (tx g)] 25))
  have HZ : Hid ((w.alloc (.cells #[.int .i64 k, .string (tx t), .int .u64 u, .slice A n c, .int .u64 o, .int .u64 m, .string (tx g)] 25)).heap.size = w.heap.size + 1) := by show _ = _; simp
  have HCELL : Hid (∀ {i : Nat} {x : Value}, (#[.int .i64 k, .string (tx t), .int .u64 u, .slice A n c, .int .u64 o, .int .u64 m, .string (tx g)] : Array Value)[i]? = some x → ∀ {W : World}, Below (w.heap.size + 1) (w.alloc (.cells #[.int .i64 k, .string (tx t), .int .u64 u, .slice A n c, .int .u64 o, .int .u64 m, .string (tx g)] 25)) W → W.cell? ⟨w.heap.size, i, none⟩ = some x) := fun hi W hb => (hb.cell (p := ⟨w.heap.size, _, none⟩) (show w.heap.size < w.heap.size + 1 by omega)).trans (at_cell H0.out hi)
  have HNT := Lib.hid (name_any t)
  have HNG := Lib.hid (name_any g)
  have HRT := Lib.hid (rname_any t)
  have HRG := Lib.hid (rname_any g)
  unfold rsv at HNT HNG HRT HRG
  go_enter Try.func3, Try.ntmps3
  go_wp2_with (go_at_call 6; refine HG.out.mono ?_; rintro e w2 ⟨rfl, hb2⟩; have HB2 := Lib.hid (HB0.out.trans (hb2.mono HB0.out.size)); have HS2 := Lib.hid (hb2.mono (Nat.le_of_eq HZ.out.symm)); clear hb2)
  generalize (w.alloc _) = W0 at *
  refine wp_region_held (S := fun v1 => Below (w.heap.size + 1) W0 v1) (by kernel_rfl) ?_
  have hS : Below (w.heap.size + 1) W0 w2.drew := HS2.out.drew
  refine h_one 0 rfl (by kernel_rfl) (by kernel_rfl) (fun K hK => ?_)
  go_simp
  refine (HFX.out _).mono ?_
  rintro e w3 ⟨rfl, hb3⟩
  have HB3 := Lib.hid ((HB2.out.drew).trans (hb3.mono (HB2.out.drew).size))
  have hS3 : Below (w.heap.size + 1) W0 w3 := hS.trans (hb3.mono (by have h1 := hS.size; have h2 := HZ.out; omega))
  refine hK _ _ hS3 ?_
  clear hK K
  refine h_take 1 (.bool true) rfl (by kernel_rfl) (by kernel_rfl) (by kernel_rfl) (fun _ _ _ h => h) (by kernel_rfl) hS3 (fun _ _ => by kernel_rfl) ?_
  refine h_take 2 (.int .i64 v) rfl (by kernel_rfl) (by kernel_rfl) (by kernel_rfl) (fun _ _ _ h => h) (by kernel_rfl) hS3 (fun _ _ => by kernel_rfl) ?_
  refine h_take 3 (.agg #[.int .i64 k, .string (tx t), .int .u64 u, .slice A n c, .int .u64 o, .int .u64 m, .string (tx g)]) rfl (by kernel_rfl) (by kernel_rfl) (by kernel_rfl) (fun _ _ _ h => h) (by kernel_rfl) hS3 (by intro v1 hv; have q0 := HCELL.out (i := 0) rfl hv; have q1 := HCELL.out (i := 1) rfl hv; have q2 := HCELL.out (i := 2) rfl hv; have q3 := HCELL.out (i := 3) rfl hv; have q4 := HCELL.out (i := 4) rfl hv; have q5 := HCELL.out (i := 5) rfl hv; have q6 := HCELL.out (i := 6) rfl hv; go_simp; try rfl) ?_
  refine h_take 5 (.int .i64 v) rfl (by kernel_rfl) (by kernel_rfl) (by kernel_rfl) (fun _ _ _ h => h) (by kernel_rfl) hS3 (fun _ _ => by kernel_rfl) ?_
  refine h_take 6 (.agg #[.int .i64 k, .string (tx t), .int .u64 u, .slice A n c, .int .u64 o, .int .u64 m, .string (tx g)]) rfl (by kernel_rfl) (by kernel_rfl) (by kernel_rfl) (fun _ _ _ h => h) (by kernel_rfl) hS3 (by intro v1 hv; have q0 := HCELL.out (i := 0) rfl hv; have q1 := HCELL.out (i := 1) rfl hv; have q2 := HCELL.out (i := 2) rfl hv; have q3 := HCELL.out (i := 3) rfl hv; have q4 := HCELL.out (i := 4) rfl hv; have q5 := HCELL.out (i := 5) rfl hv; have q6 := HCELL.out (i := 6) rfl hv; go_simp; try rfl) ?_
  refine h_one 4 rfl (by kernel_rfl) (by kernel_rfl) (fun K hK => ?_)
  go_simp
  refine (HM.out _ (HB3.out)).mono ?_
  rintro e w4 ⟨rfl, hb4⟩
  have HB4 := Lib.hid ((HB3.out).trans (hb4.mono (HB3.out).size))
  have hS4 : Below (w.heap.size + 1) W0 w4 := hS3.trans (hb4.mono (by have h1 := hS3.size; have h2 := HZ.out; omega))
  refine hK _ _ hS4 ?_
  clear hK K
  refine h_one 7 rfl (by kernel_rfl) (by kernel_rfl) (fun K hK => ?_)
  go_simp
  refine (HRM.out _ (HB4.out)).mono ?_
  rintro e w5 ⟨rfl, hb5⟩
  have HB5 := Lib.hid ((HB4.out).trans (hb5.mono (HB4.out).size))
  have hS5 : Below (w.heap.size + 1) W0 w5 := hS4.trans (hb5.mono (by have h1 := hS4.size; have h2 := HZ.out; omega))
  refine hK _ _ hS5 ?_
  clear hK K
  refine h_take 8 (.bool true) rfl (by kernel_rfl) (by kernel_rfl) (by kernel_rfl) (fun _ _ _ h => h) (by kernel_rfl) hS5 (by intro v1 hv; go_simp) ?_
  refine h_take 9 (.bool true) rfl (by kernel_rfl) (by kernel_rfl) (by kernel_rfl) (fun _ _ _ h => h) (by kernel_rfl) hS5 (fun _ _ => by kernel_rfl) ?_
  refine h_take 10 (.bool true) rfl (by kernel_rfl) (by kernel_rfl) (by kernel_rfl) (fun _ _ _ h => h) (by kernel_rfl) hS5 (fun _ _ => by kernel_rfl) ?_
  refine h_take 11 (.agg #[.int .i64 k, .string (tx t), .int .u64 u, .slice A n c, .int .u64 o, .int .u64 m, .string (tx g)]) rfl (by kernel_rfl) (by kernel_rfl) (by kernel_rfl) (fun _ _ _ h => h) (by kernel_rfl) hS5 (by intro v1 hv; have q0 := HCELL.out (i := 0) rfl hv; have q1 := HCELL.out (i := 1) rfl hv; have q2 := HCELL.out (i := 2) rfl hv; have q3 := HCELL.out (i := 3) rfl hv; have q4 := HCELL.out (i := 4) rfl hv; have q5 := HCELL.out (i := 5) rfl hv; have q6 := HCELL.out (i := 6) rfl hv; go_simp; try rfl) ?_
  refine h_take 13 (.agg #[.int .i64 k, .string (tx t), .int .u64 u, .slice A n c, .int .u64 o, .int .u64 m, .string (tx g)]) rfl (by kernel_rfl) (by kernel_rfl) (by kernel_rfl) (fun _ _ _ h => h) (by kernel_rfl) hS5 (by intro v1 hv; have q0 := HCELL.out (i := 0) rfl hv; have q1 := HCELL.out (i := 1) rfl hv; have q2 := HCELL.out (i := 2) rfl hv; have q3 := HCELL.out (i := 3) rfl hv; have q4 := HCELL.out (i := 4) rfl hv; have q5 := HCELL.out (i := 5) rfl hv; have q6 := HCELL.out (i := 6) rfl hv; go_simp; try rfl) ?_
  refine h_one 12 rfl (by kernel_rfl) (by kernel_rfl) (fun K hK => ?_)
  go_simp
  refine (HN.out _ (HB5.out)).mono ?_
  rintro e w6 ⟨v6, rfl, ho6, hb6⟩
  have HB6 := Lib.hid ((HB5.out).trans (hb6.mono (HB5.out).size))
  have hS6 : Below (w.heap.size + 1) W0 w6 := hS5.trans (hb6.mono (by have h1 := hS5.size; have h2 := HZ.out; omega))
  have HO1 := ho6
  obtain ⟨A1, c1, rfl, _, hr1⟩ := own_reads ho6
  refine hK _ _ hS6 ?_
  clear hK K
  refine h_one 14 rfl (by kernel_rfl) (by kernel_rfl) (fun K hK => ?_)
  go_simp
  refine (HRN.out _ (HB6.out)).mono ?_
  rintro e w7 ⟨v7, rfl, ho7, hb7⟩
  have HB7 := Lib.hid ((HB6.out).trans (hb7.mono (HB6.out).size))
  have hS7 : Below (w.heap.size + 1) W0 w7 := hS6.trans (hb7.mono (by have h1 := hS6.size; have h2 := HZ.out; omega))
  obtain ⟨A2, c2, rfl, _, hr2⟩ := own_reads ho7
  refine hK _ _ hS7 ?_
  clear hK K
  refine h_one 15 rfl (by kernel_rfl) (by kernel_rfl) (fun K hK => ?_)
  go_simp
  refine (texts_same A1 A2 T.length c1 c2 w6.heap.size w7.heap.size T hT w7 hb7.size (Nat.le_refl _) (hr1.below hb7) hr2).mono ?_
  rintro e w8 ⟨rfl, hb8⟩
  have HB8 := Lib.hid ((HB7.out).trans (hb8.mono (HB7.out).size))
  have hS8 : Below (w.heap.size + 1) W0 w8 := hS7.trans (hb8.mono (by have h1 := hS7.size; have h2 := HZ.out; omega))
  refine hK _ _ hS8 ?_
  clear hK K
  refine h_take 16 (.bool true) rfl (by kernel_rfl) (by kernel_rfl) (by kernel_rfl) (fun _ _ _ h => h) (by kernel_rfl) hS8 (fun _ _ => by kernel_rfl) ?_
  refine h_take 17 (.bool true) rfl (by kernel_rfl) (by kernel_rfl) (by kernel_rfl) (fun _ _ _ h => h) (by kernel_rfl) hS8 (fun _ _ => by kernel_rfl) ?_
  refine h_take 18 (.pointer (some ⟨w.heap.size, 1, none⟩)) rfl (by kernel_rfl) (by kernel_rfl) (by kernel_rfl) (fun _ _ _ h => h) (by kernel_rfl) hS8 (fun _ _ => by kernel_rfl) ?_
  refine h_take 19 (.string (tx t)) rfl (by kernel_rfl) (by kernel_rfl) (by kernel_rfl) (fun _ _ _ h => h) (by kernel_rfl) hS8 (by intro v1 hv; have q := HCELL.out (i := 1) rfl hv; go_simp; try rfl) ?_
  refine h_take 21 (.pointer (some ⟨w.heap.size, 1, none⟩)) rfl (by kernel_rfl) (by kernel_rfl) (by kernel_rfl) (fun _ _ _ h => h) (by kernel_rfl) hS8 (fun _ _ => by kernel_rfl) ?_
  refine h_take 22 (.string (tx t)) rfl (by kernel_rfl) (by kernel_rfl) (by kernel_rfl) (fun _ _ _ h => h) (by kernel_rfl) hS8 (by intro v1 hv; have q := HCELL.out (i := 1) rfl hv; go_simp; try rfl) ?_
  refine h_one 20 rfl (by kernel_rfl) (by kernel_rfl) (fun K hK => ?_)
  go_simp
  refine (HNT.out _).mono ?_
  rintro e wx ⟨rfl, rfl⟩
  refine hK _ _ hS8 ?_
  clear hK K
  refine h_one 23 rfl (by kernel_rfl) (by kernel_rfl) (fun K hK => ?_)
  go_simp
  refine (HRT.out _).mono ?_
  rintro e wx ⟨rfl, rfl⟩
  refine hK _ _ hS8 ?_
  clear hK K
  refine h_take 24 (.bool true) rfl (by kernel_rfl) (by kernel_rfl) (by kernel_rfl) (fun _ _ _ h => h) (by kernel_rfl) hS8 (by intro v1 hv; go_simp) ?_
  refine h_take 25 (.bool true) rfl (by kernel_rfl) (by kernel_rfl) (by kernel_rfl) (fun _ _ _ h => h) (by kernel_rfl) hS8 (fun _ _ => by kernel_rfl) ?_
  refine h_take 26 (.bool true) rfl (by kernel_rfl) (by kernel_rfl) (by kernel_rfl) (fun _ _ _ h => h) (by kernel_rfl) hS8 (fun _ _ => by kernel_rfl) ?_
  refine h_take 27 (.pointer (some ⟨w.heap.size, 6, none⟩)) rfl (by kernel_rfl) (by kernel_rfl) (by kernel_rfl) (fun _ _ _ h => h) (by kernel_rfl) hS8 (fun _ _ => by kernel_rfl) ?_
  refine h_take 28 (.string (tx g)) rfl (by kernel_rfl) (by kernel_rfl) (by kernel_rfl) (fun _ _ _ h => h) (by kernel_rfl) hS8 (by intro v1 hv; have q := HCELL.out (i := 6) rfl hv; go_simp; try rfl) ?_
  refine h_take 30 (.pointer (some ⟨w.heap.size, 6, none⟩)) rfl (by kernel_rfl) (by kernel_rfl) (by kernel_rfl) (fun _ _ _ h => h) (by kernel_rfl) hS8 (fun _ _ => by kernel_rfl) ?_
  refine h_take 31 (.string (tx g)) rfl (by kernel_rfl) (by kernel_rfl) (by kernel_rfl) (fun _ _ _ h => h) (by kernel_rfl) hS8 (by intro v1 hv; have q := HCELL.out (i := 6) rfl hv; go_simp; try rfl) ?_
  refine h_one 29 rfl (by kernel_rfl) (by kernel_rfl) (fun K hK => ?_)
  go_simp
  refine (HNG.out _).mono ?_
  rintro e wx ⟨rfl, rfl⟩
  refine hK _ _ hS8 ?_
  clear hK K
  refine h_one 32 rfl (by kernel_rfl) (by kernel_rfl) (fun K hK => ?_)
  go_simp
  refine (HRG.out _).mono ?_
  rintro e wx ⟨rfl, rfl⟩
  refine hK _ _ hS8 ?_
  clear hK K
  refine h_take 33 (.bool true) rfl (by kernel_rfl) (by kernel_rfl) (by kernel_rfl) (fun _ _ _ h => h) (by kernel_rfl) hS8 (by intro v1 hv; go_simp) ?_
  refine h_take 34 (.bool true) rfl (by kernel_rfl) (by kernel_rfl) (by kernel_rfl) (fun _ _ _ h => h) (by kernel_rfl) hS8 (fun _ _ => by kernel_rfl) ?_
  refine h_take 35 (.bool true) rfl (by kernel_rfl) (by kernel_rfl) (by kernel_rfl) (fun _ _ _ h => h) (by kernel_rfl) hS8 (fun _ _ => by kernel_rfl) ?_
  refine wpAnyH_done (by kernel_rfl) ?_ _
  go_simp
  go_wp2
  go_ret
  exact ⟨rfl, HB8.out⟩

theorem rmlaw_any (v : Int) (r : Rc) (A : Option Addr) (n c : Nat) (l : List Dp) (hn : n ≤ maxLen) (hfit : Fits r l) (w : World) (h : Reads w w.heap.size 3 A n (dps l)) :
    Calls Try.prog 3 #[.int .i64 v, rcv r A n c] w fun e w' => e = .returned (.bool true) ∧ Below w.heap.size w w' := by
  have hg := great_says r A n c l (w.alloc (.cells (rcells r A n c) 25)) hn hfit.2.2 hfit.1 hfit.2.1 ((h.alloc (Nat.le_refl _) _).more (by simp))
  have hfx : Hid (∀ W, Calls Try.prog 7 #[] W fun e w' => e = .returned (.bool true) ∧ Below W.heap.size W w') := rfixed_any
  have hl : l.length = n := by have := h.1; rw [dps_len] at this; omega
  by_cases hs : small r l
  · have hn60 : n ≤ 60 := by rw [← hl]; exact hs.2.1
    have HG := Lib.hid (hg.mono fun e w' h => and_mono (b := false) (by simp [hs]) h)
    obtain ⟨b, hb⟩ : ∃ b : Bool, b = true ↔ MayP v r l := by
      by_cases hm : MayP v r l
      · exact ⟨true, by simp [hm]⟩
      · exact ⟨false, by simp [hm]⟩
    have hm := Lib.hid (fun (W : World) (hbl : Below w.heap.size w W) => (may_any v r A n c l (by omega) hfit W ((h.below hbl).more hbl.size)).mono fun e w' h => and_mono hb h)
    have hrm := Lib.hid (fun (W : World) (hbl : Below w.heap.size w W) => (rmay_any v r A n c l (by omega) hfit W ((h.below hbl).more hbl.size)).mono fun e w' h => and_mono hb h)
    have hnm := Lib.hid (fun (W : World) (hbl : Below w.heap.size w W) => names_any r A n c l (by omega) hfit W ((h.below hbl).more hbl.size))
    have hrn := Lib.hid (fun (W : World) (hbl : Below w.heap.size w W) => rnames_any r A n c l (by omega) W ((h.below hbl).more hbl.size))
    have hT : (rnames r l).length ≤ 1073741824 := by
      have h1 := tnew_len (r.target :: names l ++ (if r.tag = [] then [] else [r.tag]))
      have h2 : (names l).length = n := by unfold names; rw [List.length_map, hl]
      have h3 : (if r.tag = [] then [] else [r.tag]).length ≤ 1 := by split <;> simp
      unfold rnames
      rw [List.length_append, List.length_cons] at h1
      omega
    generalize rnames r l = T at *
    clear hg h
    obtain ⟨k, t, u, o, m, g⟩ := r
    exact rmlaw_small v k t g u o m A n c T b hT w HG hfx hm hrm hnm hrn
  · exact rmlaw_great v r A n c w (hg.mono fun e w' h => and_mono (b := true) (by simp [hs]) h) hfx

end Go.Proofs.Ytigkpcildopmfaa
