/- The walk of InternPlays. -/
import Derived.Test.YtfdeafhmfmeafaaIe
import Derived.Test.YtfdeafhmfmeafaaIj
import Derived.Test.YtfdeafhmfmeafaaIk
namespace Go.Proofs.Ytfdeafhmfmeafaa
open Go.RowKit Go.Maps Go.ChangeMaps Go.WideMaps

set_option maxRecDepth 100000 in
set_option maxHeartbeats 400000 in
theorem plays_long (L La : Option Addr) (m d ma da : Nat) (h : 60 < m ∨ 60 < ma) (w : World) :
    Calls Try.prog 3 #[.slice L m d, .slice La ma da] w fun e w' => e = .returned (.bool true) ∧ Below w.heap.size w w' := by
  have HF := Lib.hid (intern_fixed w)
  by_cases hm : 60 < m
  · clear h
    go_enter Try.func3, Try.ntmps3
    go_wp2_with (go_at_call 5; refine HF.out.mono ?_; rintro e w3 ⟨rfl, hb3⟩)
    go_ret
    exact ⟨rfl, hb3⟩
  · have ha : 60 < ma := by omega
    have hm1 : decide (60 < (m : Int)) = false := by rw [decide_eq_false_iff_not]; omega
    clear h
    go_enter Try.func3, Try.ntmps3
    go_wp2_with (go_at_call 5; refine HF.out.mono ?_; rintro e w3 ⟨rfl, hb3⟩)
    go_ret
    exact ⟨rfl, hb3⟩

/-- How it stands: the table's texts tc, the document's list lc. -/
def PInv (n0 : Nat) (w wr : World) (S : Nat → Prop) (b N : Nat) (v : Value) (tc lc : List (List UInt8)) : Prop :=
  Tab wr S b N tc ∧ (∀ k, S k → n0 ≤ k ∧ k < wr.heap.size) ∧ Own wr n0 v lc ∧ (∀ g, v.ownBlock = some g → ¬ S g) ∧ Below n0 w wr ∧ n0 ≤ wr.heap.size

theorem PInv.below {n0 : Nat} {w wr w' : World} {S : Nat → Prop} {b N : Nat} {v : Value} {tc lc : List (List UInt8)} (h : PInv n0 w wr S b N v tc lc) (hb : Below wr.heap.size wr w') : PInv n0 w w' S b N v tc lc := by
  obtain ⟨h1, h2, h3, h4, h5, h6⟩ := h
  exact ⟨h1.turn (Turn.of_below hb : Turn (fun _ => False) wr w') (fun _ _ _ h => h), fun k hk => ⟨(h2 k hk).1, Nat.lt_of_lt_of_le (h2 k hk).2 hb.size⟩, h3.below hb, h4, h5.trans (hb.mono h6), Nat.le_trans h6 hb.size⟩

theorem PInv.put {n0 : Nat} {w wr w' : World} {S : Nat → Prop} {b N : Nat} {v v' : Value} {tc lc lc' : List (List UInt8)} (h : PInv n0 w wr S b N v tc lc) (ho : Own w' n0 v' lc') (hv : v' = v ∨ ∀ g, v'.ownBlock = some g → wr.heap.size ≤ g) (hb : Below wr.heap.size wr w') : PInv n0 w w' S b N v' tc lc' := by
  obtain ⟨h1, h2, h3, h4, h5, h6⟩ := h.below hb
  refine ⟨h1, h2, ho, fun g hg => ?_, h5, h6⟩
  rcases hv with rfl | hv
  · exact h4 g hg
  · intro hs
    have := hv g hg
    have := (h.2.1 g hs).2
    omega

theorem PInv.turn {n0 : Nat} {w wr w' : World} {S S3 : Nat → Prop} {b N b3 N3 : Nat} {v : Value} {tc tc' lc : List (List UInt8)} (h : PInv n0 w wr S b N v tc lc) (hs3 : ∀ k, S3 k → S k ∨ wr.heap.size ≤ k) (ht : Tab w' S3 b3 N3 tc') (htu : Turn S wr w') : PInv n0 w w' (fun k => S3 k ∧ k < w'.heap.size) b3 N3 v tc' lc := by
  obtain ⟨h1, h2, h3, h4, h5, h6⟩ := h
  refine ⟨ht.wide (fun k hk hl => ⟨hk, hl⟩), fun k hk => ⟨?_, hk.2⟩, own_heap h3 (fun g hg => htu.2.2.2.2 g (own_lt h3 g hg) (h4 g hg)), fun g hg hs => ?_, h5.trans (htu.below (fun k hk => (h2 k hk).1) h6), Nat.le_trans h6 htu.2.2.2.1⟩
  · rcases hs3 k hk.1 with h | h
    · exact (h2 k h).1
    · omega
  · rcases hs3 g hs.1 with h | h
    · exact h4 g hg h
    · have := own_lt h3 g hg
      omega

theorem PInv.same {n0 : Nat} {w wr : World} {S : Nat → Prop} {b N : Nat} {A : Option Addr} {n c : Nat} {cur : List (List UInt8)} (h : PInv n0 w wr S b N (.slice A n c) cur cur) (hl : cur.length ≤ 1000000) :
    Calls Try.prog 8 #[.pointer (some ⟨b, 0, none⟩), .slice A n c] wr fun e w' => e = .returned (.bool true) ∧ wr = w' := by
  obtain ⟨A', n', c', e, _, _, _, hr⟩ := h.2.2.1.lis
  injection e with e1 e2 e3
  subst e1; subst e2; subst e3
  exact same_any _ _ _ _ _ _ _ cur hl wr h.1 hr

theorem PInv.place {n0 : Nat} {w wr : World} {S : Nat → Prop} {b N : Nat} {A : Option Addr} {n c : Nat} {tc cur : List (List UInt8)} (h : PInv n0 w wr S b N (.slice A n c) tc cur) (hl : cur.length ≤ 1000000) (s : List UInt8) :
    Calls Try.prog 9 #[.slice A n c, tsv s] wr fun e w' => e = .returned (.int .i64 (tplace cur s)) ∧ wr = w' := by
  obtain ⟨A', n', c', e, hn, _, _, hr⟩ := h.2.2.1.lis
  injection e with e1 e2 e3
  subst e1; subst e2; subst e3
  exact place_any _ _ _ cur s (by omega) wr hr

theorem tnum_is {l : List (List UInt8)} {s : List UInt8} (h : s ∈ l) : tplace l s = (tnum l s : Int) := by
  unfold tplace tnum
  rw [if_pos h, if_pos h]

set_option maxRecDepth 100000 in
set_option maxHeartbeats 4000000 in
theorem plays_short (L La : Option Addr) (m d ma da n0 : Nat) (ts : List (List UInt8)) (acs : List Tk) (hm : m ≤ 60) (hma : ma ≤ 60) (hts : ∀ s ∈ ts, s.length ≤ maxLen) (hfit : ∀ a ∈ acs, a.fits) (w : World) (hn0 : w.heap.size = n0)
    (hr : Reads w n0 1 L m (ts.map tsv)) (hra : Reads w n0 3 La ma (tks acs)) :
    Calls Try.prog 3 #[.slice L m d, .slice La ma da] w fun e w' => e = .returned (.bool true) ∧ Below n0 w w' := by
  have hml : ts.length = m := by have := hr.1; simpa using this
  have hal : acs.length = ma := by have := hra.1; rw [tks_len] at this; omega
  have hnew := New_any L m d n0 ts (by omega) hts w (by omega) hr
  rw [hn0] at hnew
  have HNEW := Lib.hid hnew
  have HML := Lib.hid hml
  have HAL := Lib.hid hal
  have HFIT := Lib.hid hfit
  have HR := Lib.hid hr
  have HRA := Lib.hid hra
  have HN0 := Lib.hid hn0
  obtain ⟨l, hl⟩ : ∃ l, l = tnew ts := ⟨_, rfl⟩
  have HLL : Hid (l.length ≤ 60) := by show l.length ≤ 60; rw [hl]; have := tnew_len ts; omega
  have HL := Lib.hid hl
  have hm1 : decide (60 < (m : Int)) = false := by rw [decide_eq_false_iff_not]; omega
  have hma1 : decide (60 < (ma : Int)) = false := by rw [decide_eq_false_iff_not]; omega
  rw [← hl] at HNEW
  clear hnew hml hts hr hn0 hl hal hfit hra
  go_enter Try.func3, Try.ntmps3
  go_wp2_with (first
    | (go_at_call 6; refine HNEW.out.mono ?_; rintro e w1 ⟨rfl, ht, hb1⟩
       have hsz1 : n0 ≤ w1.heap.size := by have := hb1.size; rw [HN0.out] at this; exact this
       have hrn := rnew_any L m d ts (by omega) w1 ((HR.out.below hb1).more hsz1)
       rw [← HL.out] at hrn
       have ht0 := ht.wide (S2 := fun k => n0 ≤ k ∧ k < w1.heap.size) (fun k h1 h2 => ⟨h1, h2⟩)
       have HT0 := Lib.hid ht0
       have HB1 := Lib.hid hb1
       have HS1 := Lib.hid hsz1
       have HRN := Lib.hid hrn
       clear ht hb1 hsz1 hrn ht0)
    | (go_at_call 7; refine HRN.out.mono ?_; rintro e w2 ⟨v, rfl, ho, hb2⟩
       have hp : PInv n0 w w2 (fun k => n0 ≤ k ∧ k < w1.heap.size) n0 m v l l :=
         ⟨HT0.out.turn (Turn.of_below hb2 : Turn (fun k => False) w1 w2) (fun _ _ _ h => h), fun k hk => ⟨hk.1, Nat.lt_of_lt_of_le hk.2 hb2.size⟩, ho.less HS1.out, fun g hg h => by have := own_block ho g hg; omega, HB1.out.trans (hb2.mono HS1.out), Nat.le_trans HS1.out hb2.size⟩
       obtain ⟨A, n, c, rfl, -⟩ := ho.lis
       have HP0 := Lib.hid hp
       have HSA := Lib.hid (hp.same (by have := HLL.out; omega))
       clear ho hb2 hp)
    | (go_at_call 8; refine HSA.out.mono ?_; rintro e w3 ⟨rfl, rfl⟩))
  go_loopw [5, 6, 38] (fun tv lv idx wr => ∃ (i : Nat) (S : Nat → Prop) (b N : Nat) (A : Option Addr) (n c : Nat) (cur : List (List UInt8)), i ≤ ma ∧ idx = .int .i64 (i : Int) ∧ tv = .pointer (some ⟨b, 0, none⟩) ∧ lv = .slice A n c ∧ PInv n0 w wr S b N (.slice A n c) cur cur ∧ cur.length ≤ 60 + i ∧ N ≤ 60 + i) (fun tv lv idx wr => ma - (intOf idx).toNat)
  case atStart => exact ⟨0, _, _, _, _, _, _, _, by omega, rfl, rfl, rfl, HP0.out, by have := HLL.out; omega, by omega⟩
  case round =>
    clear HSA HP0 HRN HT0
    obtain ⟨i, S, b, N, A, n, c, cur, hi, rfl, rfl, rfl, hp, hcl, hN⟩ := hrel
    by_cases hlt : i < ma
    · obtain ⟨t, ht⟩ : ∃ t, acs[i]? = some t := ⟨_, List.getElem?_eq_getElem (by rw [HAL.out]; exact hlt)⟩
      obtain ⟨ad, hL, hadb, hcc⟩ := (HRA.out.below hp.2.2.2.2.1).2 (by omega)
      subst hL
      obtain ⟨t0, t1, t2⟩ := tks_at acs i t ht
      have k0 := hcc _ _ t0
      have k1 := hcc _ _ t1
      have k2 := hcc _ _ t2
      rw [add_one] at k1
      rw [add_two] at k2
      have hfit : t.text.length ≤ maxLen := HFIT.out t (List.mem_of_getElem? ht)
      obtain ⟨kd, s, nn⟩ := t
      unfold tsv at k1
      simp only at k0 k1 k2 hfit
      obtain ⟨x7, hx7⟩ : ∃ x7, x7 = wr.alloc (.cells #[.int .i64 kd, .string (tx s), .int .i64 nn] 30) := ⟨_, rfl⟩
      have hb7 : Below wr.heap.size wr x7 := by rw [hx7]; exact (Below.refl _ wr).alloc (Nat.le_refl _) _
      have hp7 := hp.below hb7
      have hh7 : x7.heap[wr.heap.size]? = some (.cells #[.int .i64 kd, .string (tx s), .int .i64 nn] 30 (0, 0)) := by rw [hx7]; show (wr.heap.push _)[wr.heap.size]? = _; exact Array.getElem?_push_size
      have hs7 : ¬ S wr.heap.size := fun h => by have := (hp.2.1 _ h).2; omega
      have hsz7 : x7.heap.size = wr.heap.size + 1 := by rw [hx7]; exact Array.size_push _
      have qc0 := field_cell (i := 0) hh7 rfl
      have qc1 := field_cell (i := 1) hh7 rfl
      have qc2 := field_cell (i := 2) hh7 rfl
      have HH7 := Lib.hid hh7
      have HS7 := Lib.hid hs7
      have HP7 := Lib.hid hp7
      have HSZ7 := Lib.hid hsz7
      have hcl0 : cur.length ≤ 120 := by omega
      have hN0 : N ≤ 120 := by omega
      clear hp hadb hcc t0 t1 t2 ht hb7 hp7 hh7 hs7 hsz7
      by_cases hk0 : kd = 0
      · subst hk0
        by_cases hin : s ∈ cur
        · have hpl := HP7.out.place (by omega) s
          rw [tnum_is hin] at hpl
          have hfi := Find_any S b N cur s hfit x7 HP7.out.1
          rw [decide_eq_true hin] at hfi
          have hput := put_in (.slice A n c) cur s hin (by omega) x7 HP7.out.2.2.1.lis
          have hid := ID_any S b N cur s hfit (by omega) (by omega) x7 HP7.out.1
          rw [decide_eq_true hin, tput_in hin] at hid
          have hkl := tnum_lt hin
          have htp := tnum_is hin
          obtain ⟨k, hk⟩ : ∃ k, k = tnum cur s := ⟨_, rfl⟩
          rw [← hk] at hpl hfi hid hkl htp
          have hwk : IntKind.u64.wrap (k : Int) = (k : Int) := by rw [IntKind.wrap_u64]; omega
          have hdk : decide ((k : Int) < 0) = false := by rw [decide_eq_false_iff_not]; omega
          have HPL := Lib.hid hpl
          have HFI := Lib.hid hfi
          have HPUT := Lib.hid hput
          have HID := Lib.hid hid
          have HTP := Lib.hid htp
          unfold tsv at HPL HFI HPUT HID
          rw [hx7] at qc0 qc1 qc2 HPL HFI HPUT HID
          have HX7 := Lib.hid hx7
          clear hx7 hpl hfi hput hid hk hin htp hfit
          go_wp2_with (first
            | (go_at_call 9; refine HPL3.out.mono ?_; rintro e w4 ⟨rfl, rfl⟩)
            | (go_at_call 9; refine HPL.out.mono ?_; rintro e w3 ⟨rfl, rfl⟩)
            | (go_at_call 10; refine HFI.out.mono ?_; rintro e w3 ⟨rfl, rfl⟩)
            | (go_at_call 11; refine HPUT.out.mono ?_; rintro e w3 ⟨rfl, rfl⟩)
            | (go_at_call 12; refine HID.out.mono ?_; rintro e w3 ⟨rfl, ht3, hu3⟩
               rw [← HX7.out] at ht3 hu3
               have hp3 := HP7.out.turn (fun k h => h) ht3 hu3
               have hh3 := (hu3.2.2.2.2 _ (by have := HSZ7.out; omega) HS7.out).trans HH7.out
               have qd0 := field_cell (i := 0) hh3 rfl
               have qd1 := field_cell (i := 1) hh3 rfl
               have qd2 := field_cell (i := 2) hh3 rfl
               have hpl3 := hp3.place (by omega) s
               rw [HTP.out] at hpl3
               unfold tsv at hpl3
               have HPL3 := Lib.hid hpl3
               have HSA := Lib.hid (hp3.same (by omega))
               have HP3 := Lib.hid hp3
               clear ht3 hu3 hp3 hh3 hpl3)
            | (go_at_call 8; refine HSA.out.mono ?_; rintro e w5 ⟨rfl, rfl⟩))
          exact ⟨⟨i + 1, _, b, N + 1, A, n, c, cur, by omega, by go_num, rfl, rfl, HP3.out, by omega, by omega⟩, by simp [intOf]; omega⟩
        · have hpl := HP7.out.place (by omega) s
          have hno : tplace cur s = (-1 : Int) := if_neg hin
          rw [hno] at hpl
          have hfi := Find_any S b N cur s hfit x7 HP7.out.1
          have hnz : tnum cur s = 0 := if_neg hin
          rw [decide_eq_false hin, hnz] at hfi
          have hput := put_new (.slice A n c) cur s hin (by omega) x7 HP7.out.2.2.1.lis
          have hid := fun (w2 : World) (h : Tab w2 S b N cur) => ID_any S b N cur s hfit (by omega) (by omega) w2 h
          rw [decide_eq_false hin, tput_new hin, tnum_snoc hin] at hid
          have htp : tplace (cur ++ [s]) s = ((cur.length : Nat) : Int) := by rw [tnum_is (by simp), tnum_snoc hin]
          obtain ⟨cu2, hcu2⟩ : ∃ cu2, cu2 = cur ++ [s] := ⟨_, rfl⟩
          have hcl2 : cu2.length = cur.length + 1 := by rw [hcu2]; simp
          rw [← hcu2] at hput hid htp
          obtain ⟨k, hk⟩ : ∃ k, k = cur.length := ⟨_, rfl⟩
          rw [← hk] at hput hid htp hcl hcl2 hcl0
          have hwk : IntKind.u64.wrap (k : Int) = (k : Int) := by rw [IntKind.wrap_u64]; omega
          have HPL := Lib.hid hpl
          have HFI := Lib.hid hfi
          have HPUT := Lib.hid hput
          have HID := Lib.hid hid
          have HTP := Lib.hid htp
          have HCL2 := Lib.hid hcl2
          unfold tsv at HPL HFI HPUT HID
          rw [hx7] at qc0 qc1 qc2 HPL HFI HPUT
          have HX7 := Lib.hid hx7
          clear hx7 hpl hfi hput hid hk hin htp hfit hno hnz hcu2 hcl2
          go_wp2_with (first
            | (go_at_call 9; refine HPL3.out.mono ?_; rintro e w4 ⟨rfl, rfl⟩)
            | (go_at_call 9; refine HPL.out.mono ?_; rintro e w3 ⟨rfl, rfl⟩)
            | (go_at_call 10; refine HFI.out.mono ?_; rintro e w3 ⟨rfl, rfl⟩)
            | (go_at_call 11; refine HPUT.out.mono ?_; rintro e w2 ⟨v2, rfl, ho2, hb2⟩
               rw [← HX7.out] at ho2 hb2
               have ho2' : Own w2 x7.heap.size v2 cu2 := by unfold Own; rw [HCL2.out]; exact ho2
               have hp2 := HP7.out.put (ho2'.less HP7.out.2.2.2.2.2) (.inr (own_block ho2)) hb2
               obtain ⟨A2, n2, c2, rfl, -⟩ := ho2'.lis
               have hh2 := (hb2.block _ (by have := HSZ7.out; omega)).trans HH7.out
               have qe0 := field_cell (i := 0) hh2 rfl
               have qe1 := field_cell (i := 1) hh2 rfl
               have qe2 := field_cell (i := 2) hh2 rfl
               have HID2 := Lib.hid (HID.out w2 hp2.1)
               have HH2 := Lib.hid hh2
               have HP2 := Lib.hid hp2
               have HSZ2 : Hid (wr.heap.size < w2.heap.size) := by show _ < _; have := HSZ7.out; have := hb2.size; omega
               clear ho2 hb2 ho2' hp2 hh2)
            | (go_at_call 12; refine HID2.out.mono ?_; rintro e w3 ⟨rfl, ht3, hu3⟩
               have hp3 := HP2.out.turn (fun k h => h) ht3 hu3
               have hh3 := (hu3.2.2.2.2 _ HSZ2.out HS7.out).trans HH2.out
               have qd0 := field_cell (i := 0) hh3 rfl
               have qd1 := field_cell (i := 1) hh3 rfl
               have qd2 := field_cell (i := 2) hh3 rfl
               have hpl3 := hp3.place (by rw [HCL2.out]; omega) s
               rw [HTP.out] at hpl3
               unfold tsv at hpl3
               have HPL3 := Lib.hid hpl3
               have HSA := Lib.hid (hp3.same (by rw [HCL2.out]; omega))
               have HP3 := Lib.hid hp3
               clear ht3 hu3 hp3 hh3 hpl3)
            | (go_at_call 8; refine HSA.out.mono ?_; rintro e w5 ⟨rfl, rfl⟩))
          exact ⟨⟨i + 1, _, b, N + 1, A2, n2, c2, cu2, by omega, by go_num, rfl, rfl, HP3.out, by rw [HCL2.out]; omega, by omega⟩, by simp [intOf]; omega⟩
      · by_cases hk1 : kd = 1
        · subst hk1
          have HCU := Lib.hid (Cut_any S b N cur nn (by omega) x7 HP7.out.1)
          rw [hx7] at qc0 qc1 qc2 HCU
          have HX7 := Lib.hid hx7
          clear hx7 hk0
          go_wp2_with (first
            | (go_at_call 13; refine HCU.out.mono ?_; rintro e w3 ⟨rfl, ht3, hu3⟩
               rw [← HX7.out] at hu3
               have hp3 := HP7.out.turn (fun k h => .inl h) ht3 hu3
               have hh3 := (hu3.2.2.2.2 _ (by have := HSZ7.out; omega) HS7.out).trans HH7.out
               have qd0 := field_cell (i := 0) hh3 rfl
               have qd1 := field_cell (i := 1) hh3 rfl
               have qd2 := field_cell (i := 2) hh3 rfl
               have hrc := rcut_any n0 (.slice A n c) cur nn (by omega) w3 hp3.2.2.1
               have HRC := Lib.hid hrc
               have HP3 := Lib.hid hp3
               clear ht3 hu3 hp3 hh3 hrc)
            | (go_at_call 14; refine HRC.out.mono ?_; rintro e w4 ⟨v4, rfl, ho4, hv4, rfl⟩
               have hp4 : PInv n0 w w3 _ b N v4 _ (cur.take (tcut cur.length nn)) := ⟨HP3.out.1, HP3.out.2.1, ho4, by rw [hv4]; exact HP3.out.2.2.2.1, HP3.out.2.2.2.2⟩
               obtain ⟨A4, n4, c4, rfl, -⟩ := ho4.lis
               have HSA := Lib.hid (hp4.same (by rw [List.length_take]; omega))
               have HP4 := Lib.hid hp4
               clear ho4 hv4 hp4)
            | (go_at_call 8; refine HSA.out.mono ?_; rintro e w5 ⟨rfl, rfl⟩))
          exact ⟨⟨i + 1, _, b, N, A4, n4, c4, cur.take (tcut cur.length nn), by omega, by go_num, rfl, rfl, HP4.out, by rw [List.length_take]; omega, by omega⟩, by simp [intOf]; omega⟩
        · by_cases hk2 : kd = 2
          · subst hk2
            have HCO := Lib.hid (Copy_any S b N cur (by omega) x7 HP7.out.1)
            rw [hx7] at qc0 qc1 qc2 HCO
            have HX7 := Lib.hid hx7
            clear hx7 hk0 hk1
            go_wp2_with (first
              | (go_at_call 15; refine HCO.out.mono ?_; rintro e w3 ⟨b3, rfl, ht3, hb3⟩
                 rw [← HX7.out] at ht3 hb3
                 have hp3 := HP7.out.below hb3
                 have htn : Tab w3 (fun k => x7.heap.size ≤ k ∧ k < w3.heap.size) b3 N cur := ht3.wide (fun k h1 h2 => ⟨h1, h2⟩)
                 have hcu := Cut_any S b N cur 0 (by omega) w3 hp3.1
                 have HP3 := Lib.hid hp3
                 have HTN := Lib.hid htn
                 have HB3 := Lib.hid hb3
                 have HCU := Lib.hid hcu
                 clear ht3 hb3 hp3 htn hcu)
              | (go_at_call 13; refine HCU.out.mono ?_; rintro e w4 ⟨rfl, ht4, hu4⟩
                 have hp4 := HP3.out.turn (fun k h => .inl h) ht4 hu4
                 have htn4 := HTN.out.turn hu4 (fun k hk _ hs => by have := (HP7.out.2.1 k hs).2; omega)
                 have hid : Calls Try.prog 12 #[.pointer (some ⟨b, 0, none⟩), .string ⟨#[111, 116, 104, 101, 114]⟩] w4 fun e w' => (∃ x, e = .returned (.tuple x)) ∧ Turn S w4 w' :=
                   (ID_any S b N (cur.take (tcut cur.length 0)) [111, 116, 104, 101, 114] (by decide) (by rw [List.length_take]; omega) (by omega) w4 ht4).mono (fun e w' h => ⟨⟨_, h.1⟩, h.2.2⟩)
                 have HID := Lib.hid hid
                 have HP4 := Lib.hid hp4
                 have HT4 := Lib.hid htn4
                 have HSZ4 : Hid (w3.heap.size ≤ w4.heap.size) := hu4.2.2.2.1
                 clear ht4 hu4 hp4 htn4 hid)
              | (go_at_call 12; refine HID.out.mono ?_; rintro e w5 ⟨⟨x5, rfl⟩, hu5⟩
                 have hlt5 : ∀ k, S k → k < x7.heap.size := fun k hk => (HP7.out.2.1 k hk).2
                 have htn5 := HT4.out.turn hu5 (fun k hk _ hs => by have := hlt5 k hs; omega)
                 have hown5 : Own w5 n0 (.slice A n c) cur := own_heap HP4.out.2.2.1 (fun g hg => hu5.2.2.2.2 g (own_lt HP4.out.2.2.1 g hg) (HP7.out.2.2.2.1 g hg))
                 have hsz5 : w3.heap.size ≤ w5.heap.size := Nat.le_trans HSZ4.out hu5.2.2.2.1
                 have hp5 : PInv n0 w w5 (fun k => x7.heap.size ≤ k ∧ k < w3.heap.size) b3 N (.slice A n c) cur cur :=
                   ⟨htn5, fun k hk => ⟨Nat.le_trans HP7.out.2.2.2.2.2 hk.1, Nat.lt_of_lt_of_le hk.2 hsz5⟩, hown5, fun g hg hs => by have := own_lt HP7.out.2.2.1 g hg; omega, HP4.out.2.2.2.2.1.trans (hu5.below (fun k hk => (HP7.out.2.1 k hk).1) HP4.out.2.2.2.2.2), Nat.le_trans HP4.out.2.2.2.2.2 hu5.2.2.2.1⟩
                 have HP5 := Lib.hid hp5
                 have HSA := Lib.hid (hp5.same (by omega))
                 clear hu5 htn5 hown5 hsz5 hp5 hlt5)
              | (go_at_call 8; refine HSA.out.mono ?_; rintro e w6 ⟨rfl, rfl⟩))
            exact ⟨⟨i + 1, _, b3, N, A, n, c, cur, by omega, by go_num, rfl, rfl, HP5.out, by omega, by omega⟩, by simp [intOf]; omega⟩
          · have HSA := Lib.hid (HP7.out.same (by omega))
            rw [hx7] at qc0 qc1 qc2 HSA HP7
            clear hx7
            go_wp2_with (go_at_call 8; refine HSA.out.mono ?_; rintro e w6 ⟨rfl, rfl⟩)
            exact ⟨⟨i + 1, _, b, N, A, n, c, cur, by omega, by go_num, rfl, rfl, HP7.out, by omega, by omega⟩, by simp [intOf]; omega⟩
    · obtain rfl : i = ma := by omega
      have HFX := Lib.hid (intern_fixed wr)
      have HP := Lib.hid hp
      clear hp
      go_wp2_with (go_at_call 5; refine HFX.out.mono ?_; rintro e w3 ⟨rfl, hb3⟩)
      go_ret
      exact ⟨rfl, HP.out.2.2.2.2.1.trans (hb3.mono HP.out.2.2.2.2.2)⟩

end Go.Proofs.Ytfdeafhmfmeafaa
