/- Texts of one proof, one behind the other. -/
import Derived.Test.YtidkahmjjknkmaaMh14
import Derived.Test.YtidkahmjjknkmaaMh1
import Derived.Test.YtidkahmjjknkmaaMh4
import Derived.Deep.Slices
import Derived.Deep.Strs
import Derived.Test.YtidkahmjjknkmaaMh5

/- schema.Get reads what Put lays. -/
namespace Go.Proofs.Ytidkahmjjknkmaa
open Go.RowKit

set_option maxRecDepth 100000 in
set_option maxHeartbeats 4000000 in
theorem get_ok (S : Nat → Prop) (bt B N n c a : Nat) (ver : Int) (tl : List (List UInt8)) (r : Rc) (l : List Dp) (pre post : List (List UInt8)) (A : Option Addr) (hm : MayP ver r l) (hfit : Fits r l) (hnu : Nums r l) (hn2 : n ≤ 100000) (htl : tl.length ≤ 800000000) (hN : N ≤ 800000000) (ha : pre.length = a) (w : World) (hB : B ≤ w.heap.size) (hT : Tab w S bt N tl) (hr : PlsT w B S A n c (pre ++ (payL ver tl r l ++ post))) :
    Calls Try.prog 16 #[.int .i64 ver, .pointer (some ⟨bt, 0, none⟩), .slice A n c, .int .i64 (a : Int)] w fun e w' => ∃ (A' : Option Addr) (n' c' : Nat) (S' : Nat → Prop), e = .returned (.tuple #[rcv r A' n' c', .int .i64 ((a + (payL ver tl r l).length : Nat) : Int), .int .i64 0]) ∧ Deps w' w.heap.size A' n' c' l ∧ (∀ ad, A' = some ad → ¬ S' ad.block) ∧ (∃ N', N' ≤ N + 36 ∧ Tab w' S' bt N' (tabT ver tl r l)) ∧ (∀ k, S' k → k < w'.heap.size ∧ (S k ∨ w.heap.size ≤ k)) ∧ Turn S w w' := by
  have hver : ver = 1 ∨ ver = 2 ∨ ver = 3 := by have := hm.1; have := hm.2.1; omega
  have hv1 := hm.1
  have hv3 := hm.2.1
  have d1 : decide (ver < 1) = false := decide_eq_false (by omega)
  have d2 : decide (ver > 3) = false := decide_eq_false (by omega)
  obtain ⟨q, hq⟩ : ∃ q, q = (freT ver tl r l).length := ⟨_, rfl⟩
  have hq18 : q ≤ 18 := by rw [hq]; exact freT_len hm
  have hpl : (payL ver tl r l).length = q + 1 := by unfold payL; rw [List.length_append, ← hq]; rfl
  have hlen : n = a + (q + 1) + post.length := by have h1 := hr.2.1; rw [List.length_append, List.length_append, hpl, ha] at h1; omega
  have hcn : n ≤ c := hr.1
  have hrd := hr.drop (k := a) (by omega)
  have hdrop : (pre ++ (payL ver tl r l ++ post)).drop a = payL ver tl r l ++ post := by rw [← ha, List.drop_left]
  rw [hdrop, if_neg (by omega)] at hrd
  obtain ⟨ad, rfl, hab, _⟩ : ∃ ad, A = some ad ∧ ad.block < B ∧ True := by
    obtain ⟨_, _, vs, h1, _⟩ := hr
    obtain ⟨ad, h2, h3, _⟩ := h1.2 (by omega)
    exact ⟨ad, h2, h3, trivial⟩
  have hrf := hrd.upto (k := q + 1) (by omega)
  have htake : (payL ver tl r l ++ post).take (q + 1) = freT ver tl r l ++ [payB ver (tabT ver tl r l) r l] := by rw [List.take_append_of_le_length (by rw [hpl]; exact Nat.le_refl _), List.take_of_length_le (by rw [hpl]; exact Nat.le_refl _)]; rfl
  rw [htake] at hrf
  have hah : tahead (payL ver tl r l ++ post) = q := by
    unfold payL
    rw [List.append_assoc, List.singleton_append, tahead_texts _ _ _ (fun t ht => (freT_txt hm t ht).1) (payB_txt _ _ _ _), ← hq]
  have h0 := one_new w (.cells #[.int .i64 0, .string { data := #[] }, .int .u64 0, .slice none 0 0, .int .u64 0, .int .u64 0, .string { data := #[] }] 26)
  have hz : (w.alloc (.cells #[.int .i64 0, .string { data := #[] }, .int .u64 0, .slice none 0 0, .int .u64 0, .int .u64 0, .string { data := #[] }] 26)).heap.size = w.heap.size + 1 := by simp
  have hb0 := (Below.refl w.heap.size w).alloc (Nat.le_refl _) (.cells #[.int .i64 0, .string { data := #[] }, .int .u64 0, .slice none 0 0, .int .u64 0, .int .u64 0, .string { data := #[] }] 26)
  have hta := ahead_any B (n - a) (c - a) (payL ver tl r l ++ post) (some (ad.add a)) (by omega) (w.alloc (.cells #[.int .i64 0, .string { data := #[] }, .int .u64 0, .slice none 0 0, .int .u64 0, .int .u64 0, .string { data := #[] }] 26)) (hrd.less.below (hb0.mono hB))
  rw [hah] at hta
  have HAH := Lib.hid hta
  have ha0 : (0 : Int) ≤ (a : Int) := by omega
  have ha1 : (a : Int) < (n : Int) := by omega
  have han : a < n := by omega
  have haq : a + q < n := by omega
  have haq1 : a + q + 1 ≤ n := by omega
  have haq2 : (a : Int) + (q : Int) < (n : Int) := by omega
  have haq3 : (a : Int) + (q : Int) + 1 ≤ (n : Int) := by omega
  have HB0 := Lib.hid hb0
  have HZ := Lib.hid hz
  have HA0 := Lib.hid h0
  have HRF := Lib.hid hrf
  obtain ⟨T0, hT0⟩ : ∃ T0 : Nat → Prop, T0 = fun k => S k ∧ k < w.heap.size := ⟨_, rfl⟩
  have htz : Tab (w.alloc (.cells #[.int .i64 0, .string { data := #[] }, .int .u64 0, .slice none 0 0, .int .u64 0, .int .u64 0, .string { data := #[] }] 26)) T0 bt N tl := by rw [hT0]; exact (hT.wide (fun k h1 h2 => ⟨h1, h2⟩)).keep (fun k hk _ => hb0.block k hk.2)
  have HLEN := Lib.hid (Len_any T0 bt N tl (w.alloc (.cells #[.int .i64 0, .string { data := #[] }, .int .u64 0, .slice none 0 0, .int .u64 0, .int .u64 0, .string { data := #[] }] 26)) htz)
  have hbig : (tabT ver tl r l).length ≤ 1073741824 := by have := tabT_len (tl := tl) hm; omega
  have hpay := payB_kind hm hnu hbig (tabT_mem ver tl r l)
  have HTK : Hid (Calls Try.prog 33 #[.int .i64 ver, .pointer (some ⟨bt, 0, none⟩), .slice (some (ad.add a)) (q + 1) (c - a)] (w.alloc (.cells #[.int .i64 0, .string { data := #[] }, .int .u64 0, .slice none 0 0, .int .u64 0, .int .u64 0, .string { data := #[] }] 26)) fun e w' => ∃ (A' : Option Addr) (n' c' : Nat) (S' : Nat → Prop), e = .returned (.agg #[.int .i64 r.kind, .string (tx r.target), .int .u64 r.rule, .slice A' n' c', .int .u64 r.out, .int .u64 r.time, .string (tx r.tag)]) ∧ Deps w' (w.alloc (.cells #[.int .i64 0, .string { data := #[] }, .int .u64 0, .slice none 0 0, .int .u64 0, .int .u64 0, .string { data := #[] }] 26)).heap.size A' n' c' l ∧ (∀ ad, A' = some ad → ¬ S' ad.block) ∧ Tab w' S' bt (N + q) (tabT ver tl r l) ∧ (∀ k, S' k → k < w'.heap.size ∧ (T0 k ∨ (w.alloc (.cells #[.int .i64 0, .string { data := #[] }, .int .u64 0, .slice none 0 0, .int .u64 0, .int .u64 0, .string { data := #[] }] 26)).heap.size ≤ k)) ∧ Turn T0 (w.alloc (.cells #[.int .i64 0, .string { data := #[] }, .int .u64 0, .slice none 0 0, .int .u64 0, .int .u64 0, .string { data := #[] }] 26)) w') := by
    have h1 := taken_any T0 bt B N (q + 1) (c - a) ver hver tl (freT ver tl r l) (payB ver (tabT ver tl r l) r l) (some (ad.add a)) (fun t ht => (freT_txt hm t ht).2) (payB_len hm hnu hbig) (by rw [← hq]) (by omega) (by omega) (by omega) (w.alloc (.cells #[.int .i64 0, .string { data := #[] }, .int .u64 0, .slice none 0 0, .int .u64 0, .int .u64 0, .string { data := #[] }] 26)) (by rw [hz]; omega) htz ((hrf.turn (Turn.of_below hb0) hB).wide (fun k _ hk => by rw [hT0] at hk; exact hk.1)) (tabT ver tl r l) (freT_back _ _ _ _)
    rw [← hq, hpay.1, hpay.2] at h1
    exact h1
  have HBW := Lib.hid hB
  have HT0 := Lib.hid hT0
  have HQ := Lib.hid hq
  have HPLN := Lib.hid hpl
  have HM := Lib.hid hm
  have HFIT := Lib.hid hfit
  have HNU := Lib.hid hnu
  have hq1 : a + q + 1 - a = q + 1 := by omega
  have HTL := Lib.hid htl
  have HN := Lib.hid hN
  clear hpay htz hT0 hB hT hq hm hfit hnu htl hN
  clear hr hrd hdrop htake hah hta h0 hz hb0 hlen hpl hrf
  go_enter Try.func16, Try.ntmps16
  go_wp2_with (go_at_call 32; refine HAH.out.mono ?_; rintro e w3 ⟨rfl, rfl⟩)
  go_wp2_with (go_at_call 30; refine HLEN.out.mono ?_; rintro e w3 ⟨rfl, rfl⟩)
  (
       refine HTK.out.mono ?_
       rintro e w4 ⟨A9, n9, c9, S9, rfl, hd9, hap9, ht9, hs9, htu9⟩
       have hz4 : w4.heap[w.heap.size]? = some (.cells #[.int .i64 0, .string { data := #[] }, .int .u64 0, .slice none 0 0, .int .u64 0, .int .u64 0, .string { data := #[] }] 26 (0, 0)) := (htu9.2.2.2.2 _ (by rw [HZ.out]; omega) (fun h => by rw [HT0.out] at h; omega)).trans HA0.out
       have f0 := at_cell (i := 0) hz4 rfl
       have y0 := at_frozen (i := 0) hz4
       have f1 := at_cell (i := 1) hz4 rfl
       have y1 := at_frozen (i := 1) hz4
       have f2 := at_cell (i := 2) hz4 rfl
       have y2 := at_frozen (i := 2) hz4
       have f3 := at_cell (i := 3) hz4 rfl
       have y3 := at_frozen (i := 3) hz4
       have f4 := at_cell (i := 4) hz4 rfl
       have y4 := at_frozen (i := 4) hz4
       have f5 := at_cell (i := 5) hz4 rfl
       have y5 := at_frozen (i := 5) hz4
       have f6 := at_cell (i := 6) hz4 rfl
       have y6 := at_frozen (i := 6) hz4
       have hws := (set_same (set_same (set_same (set_same (set_same (set_same (set_same hz4 0 (.int .i64 r.kind)) 1 (.string (tx r.target))) 2 (.int .u64 r.rule)) 3 (.slice A9 n9 c9)) 4 (.int .u64 r.out)) 5 (.int .u64 r.time)) 6 (.string (tx r.tag)))
       have htw := ((((((((Turn.refl (fun k => k = w.heap.size) w4).setCell w.heap.size 0 (.int .i64 r.kind) rfl).setCell w.heap.size 1 (.string (tx r.target)) rfl).setCell w.heap.size 2 (.int .u64 r.rule) rfl).setCell w.heap.size 3 (.slice A9 n9 c9) rfl).setCell w.heap.size 4 (.int .u64 r.out) rfl).setCell w.heap.size 5 (.int .u64 r.time) rfl).setCell w.heap.size 6 (.string (tx r.tag)) rfl)
       have hnr : ¬ S9 w.heap.size := fun h => by
         rcases (hs9 _ h).2 with h1 | h1
         · rw [HT0.out] at h1; omega
         · rw [HZ.out] at h1; omega
       have htw9 := ht9.turn htw (fun k hk _ h => hnr (h ▸ hk))
       have hcut := Cut_any S9 bt (N + q) (tabT ver tl r l) (tl.length : Int) (by have := tabT_len (tl := tl) HM.out; have := HTL.out; omega) _ htw9
       rw [tabT_take] at hcut
       have HCUT := Lib.hid hcut
       have HWS := Lib.hid hws
       have HTW := Lib.hid htw
       have HD9 := Lib.hid hd9
       have HAP9 := Lib.hid hap9
       have HS9 := Lib.hid hs9
       have HTU9 := Lib.hid htu9
       have HNR := Lib.hid hnr
       clear hd9 hap9 ht9 hs9 htu9 hz4 hws htw hnr htw9 hcut)
  go_wp2_with (first
    | (go_at_call 34
       refine HCUT.out.mono ?_
       rintro e w5 ⟨rfl, ht5, htu5⟩
       have hlt5 : w.heap.size < w4.heap.size := by have h1 := HTU9.out.2.2.2.1; rw [HZ.out] at h1; omega
       have hrec5 : w5.heap[w.heap.size]? = some (.cells #[.int .i64 r.kind, .string (tx r.target), .int .u64 r.rule, .slice A9 n9 c9, .int .u64 r.out, .int .u64 r.time, .string (tx r.tag)] 26 (0, 0)) := (htu5.2.2.2.2 _ (Nat.lt_of_lt_of_le hlt5 HTW.out.2.2.2.1) HNR.out).trans HWS.out
       have g0 := at_cell (i := 0) hrec5 rfl
       have g1 := at_cell (i := 1) hrec5 rfl
       have g2 := at_cell (i := 2) hrec5 rfl
       have g3 := at_cell (i := 3) hrec5 rfl
       have g4 := at_cell (i := 4) hrec5 rfl
       have g5 := at_cell (i := 5) hrec5 rfl
       have g6 := at_cell (i := 6) hrec5 rfl
       have hown9 : ∀ g, (Value.slice A9 n9 c9).ownBlock = some g → g < w4.heap.size ∧ g ≠ w.heap.size ∧ ¬ S9 g := fun g hg => by
         refine ⟨own_lt HD9.out.1 g hg, fun h => ?_, fun h => ?_⟩
         · have h1 := own_block HD9.out.1 g hg
           rw [HZ.out] at h1
           omega
         · cases A9 with
           | none => cases hg
           | some x => exact HAP9.out x rfl (by have h1 : x.block = g := Option.some.inj hg; rw [h1]; exact h)
       have hown5 := own_heap (w' := w5) HD9.out.1 (fun g hg => (htu5.2.2.2.2 g (Nat.lt_of_lt_of_le (hown9 g hg).1 HTW.out.2.2.2.1) (hown9 g hg).2.2).trans (HTW.out.2.2.2.2 g (hown9 g hg).1 (hown9 g hg).2.1))
       have HPUT := Lib.hid (put_ok S9 bt (N + q) n9 c9 ver tl r A9 l HM.out HFIT.out HNU.out (by have := HTL.out; omega) (by have := HN.out; omega) w5 ht5 (fun ad h1 _ => HAP9.out ad h1) (Reads.of_own hown5))
       have HREC5 := Lib.hid hrec5
       have HOWN5 := Lib.hid hown5
       have HOWN9 := Lib.hid hown9
       have HTU5 := Lib.hid htu5
       have HLT5 := Lib.hid hlt5
       clear hrec5 hown5 hown9 htu5 ht5 hlt5)
    | (go_at_call 10
       refine HPUT.out.mono ?_
       rintro e w6 ⟨va6, S6, rfl, ht6, hs6, ⟨vs6, hv6⟩, htu6⟩
       have ho6 := hv6.1
       rw [HPLN.out] at ho6
       obtain ⟨A6, c6, rfl, hc6⟩ := own_slice ho6
       have hrec6 : w6.heap[w.heap.size]? = some (.cells #[.int .i64 r.kind, .string (tx r.target), .int .u64 r.rule, .slice A9 n9 c9, .int .u64 r.out, .int .u64 r.time, .string (tx r.tag)] 26 (0, 0)) := (htu6.2.2.2.2 _ (Nat.lt_of_lt_of_le (Nat.lt_of_lt_of_le HLT5.out HTW.out.2.2.2.1) HTU5.out.2.2.2.1) HNR.out).trans HREC5.out
       have k0 := at_cell (i := 0) hrec6 rfl
       have m0 := at_frozen (i := 0) hrec6
       have k1 := at_cell (i := 1) hrec6 rfl
       have m1 := at_frozen (i := 1) hrec6
       have k2 := at_cell (i := 2) hrec6 rfl
       have m2 := at_frozen (i := 2) hrec6
       have k3 := at_cell (i := 3) hrec6 rfl
       have m3 := at_frozen (i := 3) hrec6
       have k4 := at_cell (i := 4) hrec6 rfl
       have m4 := at_frozen (i := 4) hrec6
       have k5 := at_cell (i := 5) hrec6 rfl
       have m5 := at_frozen (i := 5) hrec6
       have k6 := at_cell (i := 6) hrec6 rfl
       have m6 := at_frozen (i := 6) hrec6
       have hs9b : ∀ k, S9 k → S k ∨ w.heap.size + 1 ≤ k := fun k hk => by
         rcases (HS9.out k hk).2 with h1 | h1
         · rw [HT0.out] at h1; exact .inl h1.1
         · rw [HZ.out] at h1; exact .inr h1
       have hbw6 : Turn S w w6 := ((((Turn.of_below HB0.out).trans HTU9.out (fun k _ h => by rw [HT0.out] at h; exact h.1)).trans HTW.out (fun k hk h => by omega)).trans HTU5.out (fun k hk h => (hs9b k h).resolve_right (by omega))).trans htu6 (fun k hk h => (hs9b k h).resolve_right (by omega))
       have heqf := equalFunc_any w6.heap.size B (q + 1) c6 (q + 1) (c - a) A6 (some (ad.add a)) (payL ver tl r l) (payL ver tl r l) (by omega) (by omega) w6 (PlsC.of_rows HPLN.out.symm ⟨vs6, hv6⟩) (HRF.out.turn hbw6 HBW.out).less
       rw [decide_eq_true rfl] at heqf
       have HEQF := Lib.hid heqf
       have HREC6 := Lib.hid hrec6
       have HTU6 := Lib.hid htu6
       have HS6 := Lib.hid hs6
       have HT6 := Lib.hid ht6
       clear hrec6 hs9b hbw6 heqf htu6 hs6 ht6 hv6 ho6 hc6)
    | (go_at_call 35
       refine HEQF.out.mono ?_
       rintro e w7 ⟨rfl, rfl⟩))
  have hfin := (set_same (set_same (set_same (set_same (set_same (set_same (set_same HREC6.out 0 (.int .i64 r.kind)) 1 (.string (tx r.target))) 2 (.int .u64 r.rule)) 3 (.slice A9 n9 c9)) 4 (.int .u64 r.out)) 5 (.int .u64 r.time)) 6 (.string (tx r.tag)))
  have htn := ((((((((Turn.refl (fun k => k = w.heap.size) w6).setCell w.heap.size 0 (.int .i64 r.kind) rfl).setCell w.heap.size 1 (.string (tx r.target)) rfl).setCell w.heap.size 2 (.int .u64 r.rule) rfl).setCell w.heap.size 3 (.slice A9 n9 c9) rfl).setCell w.heap.size 4 (.int .u64 r.out) rfl).setCell w.heap.size 5 (.int .u64 r.time) rfl).setCell w.heap.size 6 (.string (tx r.tag)) rfl)
  refine bodyPost_ret (results_cell_two rfl _ _ _ _ _ _ _ rfl hfin Try.underlying26 rfl (by kernel_rfl)) rfl ?_
  have hlt := fun g hg => own_lt HOWN5.out g hg
  have hset := own_heap HOWN5.out (fun g hg => (htn.2.2.2.2 g (Nat.lt_of_lt_of_le (hlt g hg) HTU6.out.2.2.2.1) (HOWN9.out g hg).2.1).trans (HTU6.out.2.2.2.2 g (hlt g hg) (HOWN9.out g hg).2.2))
  have hS9 : ∀ k, S9 k → S k ∨ w.heap.size + 1 ≤ k := fun k hk => by
    rcases (HS9.out k hk).2 with h1 | h1
    · rw [HT0.out] at h1; exact .inl h1.1
    · rw [HZ.out] at h1; exact .inr h1
  have h45 : w.heap.size < w5.heap.size := Nat.lt_of_lt_of_le (Nat.lt_of_lt_of_le HLT5.out HTW.out.2.2.2.1) HTU5.out.2.2.2.1
  have hn6 : ¬ S6 w.heap.size := fun h => by
    rcases (HS6.out _ h).2 with h1 | h1
    · exact HNR.out h1
    · omega
  have hnum : ((a + (payL ver tl r l).length : Nat) : Int) = (a : Int) + (q : Int) + 1 := by rw [HPLN.out]; omega
  refine ⟨A9, n9, c9, S6, by rw [hnum]; rfl, ⟨own_less hset (by rw [HZ.out]; omega), HD9.out.2⟩, fun x hx h => ?_, ⟨N + q + 18, by omega, HT6.out.turn htn (fun k hk _ h => hn6 (h ▸ hk))⟩, fun k hk => ⟨Nat.lt_of_lt_of_le (HS6.out k hk).1 htn.2.2.2.1, ?_⟩, ?_⟩
  · subst hx
    have h1 := HOWN9.out x.block rfl
    rcases (HS6.out _ h).2 with h2 | h2
    · exact h1.2.2 h2
    · have h3 := HTW.out.2.2.2.1
      have h4 := HTU5.out.2.2.2.1
      have h5 := h1.1
      omega
  · rcases (HS6.out k hk).2 with h1 | h1
    · rcases hS9 k h1 with h2 | h2
      · exact .inl h2
      · exact .inr (by omega)
    · exact .inr (by omega)
  · refine (((((Turn.of_below HB0.out).trans HTU9.out (fun k _ h => ?_)).trans HTW.out (fun k hk h => ?_)).trans HTU5.out (fun k hk h => ?_)).trans HTU6.out (fun k hk h => ?_)).trans htn (fun k hk h => ?_)
    · rw [HT0.out] at h; exact h.1
    · omega
    · rcases hS9 k h with h2 | h2
      · exact h2
      · omega
    · rcases hS9 k h with h2 | h2
      · exact h2
      · omega
    · omega

end Go.Proofs.Ytidkahmjjknkmaa

/- schema.Get at the end. -/
namespace Go.Proofs.Ytidkahmjjknkmaa
open Go.RowKit

def zRec : Obj := .cells #[.int .i64 0, .string { data := #[] }, .int .u64 0, .slice none 0 0, .int .u64 0, .int .u64 0, .string { data := #[] }] 26

/-- What Get does at the end, if the slice from there on is this one. -/
def GetsNone (ver : Int) (bt n c : Nat) (A : Option Addr) (w : World) : Prop :=
  Calls Try.prog 16 #[.int .i64 ver, .pointer (some ⟨bt, 0, none⟩), .slice A n c, .int .i64 (n : Int)] w fun e w' => e = .returned (.tuple #[.agg #[.int .i64 0, .string { data := #[] }, .int .u64 0, .slice none 0 0, .int .u64 0, .int .u64 0, .string { data := #[] }], .int .i64 0, .int .i64 6]) ∧ Below w.heap.size w w'

set_option maxRecDepth 100000 in
set_option maxHeartbeats 1000000 in
theorem get_last0 (ver : Int) (hv : 1 ≤ ver ∧ ver ≤ 3) (bt : Nat)  (w : World) (HAH : Hid (Calls Try.prog 32 #[.slice none 0 0] (w.alloc zRec) fun e w' => e = .returned (.int .i64 ((tahead [] : Nat) : Int)) ∧ w.alloc zRec = w')) : GetsNone ver bt 0 0 none w := by
  have h0 := one_new w (.cells #[.int .i64 0, .string { data := #[] }, .int .u64 0, .slice none 0 0, .int .u64 0, .int .u64 0, .string { data := #[] }] 26)
  have HA0 := Lib.hid h0
  have HB0 := Lib.hid ((Below.refl w.heap.size w).alloc (Nat.le_refl _) (.cells #[.int .i64 0, .string { data := #[] }, .int .u64 0, .slice none 0 0, .int .u64 0, .int .u64 0, .string { data := #[] }] 26))
  have q0 := at_cell (i := 0) h0 rfl
  have y0 := at_frozen (i := 0) h0
  have q1 := at_cell (i := 1) h0 rfl
  have y1 := at_frozen (i := 1) h0
  have q2 := at_cell (i := 2) h0 rfl
  have y2 := at_frozen (i := 2) h0
  have q3 := at_cell (i := 3) h0 rfl
  have y3 := at_frozen (i := 3) h0
  have q4 := at_cell (i := 4) h0 rfl
  have y4 := at_frozen (i := 4) h0
  have q5 := at_cell (i := 5) h0 rfl
  have y5 := at_frozen (i := 5) h0
  have q6 := at_cell (i := 6) h0 rfl
  have y6 := at_frozen (i := 6) h0
  clear h0
  have d1 : decide (ver < 1) = false := decide_eq_false (by omega)
  have d2 : decide (ver > 3) = false := decide_eq_false (by omega)
  have hv1 := hv.1
  have hv3 := hv.2
  clear hv
  unfold zRec at HAH
  unfold GetsNone
  simp only [tahead] at HAH
  go_enter Try.func16, Try.ntmps16
  go_wp2_with (go_at_call 32; refine HAH.out.mono ?_; rintro e w3 ⟨rfl, rfl⟩)
  refine bodyPost_ret (results_cell_two rfl _ _ _ _ _ _ _ rfl HA0.out Try.underlying26 rfl (by kernel_rfl)) rfl ?_
  exact ⟨rfl, HB0.out⟩
set_option maxRecDepth 100000 in
set_option maxHeartbeats 1000000 in
theorem get_last1 (ver : Int) (hv : 1 ≤ ver ∧ ver ≤ 3) (bt : Nat) (n : Nat) (hn : n ≤ 100000) (ad : Addr) (w : World) (HAH : Hid (Calls Try.prog 32 #[.slice (some ad) 0 0] (w.alloc zRec) fun e w' => e = .returned (.int .i64 ((tahead [] : Nat) : Int)) ∧ w.alloc zRec = w')) : GetsNone ver bt n n (some ad) w := by
  have h0 := one_new w (.cells #[.int .i64 0, .string { data := #[] }, .int .u64 0, .slice none 0 0, .int .u64 0, .int .u64 0, .string { data := #[] }] 26)
  have HA0 := Lib.hid h0
  have HB0 := Lib.hid ((Below.refl w.heap.size w).alloc (Nat.le_refl _) (.cells #[.int .i64 0, .string { data := #[] }, .int .u64 0, .slice none 0 0, .int .u64 0, .int .u64 0, .string { data := #[] }] 26))
  have q0 := at_cell (i := 0) h0 rfl
  have y0 := at_frozen (i := 0) h0
  have q1 := at_cell (i := 1) h0 rfl
  have y1 := at_frozen (i := 1) h0
  have q2 := at_cell (i := 2) h0 rfl
  have y2 := at_frozen (i := 2) h0
  have q3 := at_cell (i := 3) h0 rfl
  have y3 := at_frozen (i := 3) h0
  have q4 := at_cell (i := 4) h0 rfl
  have y4 := at_frozen (i := 4) h0
  have q5 := at_cell (i := 5) h0 rfl
  have y5 := at_frozen (i := 5) h0
  have q6 := at_cell (i := 6) h0 rfl
  have y6 := at_frozen (i := 6) h0
  clear h0
  have d1 : decide (ver < 1) = false := decide_eq_false (by omega)
  have d2 : decide (ver > 3) = false := decide_eq_false (by omega)
  have hv1 := hv.1
  have hv3 := hv.2
  clear hv
  unfold zRec at HAH
  unfold GetsNone
  simp only [tahead] at HAH
  go_enter Try.func16, Try.ntmps16
  go_wp2_with (go_at_call 32; refine HAH.out.mono ?_; rintro e w3 ⟨rfl, rfl⟩)
  refine bodyPost_ret (results_cell_two rfl _ _ _ _ _ _ _ rfl HA0.out Try.underlying26 rfl (by kernel_rfl)) rfl ?_
  exact ⟨rfl, HB0.out⟩
set_option maxRecDepth 100000 in
set_option maxHeartbeats 1000000 in
theorem get_last2 (ver : Int) (hv : 1 ≤ ver ∧ ver ≤ 3) (bt : Nat) (n c : Nat) (hc : n < c) (hn : n ≤ 100000) (ad : Addr) (w : World) (HAH : Hid (Calls Try.prog 32 #[.slice (some (ad.add n)) 0 (c - n)] (w.alloc zRec) fun e w' => e = .returned (.int .i64 ((tahead [] : Nat) : Int)) ∧ w.alloc zRec = w')) : GetsNone ver bt n c (some ad) w := by
  have h0 := one_new w (.cells #[.int .i64 0, .string { data := #[] }, .int .u64 0, .slice none 0 0, .int .u64 0, .int .u64 0, .string { data := #[] }] 26)
  have HA0 := Lib.hid h0
  have HB0 := Lib.hid ((Below.refl w.heap.size w).alloc (Nat.le_refl _) (.cells #[.int .i64 0, .string { data := #[] }, .int .u64 0, .slice none 0 0, .int .u64 0, .int .u64 0, .string { data := #[] }] 26))
  have q0 := at_cell (i := 0) h0 rfl
  have y0 := at_frozen (i := 0) h0
  have q1 := at_cell (i := 1) h0 rfl
  have y1 := at_frozen (i := 1) h0
  have q2 := at_cell (i := 2) h0 rfl
  have y2 := at_frozen (i := 2) h0
  have q3 := at_cell (i := 3) h0 rfl
  have y3 := at_frozen (i := 3) h0
  have q4 := at_cell (i := 4) h0 rfl
  have y4 := at_frozen (i := 4) h0
  have q5 := at_cell (i := 5) h0 rfl
  have y5 := at_frozen (i := 5) h0
  have q6 := at_cell (i := 6) h0 rfl
  have y6 := at_frozen (i := 6) h0
  clear h0
  have d1 : decide (ver < 1) = false := decide_eq_false (by omega)
  have d2 : decide (ver > 3) = false := decide_eq_false (by omega)
  have hv1 := hv.1
  have hv3 := hv.2
  clear hv
  unfold zRec at HAH
  unfold GetsNone
  simp only [tahead] at HAH
  go_enter Try.func16, Try.ntmps16
  go_wp2_with (go_at_call 32; refine HAH.out.mono ?_; rintro e w3 ⟨rfl, rfl⟩)
  refine bodyPost_ret (results_cell_two rfl _ _ _ _ _ _ _ rfl HA0.out Try.underlying26 rfl (by kernel_rfl)) rfl ?_
  exact ⟨rfl, HB0.out⟩
/-- At the end there is none. -/
theorem get_last (ver : Int) (hv : 1 ≤ ver ∧ ver ≤ 3) (bt n c B : Nat) (ps : List (List UInt8)) (A : Option Addr) (hA : A = none → n = 0 ∧ c = 0) (hn : n ≤ 100000) (w : World) (hB : B ≤ w.heap.size) (hr : PlsC w B A n c ps) : GetsNone ver bt n c A w := by
  have hd := hr.drop (k := n) (Nat.le_refl _)
  rw [List.drop_of_length_le (by rw [hr.2.1]; exact Nat.le_refl _), Nat.sub_self] at hd
  have hah := fun W hb => ahead_any B 0 (c - n) [] _ (by omega) W (hd.below hb)
  have hcn := hr.1
  have hb0 := ((Below.refl w.heap.size w).alloc (Nat.le_refl _) zRec).mono hB
  cases A with
  | none =>
    obtain ⟨rfl, rfl⟩ := hA rfl
    have h1 := hah _ hb0
    simp only [Nat.sub_self] at h1
    refine get_last0 ver hv bt w (Lib.hid ?_)
    simpa using h1
  | some ad =>
    by_cases hc : c = n
    · subst hc
      have h1 := hah _ hb0
      rw [if_pos rfl, Nat.sub_self] at h1
      exact get_last1 ver hv bt c hn ad w (Lib.hid h1)
    · have h1 := hah _ hb0
      rw [if_neg hc] at h1
      exact get_last2 ver hv bt n c (by omega) hn ad w (Lib.hid h1)

end Go.Proofs.Ytidkahmjjknkmaa

/- All texts of a table. -/
namespace Go.Proofs.Ytidkahmjjknkmaa
open Go.RowKit

set_option maxRecDepth 100000 in
set_option maxHeartbeats 1000000 in
theorem alltexts_any (S : Nat → Prop) (b N : Nat) (tl : List (List UInt8)) (hl : tl.length ≤ 1000000) (w : World) (hT : Tab w S b N tl) :
    Calls Try.prog 15 #[.pointer (some ⟨b, 0, none⟩)] w fun e w' => ∃ A' c', e = .returned (.slice A' tl.length c') ∧ Reads w' w'.heap.size 1 A' tl.length (tl.map tsv) ∧ Below w.heap.size w w' := by
  obtain ⟨i0, ii0, iz0, iz1, iz2⟩ := info_parts tinfo
  obtain ⟨n, hn⟩ : ∃ n, n = tl.length := ⟨_, rfl⟩
  have HTX : Hid (∀ (W : World) (i : Nat), Below w.heap.size w W → Calls Try.prog 31 #[.pointer (some ⟨b, 0, none⟩), .int .u64 (i : Int)] W fun e w' => e = .returned (.tuple #[tsv (ttext tl i), .bool (decide (i < tl.length))]) ∧ W = w') := fun W i hb => Text_any (fun k => S k ∧ k < w.heap.size) b N tl i (by omega) W ((hT.wide (fun k h1 h2 => ⟨h1, h2⟩)).keep (fun k hk _ => hb.block k hk.2))
  have HLE : Hid (∀ (W : World), Below w.heap.size w W → Calls Try.prog 30 #[.pointer (some ⟨b, 0, none⟩)] W fun e w' => e = .returned (.int .i64 (tl.length : Int)) ∧ W = w') := fun W hb => Len_any (fun k => S k ∧ k < w.heap.size) b N tl W ((hT.wide (fun k h1 h2 => ⟨h1, h2⟩)).keep (fun k hk _ => hb.block k hk.2))
  unfold tsv at HTX
  have HL := Lib.hid hn
  rw [← hn] at HTX HLE hl ⊢
  clear hn hT
  go_enter Try.func15, Try.ntmps15
  go_wp2_with (go_at_call 30; refine (HLE.out _ ((Below.refl _ _).alloc (Nat.le_refl _) _)).mono ?_; rintro e w3 ⟨rfl, rfl⟩)
  go_loopw [3, 10] (fun va idx wr => StRel w tl va idx wr) (fun va idx wr => n - (intOf idx).toNat)
  case atStart => exact ⟨0, by omega, rfl, own_empty w _, (Below.refl _ _).alloc (Nat.le_refl _) _⟩
  case round =>
    obtain ⟨i, hi, rfl, hown, hb⟩ := hrel
    rw [← HL.out] at hi
    have HO := Lib.hid hown
    have HBR := Lib.hid hb
    by_cases hlt : i < n
    · obtain ⟨p, hp⟩ : ∃ p, tl[i]? = some p := ⟨_, List.getElem?_eq_getElem (by rw [← HL.out]; exact hlt)⟩
      have hcall := HTX.out wr i hb
      have htt : ttext tl i = p := by unfold ttext; rw [hp]; rfl
      rw [htt, decide_eq_true hlt] at hcall
      have HCALL := Lib.hid hcall
      have htk : (tl.take (i + 1)).map tsv = (tl.take i).map tsv ++ [.string (tx p)] := by rw [List.take_add_one, hp, List.map_append]; rfl
      have HTK := Lib.hid htk
      have HO2 := Lib.hid (World.ownsRow.alloc hown (.cells #[.string (tx p)] 9))
      have HB2 := Lib.hid (hb.alloc hb.size (.cells #[.string (tx p)] 9))
      have HR2 := Lib.hid (reads_one_row wr 9 (.string (tx p)))
      have hi0 : (0 : Int) ≤ (i : Int) := by omega
      have hi1 : (i : Int) < (n : Int) := by omega
      clear hp htk hown hb hcall htt
      go_wp2_with (first
        | (go_at_call 31; refine HCALL.out.mono ?_; rintro e w4 ⟨rfl, rfl⟩)
        | (at_builtin; refine wpList_append_told _ rfl (.tmp 20) (.tmp 22) 22 rfl w.heap.size 9 i0 _ 1 16 Try.underlying22 ii0 iz0 iz1 iz2 rfl (by decide) _ i _ rfl HO2.out (some ⟨wr.heap.size, 0, none⟩) 1 1 (wr.heap.size + 1) [.string (tx p)] rfl (by simp) HR2.out (fun u hu => by obtain rfl := List.mem_singleton.1 hu; rfl) (by unfold maxLen; omega) (by omega) HB2.out.size ?_; intro v6 w6 ho6 hg6 hv6; rw [← HTK.out] at ho6; have HO6 := Lib.hid ho6; have HB6 := Lib.hid (HB2.out.grown hg6 HB2.out.size (own_block HO2.out)); clear ho6 hg6 hv6))
      exact ⟨⟨i + 1, by rw [← HL.out]; omega, by go_num, HO6.out, HB6.out⟩, by simp [intOf]; omega⟩
    · obtain rfl : i = n := by omega
      rw [List.take_of_length_le (by rw [← HL.out]; omega)] at HO
      obtain ⟨A', c', rfl, _⟩ := own_slice HO.out
      clear hown hb
      go_wp2
      go_ret
      exact ⟨A', c', rfl, Reads.of_own HO.out, HBR.out⟩

end Go.Proofs.Ytidkahmjjknkmaa

/- The way down: deps, and a record, that came in. -/
namespace Go.Proofs.Ytidkahmjjknkmaa
open Go.ChangeShapes Go.WideShapes Go.ChangeAt Go.RowKit Go.Deep

theorem r_one_at {cs : List Value} {j : Nat} {v : Value} (h : (cs.drop j).take 1 = [v]) : cs[j]? = some v := by
  have := congrArg (fun l : List Value => l[0]?) h
  simpa using this
theorem r_tx_back (s : ByteArray) : tx s.data.toList = s := by
  cases s
  simp [tx]

theorem deps_row (W : World) (ad : Addr) : ∀ n : Nat, (∀ i, i < n → ∃ d : Dp, d.name.length ≤ maxLen ∧ W.cell? (ad.add (i * 3)) = some (rsv d.name) ∧ W.cell? (ad.add (i * 3 + 1)) = some (.int .u64 d.hash) ∧ W.cell? (ad.add (i * 3 + 2)) = some (.bool d.order)) →
    ∃ l : List Dp, l.length = n ∧ (∀ d ∈ l, d.name.length ≤ maxLen) ∧ ∀ i d, l[i]? = some d → W.cell? (ad.add (i * 3)) = some (rsv d.name) ∧ W.cell? (ad.add (i * 3 + 1)) = some (.int .u64 d.hash) ∧ W.cell? (ad.add (i * 3 + 2)) = some (.bool d.order)
  | 0, _ => ⟨[], rfl, by simp, by simp⟩
  | n + 1, h => by
    obtain ⟨ts, h1, h2, h3⟩ := deps_row W ad n (fun i hi => h i (by omega))
    obtain ⟨t, g1, g2⟩ := h n (by omega)
    refine ⟨ts ++ [t], by simp [h1], ?_, ?_⟩
    · intro u hu
      rcases List.mem_append.1 hu with hu | hu
      · exact h2 u hu
      · have : u = t := by simpa using hu
        rw [this]; exact g1
    · intro i u hu
      rcases Nat.lt_or_ge i ts.length with hlt | hge
      · rw [List.getElem?_append_left hlt] at hu
        exact h3 i u hu
      · rw [List.getElem?_append_right hge] at hu
        have hi : i = n := by
          rcases Nat.lt_or_ge (i - ts.length) 1 with h4 | h4
          · omega
          · rw [List.getElem?_eq_none (by simpa using h4)] at hu; cases hu
        subst hi
        rw [h1, Nat.sub_self] at hu
        have : t = u := by simpa using hu
        rw [← this]; exact g2

theorem dps_back : ∀ (l : List Dp) (j : Nat) (u : Value), (dps l)[j]? = some u → ∃ t, l[j / 3]? = some t ∧ ((j % 3 = 0 ∧ u = rsv t.name) ∨ (j % 3 = 1 ∧ u = .int .u64 t.hash) ∨ (j % 3 = 2 ∧ u = .bool t.order))
  | [], j, u, h => by simp [dps] at h
  | a :: l, j, u, h => by
    have e : (Dp.cells a ++ dps l)[j]? = some u := h
    rcases Nat.lt_or_ge j 3 with hlt | hge
    · rw [List.getElem?_append_left (by simp [Dp.cells]; omega)] at e
      refine ⟨a, by rw [show j / 3 = 0 by omega]; rfl, ?_⟩
      obtain rfl | rfl | rfl : j = 0 ∨ j = 1 ∨ j = 2 := by omega
      · exact .inl ⟨rfl, (Option.some.inj e).symm⟩
      · exact .inr (.inl ⟨rfl, (Option.some.inj e).symm⟩)
      · exact .inr (.inr ⟨rfl, (Option.some.inj e).symm⟩)
    · rw [List.getElem?_append_right (by simp [Dp.cells]; omega)] at e
      have e2 : (dps l)[j - 3]? = some u := e
      obtain ⟨t, h1, h2⟩ := dps_back l (j - 3) u e2
      refine ⟨t, by rw [show j / 3 = (j - 3) / 3 + 1 by omega]; simpa using h1, ?_⟩
      rw [show j % 3 = (j - 3) % 3 by omega]
      exact h2

theorem c_dep : Try.prog.cellsOf 55 = 3 := by kernel_rfl
theorem c_str : Try.prog.cellsOf 9 = 1 := by kernel_rfl
theorem c_u64 : Try.prog.cellsOf 23 = 1 := by kernel_rfl
theorem c_bool : Try.prog.cellsOf 4 = 1 := by kernel_rfl
theorem c_int : Try.prog.cellsOf 3 = 1 := by kernel_rfl
theorem c_deps : Try.prog.cellsOf 24 = 1 := by kernel_rfl
theorem c_rec : Try.prog.cellsOf 26 = 7 := by kernel_rfl

theorem open_deps {H : Type} {enc : TypeId × Value → H} {W : World} {fuel : Nat} {cs : List Value} {x : DataW H × List MemPlace} (hf : DataW.trod enc Try.prog W 0 (fun _ => true) true fuel 24 cs = some x) :
    ∃ (A : Option Addr) (n c : Nat) (l : List Dp), cs = [.slice A n c] ∧ n ≤ maxLen ∧ (A = none → c = 0) ∧ (∀ d ∈ l, d.name.length ≤ maxLen) ∧ Reads W W.heap.size 3 A n (dps l) := by
  rcases Go.Deep.open_slice Try.underlying24 hf with ⟨hcs, _⟩ | ⟨ad, n, c, m, k, D, Pl, hcs, _, hl, hmx, hm, _, hi⟩
  · exact ⟨none, 0, 0, [], hcs, by omega, fun _ => rfl, by simp, by simp [dps], fun h => absurd h (by omega)⟩
  · have hnm : n ≤ m := by rw [hm]; simp; exact hl
    have hall : ∀ i, i < n → ∃ d : Dp, d.name.length ≤ maxLen ∧ W.cell? (ad.add (i * 3)) = some (rsv d.name) ∧ W.cell? (ad.add (i * 3 + 1)) = some (.int .u64 d.hash) ∧ W.cell? (ad.add (i * 3 + 2)) = some (.bool d.order) := by
      intro i hin
      obtain ⟨cs, hcell, htr⟩ := hi i (by omega)
      rw [c_dep] at hcell
      obtain ⟨_, _, hat⟩ := World.cells?_some hcell
      obtain ⟨y0, y1, y2, n', _, _, g0, g1, g2⟩ := trod_struct3 Try.underlying55 htr
      rw [c_str] at g0
      rw [c_u64] at g1
      rw [c_bool] at g2
      obtain ⟨z0, e0, _, w0⟩ := DataW.trod_string Try.underlying9 g0
      obtain ⟨z1, e1, _, w1⟩ := DataW.trod_int Try.underlying23 g1
      obtain ⟨z2, e2, _⟩ := DataW.trod_bool Try.underlying4 g2
      refine ⟨⟨z0.data.toList, z1, z2⟩, by rw [Array.length_toList]; exact w0, ?_, ?_, ?_⟩
      · have h := hat 0 (by omega)
        rw [add_of_add, r_one_at e0] at h
        show _ = some (rsv z0.data.toList)
        rw [rsv, r_tx_back]
        exact h
      · have h := hat 1 (by omega)
        rw [add_of_add, r_one_at e1] at h
        exact h
      · have h := hat 2 (by omega)
        rw [add_of_add, r_one_at e2] at h
        exact h
    obtain ⟨l, h1, h2, h3⟩ := deps_row W ad n hall
    refine ⟨some ad, n, c, l, hcs, by omega, fun h => (by cases h), h2, by rw [dps_len, h1], fun hn => ⟨ad, rfl, ?_, fun j u hu => ?_⟩⟩
    · obtain ⟨t, _, h4, _⟩ := hall 0 hn
      have := cell_lt h4
      rwa [block_of_add] at this
    · obtain ⟨t, g1, g2⟩ := dps_back l j u hu
      obtain ⟨q0, q1, q2⟩ := h3 _ t g1
      rcases g2 with ⟨hj, rfl⟩ | ⟨hj, rfl⟩ | ⟨hj, rfl⟩
      · rw [show j / 3 * 3 = j by omega] at q0; exact q0
      · rw [show j / 3 * 3 + 1 = j by omega] at q1; exact q1
      · rw [show j / 3 * 3 + 2 = j by omega] at q2; exact q2

theorem trod_struct7 {H : Type} {enc : TypeId × Value → H} {P : Program} {w : World} {base : Nat} {spare : Nat → Bool} {held : Bool} {t : TypeId} {f0 f1 f2 f3 f4 f5 f6 : Field} {fuel : Nat} {cs : List Value} {x : DataW H × List MemPlace} (ht : P.underlying t = some (.struct #[f0, f1, f2, f3, f4, f5, f6])) (h : DataW.trod enc P w base spare held fuel t cs = some x) :
    ∃ y0 y1 y2 y3 y4 y5 y6 n, cs.length = P.cellsOf t ∧ DataW.trod enc P w base spare held n f0.type ((cs.drop f0.offset).take (P.cellsOf f0.type)) = some y0 ∧ DataW.trod enc P w base spare held n f1.type ((cs.drop f1.offset).take (P.cellsOf f1.type)) = some y1 ∧ DataW.trod enc P w base spare held n f2.type ((cs.drop f2.offset).take (P.cellsOf f2.type)) = some y2 ∧ DataW.trod enc P w base spare held n f3.type ((cs.drop f3.offset).take (P.cellsOf f3.type)) = some y3 ∧ DataW.trod enc P w base spare held n f4.type ((cs.drop f4.offset).take (P.cellsOf f4.type)) = some y4 ∧ DataW.trod enc P w base spare held n f5.type ((cs.drop f5.offset).take (P.cellsOf f5.type)) = some y5 ∧ DataW.trod enc P w base spare held n f6.type ((cs.drop f6.offset).take (P.cellsOf f6.type)) = some y6 := by
  obtain ⟨xs, n, _, rfl, hl, hlen, hf⟩ := DataW.trod_struct ht h
  match xs, hlen with
  | [y0, y1, y2, y3, y4, y5, y6], _ => exact ⟨y0, y1, y2, y3, y4, y5, y6, n, hl, by simpa using hf 0 f0 rfl, by simpa using hf 1 f1 rfl, by simpa using hf 2 f2 rfl, by simpa using hf 3 f3 rfl, by simpa using hf 4 f4 rfl, by simpa using hf 5 f5 rfl, by simpa using hf 6 f6 rfl⟩

/-- The cells of a record, out of its data. -/
theorem open_rcells {H : Type} {enc : TypeId × Value → H} {W : World} {fuel : Nat} {cs : List Value} {x : DataW H × List MemPlace} (hf : DataW.trod enc Try.prog W 0 (fun _ => true) true fuel 26 cs = some x) :
    ∃ (r : Rc) (A : Option Addr) (n c : Nat) (l : List Dp), cs = (rcells r A n c).toList ∧ n ≤ maxLen ∧ (A = none → c = 0) ∧ Fits r l ∧ Reads W W.heap.size 3 A n (dps l) := by
  obtain ⟨y0, y1, y2, y3, y4, y5, y6, n', hl, g0, g1, g2, g3, g4, g5, g6⟩ := trod_struct7 Try.underlying26 hf
  rw [c_rec] at hl
  rw [c_int] at g0
  rw [c_str] at g1
  rw [c_u64] at g2
  rw [c_deps] at g3
  rw [c_u64] at g4
  rw [c_u64] at g5
  rw [c_str] at g6
  obtain ⟨z0, e0, _, w0⟩ := DataW.trod_int Try.underlying3 g0
  obtain ⟨z1, e1, _, w1⟩ := DataW.trod_string Try.underlying9 g1
  obtain ⟨z2, e2, _, w2⟩ := DataW.trod_int Try.underlying23 g2
  obtain ⟨A, n, c, l, e3, hn, hA, hd, hr⟩ := open_deps g3
  obtain ⟨z4, e4, _, w4⟩ := DataW.trod_int Try.underlying23 g4
  obtain ⟨z5, e5, _, w5⟩ := DataW.trod_int Try.underlying23 g5
  obtain ⟨z6, e6, _, w6⟩ := DataW.trod_string Try.underlying9 g6
  refine ⟨⟨z0, z1.data.toList, z2, z4, z5, z6.data.toList⟩, A, n, c, l, ?_, hn, hA, ⟨by rw [Array.length_toList]; exact w1, by rw [Array.length_toList]; exact w6, hd⟩, hr⟩
  match cs, hl with
  | [c0, c1, c2, c3, c4, c5, c6], _ =>
    have f0 := r_one_at e0
    have f1 := r_one_at e1
    have f2 := r_one_at e2
    have f3 := r_one_at e3
    have f4 := r_one_at e4
    have f5 := r_one_at e5
    have f6 := r_one_at e6
    simp at f0 f1 f2 f3 f4 f5 f6
    subst f0 f1 f2 f3 f4 f5 f6
    unfold rcells
    simp only [r_tx_back]

set_option maxRecDepth 100000 in
theorem open_record {H : Type} {enc : TypeId × Value → H} {W : World} {v : Value} {d : DataW H} {ps : List MemPlace} {r0 : Reach} {b0 : Nat} (hval : Value.okWide Try.prog W r0 b0 26 v) (hd : DataW.Trod enc Try.prog W 0 (fun _ => true) true 26 v d ps) :
    ∃ (r : Rc) (A : Option Addr) (n c : Nat) (l : List Dp), v = rcv r A n c ∧ n ≤ maxLen ∧ (A = none → c = 0) ∧ Fits r l ∧ Reads W W.heap.size 3 A n (dps l) := by
  obtain ⟨cs, rfl, _⟩ := okWide_struct Try.underlying26 hval
  obtain ⟨fuel, hf⟩ := hd
  obtain ⟨r, A, n, c, l, h1, h2, h3, h4, h5⟩ := open_rcells hf
  refine ⟨r, A, n, c, l, ?_, h2, h3, h4, h5⟩
  have : cs = rcells r A n c := by
    apply Array.ext'
    simpa [Value.cells] using h1
  rw [this]
  rfl

end Go.Proofs.Ytidkahmjjknkmaa

/- The numbers of records that came in are of 64 bits. -/
namespace Go.Proofs.Ytidkahmjjknkmaa
open Go.ChangeShapes Go.WideShapes Go.ChangeAt Go.RowKit Go.Deep

theorem wf64 {z : Int} (h : (Lit.int .u64 z).wf = true) : 0 ≤ z ∧ z < 18446744073709551616 := by
  have hx : 0 ≤ z ∧ z ≤ 18446744073709551615 := by simpa [Lit.wf, IntKind.min, IntKind.max, IntKind.signed, IntKind.bits] using h
  omega

set_option maxRecDepth 100000 in
theorem deps_nums {H : Type} {enc : TypeId × Value → H} {W : World} {fuel : Nat} {A : Option Addr} {n c : Nat} {l : List Dp} {x : DataW H × List MemPlace} (hf : DataW.trod enc Try.prog W 0 (fun _ => true) true fuel 24 [.slice A n c] = some x) (hr : Reads W W.heap.size 3 A n (dps l)) : ∀ d ∈ l, 0 ≤ d.hash ∧ d.hash < 18446744073709551616 := by
  have hln : l.length = n := by have := hr.1; rw [dps_len] at this; omega
  rcases Go.Deep.open_slice Try.underlying24 hf with ⟨hcs, _⟩ | ⟨ad, n', c', m, k, D, Pl, hcs, _, hl, hmx, hm, _, hi⟩
  · have h1 : n = 0 := by injection hcs with h1; injection h1
    intro d hd
    have : l = [] := List.eq_nil_of_length_eq_zero (by omega)
    rw [this] at hd
    cases hd
  · obtain ⟨rfl, rfl, rfl⟩ : A = some ad ∧ n = n' ∧ c = c' := by
      injection hcs with h1 _
      injection h1 with h2 h3 h4
      exact ⟨h2, h3, h4⟩
    intro d hd
    obtain ⟨i, hlt, hid⟩ := List.mem_iff_getElem.1 hd
    have hid' : l[i]? = some d := by rw [List.getElem?_eq_getElem hlt, hid]
    obtain ⟨_, g, _⟩ := dps_at l i d hid'
    obtain ⟨ad', hae, _, hc⟩ := hr.2 (by omega)
    obtain rfl : ad = ad' := Option.some.inj hae
    have hcell := hc _ _ g
    have hnm : n ≤ m := by rw [hm]; simp; exact hl
    obtain ⟨cs, hcs2, htr⟩ := hi i (by omega)
    rw [c_dep] at hcs2
    obtain ⟨_, _, hat⟩ := World.cells?_some hcs2
    obtain ⟨y0, y1, y2, nn, _, _, g0, g1, g2⟩ := trod_struct3 Try.underlying55 htr
    rw [c_str] at g0
    rw [c_u64] at g1
    rw [c_bool] at g2
    obtain ⟨z1, e1, _, w1⟩ := DataW.trod_int Try.underlying23 g1
    have h := hat 1 (by omega)
    rw [add_of_add, r_one_at e1] at h
    have h2 : some (Value.int .u64 z1) = some (Value.int .u64 d.hash) := h.symm.trans hcell
    injection h2 with h3
    injection h3 with _ h4
    rw [← h4]
    exact wf64 w1

set_option maxRecDepth 100000 in
theorem rcells_nums {H : Type} {enc : TypeId × Value → H} {W : World} {fuel : Nat} {r : Rc} {A : Option Addr} {n c : Nat} {l : List Dp} {x : DataW H × List MemPlace} (hf : DataW.trod enc Try.prog W 0 (fun _ => true) true fuel 26 (rcells r A n c).toList = some x) (hr : Reads W W.heap.size 3 A n (dps l)) : Nums r l := by
  obtain ⟨y0, y1, y2, y3, y4, y5, y6, n', hl, g0, g1, g2, g3, g4, g5, g6⟩ := trod_struct7 Try.underlying26 hf
  rw [c_int] at g0
  rw [c_str] at g1
  rw [c_u64] at g2
  rw [c_deps] at g3
  rw [c_u64] at g4
  rw [c_u64] at g5
  obtain ⟨z2, e2, _, w2⟩ := DataW.trod_int Try.underlying23 g2
  obtain ⟨z4, e4, _, w4⟩ := DataW.trod_int Try.underlying23 g4
  obtain ⟨z5, e5, _, w5⟩ := DataW.trod_int Try.underlying23 g5
  have f2 : Value.int .u64 r.rule = .int .u64 z2 := Option.some.inj (r_one_at e2)
  have f4 : Value.int .u64 r.out = .int .u64 z4 := Option.some.inj (r_one_at e4)
  have f5 : Value.int .u64 r.time = .int .u64 z5 := Option.some.inj (r_one_at e5)
  injection f2 with _ f2
  injection f4 with _ f4
  injection f5 with _ f5
  refine ⟨by rw [f2]; exact wf64 w2, by rw [f4]; exact wf64 w4, by rw [f5]; exact wf64 w5, deps_nums (A := A) (n := n) (c := c) g3 hr⟩

set_option maxRecDepth 100000 in
theorem open_recsN {H : Type} {enc : TypeId × Value → H} {W : World} {v : Value} {d : DataW H} {ps : List MemPlace} {r0 : Reach} {b0 : Nat} (hval : Value.okWide Try.prog W r0 b0 52 v) (hd : DataW.Trod enc Try.prog W 0 (fun _ => true) true 52 v d ps) :
    ∃ (A : Option Addr) (n c : Nat) (xs : List Rw), v = .slice A n c ∧ n ≤ maxLen ∧ (A = none → c = 0) ∧ (∀ x ∈ xs, Fits x.r x.l ∧ x.n ≤ maxLen ∧ Nums x.r x.l) ∧ Recs W W.heap.size A n xs := by
  obtain ⟨A0, n0, c0, rfl⟩ := okWide_slice Try.underlying52 hval
  obtain ⟨fuel, hf⟩ := hd
  rcases Go.Deep.open_slice Try.underlying52 hf with ⟨hcs, _⟩ | ⟨ad, n, c, m, k, D, Pl, hcs, _, hl, hmx, hm, _, hi⟩
  · have e : Value.slice A0 n0 c0 = .slice none 0 0 := by simpa [Value.cells] using hcs
    exact ⟨none, 0, 0, [], e, by omega, fun _ => rfl, by simp, Recs.nil _ _ _⟩
  · have hnm : n ≤ m := by rw [hm]; simp; exact hl
    have e : Value.slice A0 n0 c0 = .slice (some ad) n c := by simpa [Value.cells] using hcs
    have hall : ∀ i, i < n → ∃ x : Rw, (((Fits x.r x.l ∧ x.n ≤ maxLen ∧ Nums x.r x.l) ∧ (Reads W W.heap.size 3 x.A x.n (dps x.l) ∧ (x.A = none → x.c = 0)))) ∧ ∀ k u, x.cells[k]? = some u → W.cell? (ad.add (i * 7 + k)) = some u := by
      intro i hin
      obtain ⟨cs, hcell, htr⟩ := hi i (by omega)
      rw [c_rec] at hcell
      obtain ⟨_, _, hat⟩ := World.cells?_some hcell
      obtain ⟨r, A, n', c', l, rfl, h2, h3, h4, h5⟩ := open_rcells htr
      refine ⟨⟨r, A, n', c', l⟩, ⟨⟨h4, h2, rcells_nums htr h5⟩, h5, h3⟩, fun k u hu => ?_⟩
      have hk : k < 7 := (List.getElem?_eq_some_iff.1 hu).1
      have h := hat k (by omega)
      rw [add_of_add] at h
      rw [h]
      exact hu
    obtain ⟨xs, h1, h2, h3⟩ := recs_row W ad _ n hall
    refine ⟨some ad, n, c, xs, e, by omega, fun h => (by cases h), fun x hx => (h2 x hx).1, ⟨by rw [rws_len, h1], fun hn => ⟨ad, rfl, ?_, fun j u hu => ?_⟩⟩, fun x hx => (h2 x hx).2⟩
    · obtain ⟨x, _, h4⟩ := hall 0 hn
      have := cell_lt (h4 0 _ rfl)
      rwa [block_of_add] at this
    · obtain ⟨x, g1, g2⟩ := rws_back xs j u hu
      have := h3 _ x g1 _ u g2
      rwa [show j / 7 * 7 + j % 7 = j by omega] at this


end Go.Proofs.Ytidkahmjjknkmaa
