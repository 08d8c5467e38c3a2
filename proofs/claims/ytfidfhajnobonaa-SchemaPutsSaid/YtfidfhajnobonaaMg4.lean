/- Texts of one proof, one behind the other. -/
import Derived.Deep.Slices
import Derived.Deep.Strs
import Derived.ProofKit
import Derived.OpenShut
import Derived.Carry
import Derived.Test.YtfidfhajnobonaaMg3

/- What Put lays, as Get finds it. -/
namespace Go.Proofs.Ytfidfhajnobonaa
open Go.RowKit

theorem fresh_back : ∀ (ns tl : List (List UInt8)), ((freshL tl ns).map List.tail).foldl tput tl = ns.foldl tput tl
  | [], _ => rfl
  | s :: ns, tl => by
    unfold freshL
    by_cases h : s ∈ tl
    · rw [if_pos h, List.foldl_cons, tput_in h]
      exact fresh_back ns tl
    · rw [if_neg h, List.map_cons, List.foldl_cons, List.foldl_cons]
      show List.foldl tput (tput tl s) _ = _
      rw [tput_new h]
      exact fresh_back ns (tl ++ [s])
theorem fresh_txt : ∀ (ns tl : List (List UInt8)), (∀ s ∈ ns, s.length ≤ 64) → ∀ t ∈ freshL tl ns, isTxt t = true ∧ t ≠ [] ∧ t.length ≤ 1000000
  | [], _, _, t, ht => by cases ht
  | s :: ns, tl, h, t, ht => by
    unfold freshL at ht
    split at ht
    · exact fresh_txt ns tl (fun x hx => h x (by simp [hx])) t ht
    · rcases List.mem_cons.1 ht with rfl | ht
      · have h1 := h s (by simp)
        exact ⟨rfl, by simp, by simp only [List.length_cons]; omega⟩
      · exact fresh_txt ns _ (fun x hx => h x (by simp [hx])) t ht
theorem tfold_ext : ∀ (ns tl : List (List UInt8)), ∃ x, ns.foldl tput tl = tl ++ x
  | [], tl => ⟨[], by simp⟩
  | s :: ns, tl => by
    obtain ⟨x, hx⟩ := tfold_ext ns (tput tl s)
    rw [List.foldl_cons, hx]
    by_cases h : s ∈ tl
    · rw [tput_in h]; exact ⟨x, rfl⟩
    · rw [tput_new h]; exact ⟨[s] ++ x, by simp⟩
theorem tabT_take (ver : Int) (tl : List (List UInt8)) (r : Rc) (l : List Dp) : (tabT ver tl r l).take (tcut (tabT ver tl r l).length (tl.length : Int)) = tl := by
  have h : ∃ x, tabT ver tl r l = tl ++ x := by
    unfold tabT
    split
    · exact ⟨[], by simp⟩
    · exact tfold_ext _ _
  obtain ⟨x, hx⟩ := h
  have h1 : tcut (tabT ver tl r l).length (tl.length : Int) = tl.length := by
    unfold tcut
    rw [hx, List.length_append]
    omega
  rw [h1, hx, List.take_left]
theorem freT_back (ver : Int) (tl : List (List UInt8)) (r : Rc) (l : List Dp) : tabT ver tl r l = ((freT ver tl r l).map List.tail).foldl tput tl := by
  unfold tabT freT
  split
  · rfl
  · exact (fresh_back _ _).symm
theorem freT_txt {ver : Int} {tl : List (List UInt8)} {r : Rc} {l : List Dp} (h : MayP ver r l) : ∀ t ∈ freT ver tl r l, isTxt t = true ∧ t ≠ [] ∧ t.length ≤ 1000000 := by
  unfold freT
  split
  · intro t ht; cases ht
  · exact fresh_txt _ _ (rnames_le h).1
theorem freT_len {ver : Int} {tl : List (List UInt8)} {r : Rc} {l : List Dp} (h : MayP ver r l) : (freT ver tl r l).length ≤ 18 := by
  have h1 := payL_len (tl := tl) h
  unfold payL at h1
  rw [List.length_append] at h1
  simp at h1
  omega
theorem payB_txt (ver : Int) (tl : List (List UInt8)) (r : Rc) (l : List Dp) : isTxt (payB ver tl r l) = false := by
  unfold payB
  split <;> rfl
theorem payB_len {ver : Int} {tl : List (List UInt8)} {r : Rc} {l : List Dp} (hm : MayP ver r l) (hnu : Nums r l) (htl : tl.length ≤ 1073741824) : (payB ver tl r l).length ≤ 1000000 := by
  obtain ⟨h1, h2, h3, h4⟩ := may_names hm
  have hvt := vb_len _ (num_nat hnu.1).2
  have hvo := vb_len _ (num_nat hnu.2.1).2
  have hvw := vb_len _ (num_nat hnu.2.2.1).2
  have hnm := nmB_len (ver := ver) h1 htl
  have hfd := fDeps_len (ver := ver) h3 h4 hnu.2.2.2 htl
  have hfg := fTag_len (r := r) htl
  have hz : ([] : List UInt8).length = 0 := rfl
  unfold payB
  split
  · rw [List.length_cons]; omega
  · rw [List.length_cons, List.length_append, List.length_append, List.length_append, List.length_append, List.length_append]
    split <;> split <;> (first | omega | (simp only [hz]; omega))
theorem tabT_mem (ver : Int) (tl : List (List UInt8)) (r : Rc) (l : List Dp) : ver < 2 ∨ ∀ s ∈ rnames r l, s ∈ tabT ver tl r l := by
  by_cases h : ver < 2
  · exact .inl h
  · right
    intro s hs
    unfold tabT
    rw [if_neg h]
    exact tfold_mem _ _ _ (.inr hs)
theorem payB_kind {ver : Int} {tl : List (List UInt8)} {r : Rc} {l : List Dp} (hm : MayP ver r l) (hnu : Nums r l) (ht : tl.length ≤ 1073741824) (hin : ver < 2 ∨ ∀ s ∈ rnames r l, s ∈ tl) : (rdAll ver tl (Cu.new (payB ver tl r l) 0).byte.1.toNat (rdStart (payB ver tl r l))).r = r ∧ (rdAll ver tl (Cu.new (payB ver tl r l) 0).byte.1.toNat (rdStart (payB ver tl r l))).l = l := by
  obtain ⟨h1, h2, h3⟩ := pay_back hm hnu ht hin
  have hk : (Cu.new (payB ver tl r l) 0).byte.1.toNat = r.kind.toNat := by
    have h4 : ((Cu.new (payB ver tl r l) 0).byte.1.toNat : Int) = r.kind := h1
    omega
  rw [hk]
  exact ⟨h2, h3⟩

/-- Payloads from one on, and up to one. -/
theorem PlsC.drop {w : World} {B : Nat} {A : Option Addr} {n c k : Nat} {ps : List (List UInt8)} (h : PlsC w B A n c ps) (hk : k ≤ n) : PlsC w B (if c = k then A else A.map (·.add k)) (n - k) (c - k) (ps.drop k) := by
  obtain ⟨h0, h2, vs, h1, h3⟩ := h
  have h4 := h1.cut (cap := c) hk h0
  rw [Nat.mul_one] at h4
  refine ⟨by omega, by rw [List.length_drop, h2], vs.drop k, h4, fun i p hp => ?_⟩
  rw [List.getElem?_drop] at hp
  obtain ⟨A', c', h5, h6⟩ := h3 _ p hp
  exact ⟨A', c', by rw [List.getElem?_drop]; exact h5, h6⟩
theorem PlsC.upto {w : World} {B : Nat} {A : Option Addr} {n c k : Nat} {ps : List (List UInt8)} (h : PlsC w B A n c ps) (hk : k ≤ n) : PlsC w B A k c (ps.take k) := by
  obtain ⟨h0, h2, vs, h1, h3⟩ := h
  refine ⟨by omega, by rw [List.length_take]; omega, vs.take k, h1.take hk, fun i p hp => ?_⟩
  have hi : i < k := by have := (List.getElem?_eq_some_iff.1 hp).1; rw [List.length_take] at this; omega
  rw [List.getElem?_take_of_lt hi] at hp
  obtain ⟨A', c', h5, h6⟩ := h3 _ p hp
  exact ⟨A', c', by rw [List.getElem?_take_of_lt hi]; exact h5, h6⟩

theorem PlsT.drop {w : World} {B : Nat} {S : Nat → Prop} {A : Option Addr} {n c k : Nat} {ps : List (List UInt8)} (h : PlsT w B S A n c ps) (hk : k < n) : PlsT w B S (if c = k then A else A.map (·.add k)) (n - k) (c - k) (ps.drop k) := by
  obtain ⟨h0, h2, vs, h1, ha, h3⟩ := h
  have h4 := h1.cut (cap := c) (Nat.le_of_lt hk) h0
  rw [Nat.mul_one] at h4
  refine ⟨by omega, by rw [List.length_drop, h2], vs.drop k, h4, fun ad e _ => ?_, fun i p hp => ?_⟩
  · rw [if_neg (by omega)] at e
    cases A with
    | none => cases e
    | some a0 =>
      obtain rfl : a0.add k = ad := Option.some.inj e
      rw [block_of_add]
      exact ha a0 rfl (by omega)
  · rw [List.getElem?_drop] at hp
    obtain ⟨A', c', h5, h6⟩ := h3 _ p hp
    exact ⟨A', c', by rw [List.getElem?_drop]; exact h5, h6⟩
theorem PlsT.upto {w : World} {B : Nat} {S : Nat → Prop} {A : Option Addr} {n c k : Nat} {ps : List (List UInt8)} (h : PlsT w B S A n c ps) (hk : k ≤ n) : PlsT w B S A k c (ps.take k) := by
  obtain ⟨h0, h2, vs, h1, ha, h3⟩ := h
  refine ⟨by omega, by rw [List.length_take]; omega, vs.take k, h1.take hk, fun ad e hn => ha ad e (by omega), fun i p hp => ?_⟩
  have hi : i < k := by have := (List.getElem?_eq_some_iff.1 hp).1; rw [List.length_take] at this; omega
  rw [List.getElem?_take_of_lt hi] at hp
  obtain ⟨A', c', h5, h6⟩ := h3 _ p hp
  exact ⟨A', c', by rw [List.getElem?_take_of_lt hi]; exact h5, h6⟩

end Go.Proofs.Ytfidfhajnobonaa

/- schema.Get reads what Put lays. -/
namespace Go.Proofs.Ytfidfhajnobonaa
open Go.RowKit

set_option maxRecDepth 100000 in
set_option maxHeartbeats 4000000 in
theorem get_ok (S : Nat → Prop) (bt B N n c a : Nat) (ver : Int) (tl : List (List UInt8)) (r : Rc) (l : List Dp) (pre post : List (List UInt8)) (A : Option Addr) (hm : MayP ver r l) (hfit : Fits r l) (hnu : Nums r l) (hn2 : n ≤ 100000) (htl : tl.length ≤ 800000000) (hN : N ≤ 800000000) (ha : pre.length = a) (w : World) (hB : B ≤ w.heap.size) (hT : Tab w S bt N tl) (hr : PlsT w B S A n c (pre ++ (payL ver tl r l ++ post))) :
    Calls Try.prog 17 #[.int .i64 ver, .pointer (some ⟨bt, 0, none⟩), .slice A n c, .int .i64 (a : Int)] w fun e w' => ∃ (A' : Option Addr) (n' c' : Nat) (S' : Nat → Prop), e = .returned (.tuple #[rcv r A' n' c', .int .i64 ((a + (payL ver tl r l).length : Nat) : Int), .int .i64 0]) ∧ Deps w' w.heap.size A' n' c' l ∧ (∀ ad, A' = some ad → ¬ S' ad.block) ∧ (∃ N', N' ≤ N + 36 ∧ Tab w' S' bt N' (tabT ver tl r l)) ∧ (∀ k, S' k → k < w'.heap.size ∧ (S k ∨ w.heap.size ≤ k)) ∧ Turn S w w' := by
  have hver : ver = 1 ∨ ver = 2 ∨ ver = 3 := by have := hm.1; have := hm.2.1; omega
  have hv1 := hm.1
  have hv3 := hm.2.1
  have d1 : decide (ver < 1) = false := decide_eq_false (by omega)
  have d2 : decide (ver > 3) = false := decide_eq_false (by omega)
  obtain ⟨q, hq⟩ : ∃ q, q = (freT ver tl r l).length := ⟨_, rfl⟩
  have hq18 : q ≤ 18 := by rw [hq]; exact freT_len hm
  have hpl : (payL ver tl r l).length = q + 1 := by unfold payL; rw [List.length_append, ← hq]; rfl
  have hlen : n = a + (q + 1) + post.length := by have h1 := hr.2.1; rw [List.length_append, List.length_append, hpl, ha] at h1; omega
  have hcn : n ≤ c := hr.1
  have hrd := hr.drop (k := a) (by omega)
  have hdrop : (pre ++ (payL ver tl r l ++ post)).drop a = payL ver tl r l ++ post := by rw [← ha, List.drop_left]
  rw [hdrop, if_neg (by omega)] at hrd
  obtain ⟨ad, rfl, hab, _⟩ : ∃ ad, A = some ad ∧ ad.block < B ∧ True := by
    obtain ⟨_, _, vs, h1, _⟩ := hr
    obtain ⟨ad, h2, h3, _⟩ := h1.2 (by omega)
    exact ⟨ad, h2, h3, trivial⟩
  have hrf := hrd.upto (k := q + 1) (by omega)
  have htake : (payL ver tl r l ++ post).take (q + 1) = freT ver tl r l ++ [payB ver (tabT ver tl r l) r l] := by rw [List.take_append_of_le_length (by rw [hpl]; exact Nat.le_refl _), List.take_of_length_le (by rw [hpl]; exact Nat.le_refl _)]; rfl
  rw [htake] at hrf
  have hah : tahead (payL ver tl r l ++ post) = q := by
    unfold payL
    rw [List.append_assoc, List.singleton_append, tahead_texts _ _ _ (fun t ht => (freT_txt hm t ht).1) (payB_txt _ _ _ _), ← hq]
  have h0 := one_new w (.cells #[.int .i64 0, .string { data := #[] }, .int .u64 0, .slice none 0 0, .int .u64 0, .int .u64 0, .string { data := #[] }] 26)
  have hz : (w.alloc (.cells #[.int .i64 0, .string { data := #[] }, .int .u64 0, .slice none 0 0, .int .u64 0, .int .u64 0, .string { data := #[] }] 26)).heap.size = w.heap.size + 1 := by simp
  have hb0 := (Below.refl w.heap.size w).alloc (Nat.le_refl _) (.cells #[.int .i64 0, .string { data := #[] }, .int .u64 0, .slice none 0 0, .int .u64 0, .int .u64 0, .string { data := #[] }] 26)
  have hta := ahead_any B (n - a) (c - a) (payL ver tl r l ++ post) (some (ad.add a)) (by omega) (w.alloc (.cells #[.int .i64 0, .string { data := #[] }, .int .u64 0, .slice none 0 0, .int .u64 0, .int .u64 0, .string { data := #[] }] 26)) (hrd.less.below (hb0.mono hB))
  rw [hah] at hta
  have HAH := Lib.hid hta
  have ha0 : (0 : Int) ≤ (a : Int) := by omega
  have ha1 : (a : Int) < (n : Int) := by omega
  have han : a < n := by omega
  have haq : a + q < n := by omega
  have haq1 : a + q + 1 ≤ n := by omega
  have haq2 : (a : Int) + (q : Int) < (n : Int) := by omega
  have haq3 : (a : Int) + (q : Int) + 1 ≤ (n : Int) := by omega
  have HB0 := Lib.hid hb0
  have HZ := Lib.hid hz
  have HA0 := Lib.hid h0
  have HRF := Lib.hid hrf
  obtain ⟨T0, hT0⟩ : ∃ T0 : Nat → Prop, T0 = fun k => S k ∧ k < w.heap.size := ⟨_, rfl⟩
  have htz : Tab (w.alloc (.cells #[.int .i64 0, .string { data := #[] }, .int .u64 0, .slice none 0 0, .int .u64 0, .int .u64 0, .string { data := #[] }] 26)) T0 bt N tl := by rw [hT0]; exact (hT.wide (fun k h1 h2 => ⟨h1, h2⟩)).keep (fun k hk _ => hb0.block k hk.2)
  have HLEN := Lib.hid (Len_any T0 bt N tl (w.alloc (.cells #[.int .i64 0, .string { data := #[] }, .int .u64 0, .slice none 0 0, .int .u64 0, .int .u64 0, .string { data := #[] }] 26)) htz)
  have hbig : (tabT ver tl r l).length ≤ 1073741824 := by have := tabT_len (tl := tl) hm; omega
  have hpay := payB_kind hm hnu hbig (tabT_mem ver tl r l)
  have HTK : Hid (Calls Try.prog 34 #[.int .i64 ver, .pointer (some ⟨bt, 0, none⟩), .slice (some (ad.add a)) (q + 1) (c - a)] (w.alloc (.cells #[.int .i64 0, .string { data := #[] }, .int .u64 0, .slice none 0 0, .int .u64 0, .int .u64 0, .string { data := #[] }] 26)) fun e w' => ∃ (A' : Option Addr) (n' c' : Nat) (S' : Nat → Prop), e = .returned (.agg #[.int .i64 r.kind, .string (tx r.target), .int .u64 r.rule, .slice A' n' c', .int .u64 r.out, .int .u64 r.time, .string (tx r.tag)]) ∧ Deps w' (w.alloc (.cells #[.int .i64 0, .string { data := #[] }, .int .u64 0, .slice none 0 0, .int .u64 0, .int .u64 0, .string { data := #[] }] 26)).heap.size A' n' c' l ∧ (∀ ad, A' = some ad → ¬ S' ad.block) ∧ Tab w' S' bt (N + q) (tabT ver tl r l) ∧ (∀ k, S' k → k < w'.heap.size ∧ (T0 k ∨ (w.alloc (.cells #[.int .i64 0, .string { data := #[] }, .int .u64 0, .slice none 0 0, .int .u64 0, .int .u64 0, .string { data := #[] }] 26)).heap.size ≤ k)) ∧ Turn T0 (w.alloc (.cells #[.int .i64 0, .string { data := #[] }, .int .u64 0, .slice none 0 0, .int .u64 0, .int .u64 0, .string { data := #[] }] 26)) w') := by
    have h1 := taken_any T0 bt B N (q + 1) (c - a) ver hver tl (freT ver tl r l) (payB ver (tabT ver tl r l) r l) (some (ad.add a)) (fun t ht => (freT_txt hm t ht).2) (payB_len hm hnu hbig) (by rw [← hq]) (by omega) (by omega) (by omega) (w.alloc (.cells #[.int .i64 0, .string { data := #[] }, .int .u64 0, .slice none 0 0, .int .u64 0, .int .u64 0, .string { data := #[] }] 26)) (by rw [hz]; omega) htz ((hrf.turn (Turn.of_below hb0) hB).wide (fun k _ hk => by rw [hT0] at hk; exact hk.1)) (tabT ver tl r l) (freT_back _ _ _ _)
    rw [← hq, hpay.1, hpay.2] at h1
    exact h1
  have HBW := Lib.hid hB
  have HT0 := Lib.hid hT0
  have HQ := Lib.hid hq
  have HPLN := Lib.hid hpl
  have HM := Lib.hid hm
  have HFIT := Lib.hid hfit
  have HNU := Lib.hid hnu
  have hq1 : a + q + 1 - a = q + 1 := by omega
  have HTL := Lib.hid htl
  have HN := Lib.hid hN
  clear hpay htz hT0 hB hT hq hm hfit hnu htl hN
  clear hr hrd hdrop htake hah hta h0 hz hb0 hlen hpl hrf
  go_enter Try.func17, Try.ntmps17
  go_wp2_with (go_at_call 33; refine HAH.out.mono ?_; rintro e w3 ⟨rfl, rfl⟩)
  go_wp2_with (go_at_call 31; refine HLEN.out.mono ?_; rintro e w3 ⟨rfl, rfl⟩)
  (
       refine HTK.out.mono ?_
       rintro e w4 ⟨A9, n9, c9, S9, rfl, hd9, hap9, ht9, hs9, htu9⟩
       have hz4 : w4.heap[w.heap.size]? = some (.cells #[.int .i64 0, .string { data := #[] }, .int .u64 0, .slice none 0 0, .int .u64 0, .int .u64 0, .string { data := #[] }] 26 (0, 0)) := (htu9.2.2.2.2 _ (by rw [HZ.out]; omega) (fun h => by rw [HT0.out] at h; omega)).trans HA0.out
       have f0 := at_cell (i := 0) hz4 rfl
       have y0 := at_frozen (i := 0) hz4
       have f1 := at_cell (i := 1) hz4 rfl
       have y1 := at_frozen (i := 1) hz4
       have f2 := at_cell (i := 2) hz4 rfl
       have y2 := at_frozen (i := 2) hz4
       have f3 := at_cell (i := 3) hz4 rfl
       have y3 := at_frozen (i := 3) hz4
       have f4 := at_cell (i := 4) hz4 rfl
       have y4 := at_frozen (i := 4) hz4
       have f5 := at_cell (i := 5) hz4 rfl
       have y5 := at_frozen (i := 5) hz4
       have f6 := at_cell (i := 6) hz4 rfl
       have y6 := at_frozen (i := 6) hz4
       have hws := (set_same (set_same (set_same (set_same (set_same (set_same (set_same hz4 0 (.int .i64 r.kind)) 1 (.string (tx r.target))) 2 (.int .u64 r.rule)) 3 (.slice A9 n9 c9)) 4 (.int .u64 r.out)) 5 (.int .u64 r.time)) 6 (.string (tx r.tag)))
       have htw := ((((((((Turn.refl (fun k => k = w.heap.size) w4).setCell w.heap.size 0 (.int .i64 r.kind) rfl).setCell w.heap.size 1 (.string (tx r.target)) rfl).setCell w.heap.size 2 (.int .u64 r.rule) rfl).setCell w.heap.size 3 (.slice A9 n9 c9) rfl).setCell w.heap.size 4 (.int .u64 r.out) rfl).setCell w.heap.size 5 (.int .u64 r.time) rfl).setCell w.heap.size 6 (.string (tx r.tag)) rfl)
       have hnr : ¬ S9 w.heap.size := fun h => by
         rcases (hs9 _ h).2 with h1 | h1
         · rw [HT0.out] at h1; omega
         · rw [HZ.out] at h1; omega
       have htw9 := ht9.turn htw (fun k hk _ h => hnr (h ▸ hk))
       have hcut := Cut_any S9 bt (N + q) (tabT ver tl r l) (tl.length : Int) (by have := tabT_len (tl := tl) HM.out; have := HTL.out; omega) _ htw9
       rw [tabT_take] at hcut
       have HCUT := Lib.hid hcut
       have HWS := Lib.hid hws
       have HTW := Lib.hid htw
       have HD9 := Lib.hid hd9
       have HAP9 := Lib.hid hap9
       have HS9 := Lib.hid hs9
       have HTU9 := Lib.hid htu9
       have HNR := Lib.hid hnr
       clear hd9 hap9 ht9 hs9 htu9 hz4 hws htw hnr htw9 hcut)
  go_wp2_with (first
    | (go_at_call 35
       refine HCUT.out.mono ?_
       rintro e w5 ⟨rfl, ht5, htu5⟩
       have hlt5 : w.heap.size < w4.heap.size := by have h1 := HTU9.out.2.2.2.1; rw [HZ.out] at h1; omega
       have hrec5 : w5.heap[w.heap.size]? = some (.cells #[.int .i64 r.kind, .string (tx r.target), .int .u64 r.rule, .slice A9 n9 c9, .int .u64 r.out, .int .u64 r.time, .string (tx r.tag)] 26 (0, 0)) := (htu5.2.2.2.2 _ (Nat.lt_of_lt_of_le hlt5 HTW.out.2.2.2.1) HNR.out).trans HWS.out
       have g0 := at_cell (i := 0) hrec5 rfl
       have g1 := at_cell (i := 1) hrec5 rfl
       have g2 := at_cell (i := 2) hrec5 rfl
       have g3 := at_cell (i := 3) hrec5 rfl
       have g4 := at_cell (i := 4) hrec5 rfl
       have g5 := at_cell (i := 5) hrec5 rfl
       have g6 := at_cell (i := 6) hrec5 rfl
       have hown9 : ∀ g, (Value.slice A9 n9 c9).ownBlock = some g → g < w4.heap.size ∧ g ≠ w.heap.size ∧ ¬ S9 g := fun g hg => by
         refine ⟨own_lt HD9.out.1 g hg, fun h => ?_, fun h => ?_⟩
         · have h1 := own_block HD9.out.1 g hg
           rw [HZ.out] at h1
           omega
         · cases A9 with
           | none => cases hg
           | some x => exact HAP9.out x rfl (by have h1 : x.block = g := Option.some.inj hg; rw [h1]; exact h)
       have hown5 := own_heap (w' := w5) HD9.out.1 (fun g hg => (htu5.2.2.2.2 g (Nat.lt_of_lt_of_le (hown9 g hg).1 HTW.out.2.2.2.1) (hown9 g hg).2.2).trans (HTW.out.2.2.2.2 g (hown9 g hg).1 (hown9 g hg).2.1))
       have HPUT := Lib.hid (put_ok S9 bt (N + q) n9 c9 ver tl r A9 l HM.out HFIT.out HNU.out (by have := HTL.out; omega) (by have := HN.out; omega) w5 ht5 (fun ad h1 _ => HAP9.out ad h1) (Reads.of_own hown5))
       have HREC5 := Lib.hid hrec5
       have HOWN5 := Lib.hid hown5
       have HOWN9 := Lib.hid hown9
       have HTU5 := Lib.hid htu5
       have HLT5 := Lib.hid hlt5
       clear hrec5 hown5 hown9 htu5 ht5 hlt5)
    | (go_at_call 11
       refine HPUT.out.mono ?_
       rintro e w6 ⟨va6, S6, rfl, ht6, hs6, ⟨vs6, hv6⟩, htu6⟩
       have ho6 := hv6.1
       rw [HPLN.out] at ho6
       obtain ⟨A6, c6, rfl, hc6⟩ := own_slice ho6
       have hrec6 : w6.heap[w.heap.size]? = some (.cells #[.int .i64 r.kind, .string (tx r.target), .int .u64 r.rule, .slice A9 n9 c9, .int .u64 r.out, .int .u64 r.time, .string (tx r.tag)] 26 (0, 0)) := (htu6.2.2.2.2 _ (Nat.lt_of_lt_of_le (Nat.lt_of_lt_of_le HLT5.out HTW.out.2.2.2.1) HTU5.out.2.2.2.1) HNR.out).trans HREC5.out
       have k0 := at_cell (i := 0) hrec6 rfl
       have m0 := at_frozen (i := 0) hrec6
       have k1 := at_cell (i := 1) hrec6 rfl
       have m1 := at_frozen (i := 1) hrec6
       have k2 := at_cell (i := 2) hrec6 rfl
       have m2 := at_frozen (i := 2) hrec6
       have k3 := at_cell (i := 3) hrec6 rfl
       have m3 := at_frozen (i := 3) hrec6
       have k4 := at_cell (i := 4) hrec6 rfl
       have m4 := at_frozen (i := 4) hrec6
       have k5 := at_cell (i := 5) hrec6 rfl
       have m5 := at_frozen (i := 5) hrec6
       have k6 := at_cell (i := 6) hrec6 rfl
       have m6 := at_frozen (i := 6) hrec6
       have hs9b : ∀ k, S9 k → S k ∨ w.heap.size + 1 ≤ k := fun k hk => by
         rcases (HS9.out k hk).2 with h1 | h1
         · rw [HT0.out] at h1; exact .inl h1.1
         · rw [HZ.out] at h1; exact .inr h1
       have hbw6 : Turn S w w6 := ((((Turn.of_below HB0.out).trans HTU9.out (fun k _ h => by rw [HT0.out] at h; exact h.1)).trans HTW.out (fun k hk h => by omega)).trans HTU5.out (fun k hk h => (hs9b k h).resolve_right (by omega))).trans htu6 (fun k hk h => (hs9b k h).resolve_right (by omega))
       have heqf := equalFunc_any w6.heap.size B (q + 1) c6 (q + 1) (c - a) A6 (some (ad.add a)) (payL ver tl r l) (payL ver tl r l) (by omega) (by omega) w6 (PlsC.of_rows HPLN.out.symm ⟨vs6, hv6⟩) (HRF.out.turn hbw6 HBW.out).less
       rw [decide_eq_true rfl] at heqf
       have HEQF := Lib.hid heqf
       have HREC6 := Lib.hid hrec6
       have HTU6 := Lib.hid htu6
       have HS6 := Lib.hid hs6
       have HT6 := Lib.hid ht6
       clear hrec6 hs9b hbw6 heqf htu6 hs6 ht6 hv6 ho6 hc6)
    | (go_at_call 36
       refine HEQF.out.mono ?_
       rintro e w7 ⟨rfl, rfl⟩))
  have hfin := (set_same (set_same (set_same (set_same (set_same (set_same (set_same HREC6.out 0 (.int .i64 r.kind)) 1 (.string (tx r.target))) 2 (.int .u64 r.rule)) 3 (.slice A9 n9 c9)) 4 (.int .u64 r.out)) 5 (.int .u64 r.time)) 6 (.string (tx r.tag)))
  have htn := ((((((((Turn.refl (fun k => k = w.heap.size) w6).setCell w.heap.size 0 (.int .i64 r.kind) rfl).setCell w.heap.size 1 (.string (tx r.target)) rfl).setCell w.heap.size 2 (.int .u64 r.rule) rfl).setCell w.heap.size 3 (.slice A9 n9 c9) rfl).setCell w.heap.size 4 (.int .u64 r.out) rfl).setCell w.heap.size 5 (.int .u64 r.time) rfl).setCell w.heap.size 6 (.string (tx r.tag)) rfl)
  refine bodyPost_ret (results_cell_two rfl _ _ _ _ _ _ _ rfl hfin Try.underlying26 rfl (by kernel_rfl)) rfl ?_
  have hlt := fun g hg => own_lt HOWN5.out g hg
  have hset := own_heap HOWN5.out (fun g hg => (htn.2.2.2.2 g (Nat.lt_of_lt_of_le (hlt g hg) HTU6.out.2.2.2.1) (HOWN9.out g hg).2.1).trans (HTU6.out.2.2.2.2 g (hlt g hg) (HOWN9.out g hg).2.2))
  have hS9 : ∀ k, S9 k → S k ∨ w.heap.size + 1 ≤ k := fun k hk => by
    rcases (HS9.out k hk).2 with h1 | h1
    · rw [HT0.out] at h1; exact .inl h1.1
    · rw [HZ.out] at h1; exact .inr h1
  have h45 : w.heap.size < w5.heap.size := Nat.lt_of_lt_of_le (Nat.lt_of_lt_of_le HLT5.out HTW.out.2.2.2.1) HTU5.out.2.2.2.1
  have hn6 : ¬ S6 w.heap.size := fun h => by
    rcases (HS6.out _ h).2 with h1 | h1
    · exact HNR.out h1
    · omega
  have hnum : ((a + (payL ver tl r l).length : Nat) : Int) = (a : Int) + (q : Int) + 1 := by rw [HPLN.out]; omega
  refine ⟨A9, n9, c9, S6, by rw [hnum]; rfl, ⟨own_less hset (by rw [HZ.out]; omega), HD9.out.2⟩, fun x hx h => ?_, ⟨N + q + 18, by omega, HT6.out.turn htn (fun k hk _ h => hn6 (h ▸ hk))⟩, fun k hk => ⟨Nat.lt_of_lt_of_le (HS6.out k hk).1 htn.2.2.2.1, ?_⟩, ?_⟩
  · subst hx
    have h1 := HOWN9.out x.block rfl
    rcases (HS6.out _ h).2 with h2 | h2
    · exact h1.2.2 h2
    · have h3 := HTW.out.2.2.2.1
      have h4 := HTU5.out.2.2.2.1
      have h5 := h1.1
      omega
  · rcases (HS6.out k hk).2 with h1 | h1
    · rcases hS9 k h1 with h2 | h2
      · exact .inl h2
      · exact .inr (by omega)
    · exact .inr (by omega)
  · refine (((((Turn.of_below HB0.out).trans HTU9.out (fun k _ h => ?_)).trans HTW.out (fun k hk h => ?_)).trans HTU5.out (fun k hk h => ?_)).trans HTU6.out (fun k hk h => ?_)).trans htn (fun k hk h => ?_)
    · rw [HT0.out] at h; exact h.1
    · omega
    · rcases hS9 k h with h2 | h2
      · exact h2
      · omega
    · rcases hS9 k h with h2 | h2
      · exact h2
      · omega
    · omega

end Go.Proofs.Ytfidfhajnobonaa

/- schema.Get at the end. -/
namespace Go.Proofs.Ytfidfhajnobonaa
open Go.RowKit

def zRec : Obj := .cells #[.int .i64 0, .string { data := #[] }, .int .u64 0, .slice none 0 0, .int .u64 0, .int .u64 0, .string { data := #[] }] 26

/-- What Get does at the end, if the slice from there on is this one. -/
def GetsNone (ver : Int) (bt n c : Nat) (A : Option Addr) (w : World) : Prop :=
  Calls Try.prog 17 #[.int .i64 ver, .pointer (some ⟨bt, 0, none⟩), .slice A n c, .int .i64 (n : Int)] w fun e w' => e = .returned (.tuple #[.agg #[.int .i64 0, .string { data := #[] }, .int .u64 0, .slice none 0 0, .int .u64 0, .int .u64 0, .string { data := #[] }], .int .i64 0, .int .i64 6]) ∧ Below w.heap.size w w'

set_option maxRecDepth 100000 in
set_option maxHeartbeats 1000000 in
theorem get_last0 (ver : Int) (hv : 1 ≤ ver ∧ ver ≤ 3) (bt : Nat)  (w : World) (HAH : Hid (Calls Try.prog 33 #[.slice none 0 0] (w.alloc zRec) fun e w' => e = .returned (.int .i64 ((tahead [] : Nat) : Int)) ∧ w.alloc zRec = w')) : GetsNone ver bt 0 0 none w := by
  have h0 := one_new w (.cells #[.int .i64 0, .string { data := #[] }, .int .u64 0, .slice none 0 0, .int .u64 0, .int .u64 0, .string { data := #[] }] 26)
  have HA0 := Lib.hid h0
  have HB0 := Lib.hid ((Below.refl w.heap.size w).alloc (Nat.le_refl _) (.cells #[.int .i64 0, .string { data := #[] }, .int .u64 0, .slice none 0 0, .int .u64 0, .int .u64 0, .string { data := #[] }] 26))
  have q0 := at_cell (i := 0) h0 rfl
  have y0 := at_frozen (i := 0) h0
  have q1 := at_cell (i := 1) h0 rfl
  have y1 := at_frozen (i := 1) h0
  have q2 := at_cell (i := 2) h0 rfl
  have y2 := at_frozen (i := 2) h0
  have q3 := at_cell (i := 3) h0 rfl
  have y3 := at_frozen (i := 3) h0
  have q4 := at_cell (i := 4) h0 rfl
  have y4 := at_frozen (i := 4) h0
  have q5 := at_cell (i := 5) h0 rfl
  have y5 := at_frozen (i := 5) h0
  have q6 := at_cell (i := 6) h0 rfl
  have y6 := at_frozen (i := 6) h0
  clear h0
  have d1 : decide (ver < 1) = false := decide_eq_false (by omega)
  have d2 : decide (ver > 3) = false := decide_eq_false (by omega)
  have hv1 := hv.1
  have hv3 := hv.2
  clear hv
  unfold zRec at HAH
  unfold GetsNone
  simp only [tahead] at HAH
  go_enter Try.func17, Try.ntmps17
  go_wp2_with (go_at_call 33; refine HAH.out.mono ?_; rintro e w3 ⟨rfl, rfl⟩)
  refine bodyPost_ret (results_cell_two rfl _ _ _ _ _ _ _ rfl HA0.out Try.underlying26 rfl (by kernel_rfl)) rfl ?_
  exact ⟨rfl, HB0.out⟩
set_option maxRecDepth 100000 in
set_option maxHeartbeats 1000000 in
theorem get_last1 (ver : Int) (hv : 1 ≤ ver ∧ ver ≤ 3) (bt : Nat) (n : Nat) (hn : n ≤ 100000) (ad : Addr) (w : World) (HAH : Hid (Calls Try.prog 33 #[.slice (some ad) 0 0] (w.alloc zRec) fun e w' => e = .returned (.int .i64 ((tahead [] : Nat) : Int)) ∧ w.alloc zRec = w')) : GetsNone ver bt n n (some ad) w := by
  have h0 := one_new w (.cells #[.int .i64 0, .string { data := #[] }, .int .u64 0, .slice none 0 0, .int .u64 0, .int .u64 0, .string { data := #[] }] 26)
  have HA0 := Lib.hid h0
  have HB0 := Lib.hid ((Below.refl w.heap.size w).alloc (Nat.le_refl _) (.cells #[.int .i64 0, .string { data := #[] }, .int .u64 0, .slice none 0 0, .int .u64 0, .int .u64 0, .string { data := #[] }] 26))
  have q0 := at_cell (i := 0) h0 rfl
  have y0 := at_frozen (i := 0) h0
  have q1 := at_cell (i := 1) h0 rfl
  have y1 := at_frozen (i := 1) h0
  have q2 := at_cell (i := 2) h0 rfl
  have y2 := at_frozen (i := 2) h0
  have q3 := at_cell (i := 3) h0 rfl
  have y3 := at_frozen (i := 3) h0
  have q4 := at_cell (i := 4) h0 rfl
  have y4 := at_frozen (i := 4) h0
  have q5 := at_cell (i := 5) h0 rfl
  have y5 := at_frozen (i := 5) h0
  have q6 := at_cell (i := 6) h0 rfl
  have y6 := at_frozen (i := 6) h0
  clear h0
  have d1 : decide (ver < 1) = false := decide_eq_false (by omega)
  have d2 : decide (ver > 3) = false := decide_eq_false (by omega)
  have hv1 := hv.1
  have hv3 := hv.2
  clear hv
  unfold zRec at HAH
  unfold GetsNone
  simp only [tahead] at HAH
  go_enter Try.func17, Try.ntmps17
  go_wp2_with (go_at_call 33; refine HAH.out.mono ?_; rintro e w3 ⟨rfl, rfl⟩)
  refine bodyPost_ret (results_cell_two rfl _ _ _ _ _ _ _ rfl HA0.out Try.underlying26 rfl (by kernel_rfl)) rfl ?_
  exact ⟨rfl, HB0.out⟩
set_option maxRecDepth 100000 in
set_option maxHeartbeats 1000000 in
theorem get_last2 (ver : Int) (hv : 1 ≤ ver ∧ ver ≤ 3) (bt : Nat) (n c : Nat) (hc : n < c) (hn : n ≤ 100000) (ad : Addr) (w : World) (HAH : Hid (Calls Try.prog 33 #[.slice (some (ad.add n)) 0 (c - n)] (w.alloc zRec) fun e w' => e = .returned (.int .i64 ((tahead [] : Nat) : Int)) ∧ w.alloc zRec = w')) : GetsNone ver bt n c (some ad) w := by
  have h0 := one_new w (.cells #[.int .i64 0, .string { data := #[] }, .int .u64 0, .slice none 0 0, .int .u64 0, .int .u64 0, .string { data := #[] }] 26)
  have HA0 := Lib.hid h0
  have HB0 := Lib.hid ((Below.refl w.heap.size w).alloc (Nat.le_refl _) (.cells #[.int .i64 0, .string { data := #[] }, .int .u64 0, .slice none 0 0, .int .u64 0, .int .u64 0, .string { data := #[] }] 26))
  have q0 := at_cell (i := 0) h0 rfl
  have y0 := at_frozen (i := 0) h0
  have q1 := at_cell (i := 1) h0 rfl
  have y1 := at_frozen (i := 1) h0
  have q2 := at_cell (i := 2) h0 rfl
  have y2 := at_frozen (i := 2) h0
  have q3 := at_cell (i := 3) h0 rfl
  have y3 := at_frozen (i := 3) h0
  have q4 := at_cell (i := 4) h0 rfl
  have y4 := at_frozen (i := 4) h0
  have q5 := at_cell (i := 5) h0 rfl
  have y5 := at_frozen (i := 5) h0
  have q6 := at_cell (i := 6) h0 rfl
  have y6 := at_frozen (i := 6) h0
  clear h0
  have d1 : decide (ver < 1) = false := decide_eq_false (by omega)
  have d2 : decide (ver > 3) = false := decide_eq_false (by omega)
  have hv1 := hv.1
  have hv3 := hv.2
  clear hv
  unfold zRec at HAH
  unfold GetsNone
  simp only [tahead] at HAH
  go_enter Try.func17, Try.ntmps17
  go_wp2_with (go_at_call 33; refine HAH.out.mono ?_; rintro e w3 ⟨rfl, rfl⟩)
  refine bodyPost_ret (results_cell_two rfl _ _ _ _ _ _ _ rfl HA0.out Try.underlying26 rfl (by kernel_rfl)) rfl ?_
  exact ⟨rfl, HB0.out⟩
/-- At the end there is none. -/
theorem get_last (ver : Int) (hv : 1 ≤ ver ∧ ver ≤ 3) (bt n c B : Nat) (ps : List (List UInt8)) (A : Option Addr) (hA : A = none → n = 0 ∧ c = 0) (hn : n ≤ 100000) (w : World) (hB : B ≤ w.heap.size) (hr : PlsC w B A n c ps) : GetsNone ver bt n c A w := by
  have hd := hr.drop (k := n) (Nat.le_refl _)
  rw [List.drop_of_length_le (by rw [hr.2.1]; exact Nat.le_refl _), Nat.sub_self] at hd
  have hah := fun W hb => ahead_any B 0 (c - n) [] _ (by omega) W (hd.below hb)
  have hcn := hr.1
  have hb0 := ((Below.refl w.heap.size w).alloc (Nat.le_refl _) zRec).mono hB
  cases A with
  | none =>
    obtain ⟨rfl, rfl⟩ := hA rfl
    have h1 := hah _ hb0
    simp only [Nat.sub_self] at h1
    refine get_last0 ver hv bt w (Lib.hid ?_)
    simpa using h1
  | some ad =>
    by_cases hc : c = n
    · subst hc
      have h1 := hah _ hb0
      rw [if_pos rfl, Nat.sub_self] at h1
      exact get_last1 ver hv bt c hn ad w (Lib.hid h1)
    · have h1 := hah _ hb0
      rw [if_neg hc] at h1
      exact get_last2 ver hv bt n c (by omega) hn ad w (Lib.hid h1)

end Go.Proofs.Ytfidfhajnobonaa

/- All texts of a table. -/
namespace Go.Proofs.Ytfidfhajnobonaa
open Go.RowKit

set_option maxRecDepth 100000 in
set_option maxHeartbeats 1000000 in
theorem alltexts_any (S : Nat → Prop) (b N : Nat) (tl : List (List UInt8)) (hl : tl.length ≤ 1000000) (w : World) (hT : Tab w S b N tl) :
    Calls Try.prog 16 #[.pointer (some ⟨b, 0, none⟩)] w fun e w' => ∃ A' c', e = .returned (.slice A' tl.length c') ∧ Reads w' w'.heap.size 1 A' tl.length (tl.map tsv) ∧ Below w.heap.size w w' := by
  obtain ⟨i0, ii0, iz0, iz1, iz2⟩ := info_parts tinfo
  obtain ⟨n, hn⟩ : ∃ n, n = tl.length := ⟨_, rfl⟩
  have HTX : Hid (∀ (W : World) (i : Nat), Below w.heap.size w W → Calls Try.prog 32 #[.pointer (some ⟨b, 0, none⟩), .int .u64 (i : Int)] W fun e w' => e = .returned (.tuple #[tsv (ttext tl i), .bool (decide (i < tl.length))]) ∧ W = w') := fun W i hb => Text_any (fun k => S k ∧ k < w.heap.size) b N tl i (by omega) W ((hT.wide (fun k h1 h2 => ⟨h1, h2⟩)).keep (fun k hk _ => hb.block k hk.2))
  have HLE : Hid (∀ (W : World), Below w.heap.size w W → Calls Try.prog 31 #[.pointer (some ⟨b, 0, none⟩)] W fun e w' => e = .returned (.int .i64 (tl.length : Int)) ∧ W = w') := fun W hb => Len_any (fun k => S k ∧ k < w.heap.size) b N tl W ((hT.wide (fun k h1 h2 => ⟨h1, h2⟩)).keep (fun k hk _ => hb.block k hk.2))
  unfold tsv at HTX
  have HL := Lib.hid hn
  rw [← hn] at HTX HLE hl ⊢
  clear hn hT
  go_enter Try.func16, Try.ntmps16
  go_wp2_with (go_at_call 31; refine (HLE.out _ ((Below.refl _ _).alloc (Nat.le_refl _) _)).mono ?_; rintro e w3 ⟨rfl, rfl⟩)
  go_loopw [3, 10] (fun va idx wr => StRel w tl va idx wr) (fun va idx wr => n - (intOf idx).toNat)
  case atStart => exact ⟨0, by omega, rfl, own_empty w _, (Below.refl _ _).alloc (Nat.le_refl _) _⟩
  case round =>
    obtain ⟨i, hi, rfl, hown, hb⟩ := hrel
    rw [← HL.out] at hi
    have HO := Lib.hid hown
    have HBR := Lib.hid hb
    by_cases hlt : i < n
    · obtain ⟨p, hp⟩ : ∃ p, tl[i]? = some p := ⟨_, List.getElem?_eq_getElem (by rw [← HL.out]; exact hlt)⟩
      have hcall := HTX.out wr i hb
      have htt : ttext tl i = p := by unfold ttext; rw [hp]; rfl
      rw [htt, decide_eq_true hlt] at hcall
      have HCALL := Lib.hid hcall
      have htk : (tl.take (i + 1)).map tsv = (tl.take i).map tsv ++ [.string (tx p)] := by rw [List.take_add_one, hp, List.map_append]; rfl
      have HTK := Lib.hid htk
      have HO2 := Lib.hid (World.ownsRow.alloc hown (.cells #[.string (tx p)] 9))
      have HB2 := Lib.hid (hb.alloc hb.size (.cells #[.string (tx p)] 9))
      have HR2 := Lib.hid (reads_one_row wr 9 (.string (tx p)))
      have hi0 : (0 : Int) ≤ (i : Int) := by omega
      have hi1 : (i : Int) < (n : Int) := by omega
      clear hp htk hown hb hcall htt
      go_wp2_with (first
        | (go_at_call 32; refine HCALL.out.mono ?_; rintro e w4 ⟨rfl, rfl⟩)
        | (at_builtin; refine wpList_append_told _ rfl (.tmp 20) (.tmp 22) 22 rfl w.heap.size 9 i0 _ 1 16 Try.underlying22 ii0 iz0 iz1 iz2 rfl (by decide) _ i _ rfl HO2.out (some ⟨wr.heap.size, 0, none⟩) 1 1 (wr.heap.size + 1) [.string (tx p)] rfl (by simp) HR2.out (fun u hu => by obtain rfl := List.mem_singleton.1 hu; rfl) (by unfold maxLen; omega) (by omega) HB2.out.size ?_; intro v6 w6 ho6 hg6 hv6; rw [← HTK.out] at ho6; have HO6 := Lib.hid ho6; have HB6 := Lib.hid (HB2.out.grown hg6 HB2.out.size (own_block HO2.out)); clear ho6 hg6 hv6))
      exact ⟨⟨i + 1, by rw [← HL.out]; omega, by go_num, HO6.out, HB6.out⟩, by simp [intOf]; omega⟩
    · obtain rfl : i = n := by omega
      rw [List.take_of_length_le (by rw [← HL.out]; omega)] at HO
      obtain ⟨A', c', rfl, _⟩ := own_slice HO.out
      clear hown hb
      go_wp2
      go_ret
      exact ⟨A', c', rfl, Reads.of_own HO.out, HBR.out⟩

end Go.Proofs.Ytfidfhajnobonaa

/- The way down: deps, and a record, that came in. -/
namespace Go.Proofs.Ytfidfhajnobonaa
open Go.ChangeShapes Go.WideShapes Go.ChangeAt Go.RowKit Go.Deep

theorem r_one_at {cs : List Value} {j : Nat} {v : Value} (h : (cs.drop j).take 1 = [v]) : cs[j]? = some v := by
  have := congrArg (fun l : List Value => l[0]?) h
  simpa using this
theorem r_tx_back (s : ByteArray) : tx s.data.toList = s := by
  cases s
  simp [tx]

theorem deps_row (W : World) (ad : Addr) : ∀ n : Nat, (∀ i, i < n → ∃ d : Dp, d.name.length ≤ maxLen ∧ W.cell? (ad.add (i * 3)) = some (rsv d.name) ∧ W.cell? (ad.add (i * 3 + 1)) = some (.int .u64 d.hash) ∧ W.cell? (ad.add (i * 3 + 2)) = some (.bool d.order)) →
    ∃ l : List Dp, l.length = n ∧ (∀ d ∈ l, d.name.length ≤ maxLen) ∧ ∀ i d, l[i]? = some d → W.cell? (ad.add (i * 3)) = some (rsv d.name) ∧ W.cell? (ad.add (i * 3 + 1)) = some (.int .u64 d.hash) ∧ W.cell? (ad.add (i * 3 + 2)) = some (.bool d.order)
  | 0, _ => ⟨[], rfl, by simp, by simp⟩
  | n + 1, h => by
    obtain ⟨ts, h1, h2, h3⟩ := deps_row W ad n (fun i hi => h i (by omega))
    obtain ⟨t, g1, g2⟩ := h n (by omega)
    refine ⟨ts ++ [t], by simp [h1], ?_, ?_⟩
    · intro u hu
      rcases List.mem_append.1 hu with hu | hu
      · exact h2 u hu
      · have : u = t := by simpa using hu
        rw [this]; exact g1
    · intro i u hu
      rcases Nat.lt_or_ge i ts.length with hlt | hge
      · rw [List.getElem?_append_left hlt] at hu
        exact h3 i u hu
      · rw [List.getElem?_append_right hge] at hu
        have hi : i = n := by
          rcases Nat.lt_or_ge (i - ts.length) 1 with h4 | h4
          · omega
          · rw [List.getElem?_eq_none (by simpa using h4)] at hu; cases hu
        subst hi
        rw [h1, Nat.sub_self] at hu
        have : t = u := by simpa using hu
        rw [← this]; exact g2

theorem dps_back : ∀ (l : List Dp) (j : Nat) (u : Value), (dps l)[j]? = some u → ∃ t, l[j / 3]? = some t ∧ ((j % 3 = 0 ∧ u = rsv t.name) ∨ (j % 3 = 1 ∧ u = .int .u64 t.hash) ∨ (j % 3 = 2 ∧ u = .bool t.order))
  | [], j, u, h => by simp [dps] at h
  | a :: l, j, u, h => by
    have e : (Dp.cells a ++ dps l)[j]? = some u := h
    rcases Nat.lt_or_ge j 3 with hlt | hge
    · rw [List.getElem?_append_left (by simp [Dp.cells]; omega)] at e
      refine ⟨a, by rw [show j / 3 = 0 by omega]; rfl, ?_⟩
      obtain rfl | rfl | rfl : j = 0 ∨ j = 1 ∨ j = 2 := by omega
      · exact .inl ⟨rfl, (Option.some.inj e).symm⟩
      · exact .inr (.inl ⟨rfl, (Option.some.inj e).symm⟩)
      · exact .inr (.inr ⟨rfl, (Option.some.inj e).symm⟩)
    · rw [List.getElem?_append_right (by simp [Dp.cells]; omega)] at e
      have e2 : (dps l)[j - 3]? = some u := e
      obtain ⟨t, h1, h2⟩ := dps_back l (j - 3) u e2
      refine ⟨t, by rw [show j / 3 = (j - 3) / 3 + 1 by omega]; simpa using h1, ?_⟩
      rw [show j % 3 = (j - 3) % 3 by omega]
      exact h2

theorem c_dep : Try.prog.cellsOf 56 = 3 := by kernel_rfl
theorem c_str : Try.prog.cellsOf 9 = 1 := by kernel_rfl
theorem c_u64 : Try.prog.cellsOf 23 = 1 := by kernel_rfl
theorem c_bool : Try.prog.cellsOf 4 = 1 := by kernel_rfl
theorem c_int : Try.prog.cellsOf 3 = 1 := by kernel_rfl
theorem c_deps : Try.prog.cellsOf 24 = 1 := by kernel_rfl
theorem c_rec : Try.prog.cellsOf 26 = 7 := by kernel_rfl

theorem open_deps {H : Type} {enc : TypeId × Value → H} {W : World} {fuel : Nat} {cs : List Value} {x : DataW H × List MemPlace} (hf : DataW.trod enc Try.prog W 0 (fun _ => true) true fuel 24 cs = some x) :
    ∃ (A : Option Addr) (n c : Nat) (l : List Dp), cs = [.slice A n c] ∧ n ≤ maxLen ∧ (A = none → c = 0) ∧ (∀ d ∈ l, d.name.length ≤ maxLen) ∧ Reads W W.heap.size 3 A n (dps l) := by
  rcases Go.Deep.open_slice Try.underlying24 hf with ⟨hcs, _⟩ | ⟨ad, n, c, m, k, D, Pl, hcs, _, hl, hmx, hm, _, hi⟩
  · exact ⟨none, 0, 0, [], hcs, by omega, fun _ => rfl, by simp, by simp [dps], fun h => absurd h (by omega)⟩
  · have hnm : n ≤ m := by rw [hm]; simp; exact hl
    have hall : ∀ i, i < n → ∃ d : Dp, d.name.length ≤ maxLen ∧ W.cell? (ad.add (i * 3)) = some (rsv d.name) ∧ W.cell? (ad.add (i * 3 + 1)) = some (.int .u64 d.hash) ∧ W.cell? (ad.add (i * 3 + 2)) = some (.bool d.order) := by
      intro i hin
      obtain ⟨cs, hcell, htr⟩ := hi i (by omega)
      rw [c_dep] at hcell
      obtain ⟨_, _, hat⟩ := World.cells?_some hcell
      obtain ⟨y0, y1, y2, n', _, _, g0, g1, g2⟩ := trod_struct3 Try.underlying56 htr
      rw [c_str] at g0
      rw [c_u64] at g1
      rw [c_bool] at g2
      obtain ⟨z0, e0, _, w0⟩ := DataW.trod_string Try.underlying9 g0
      obtain ⟨z1, e1, _, w1⟩ := DataW.trod_int Try.underlying23 g1
      obtain ⟨z2, e2, _⟩ := DataW.trod_bool Try.underlying4 g2
      refine ⟨⟨z0.data.toList, z1, z2⟩, by rw [Array.length_toList]; exact w0, ?_, ?_, ?_⟩
      · have h := hat 0 (by omega)
        rw [add_of_add, r_one_at e0] at h
        show _ = some (rsv z0.data.toList)
        rw [rsv, r_tx_back]
        exact h
      · have h := hat 1 (by omega)
        rw [add_of_add, r_one_at e1] at h
        exact h
      · have h := hat 2 (by omega)
        rw [add_of_add, r_one_at e2] at h
        exact h
    obtain ⟨l, h1, h2, h3⟩ := deps_row W ad n hall
    refine ⟨some ad, n, c, l, hcs, by omega, fun h => (by cases h), h2, by rw [dps_len, h1], fun hn => ⟨ad, rfl, ?_, fun j u hu => ?_⟩⟩
    · obtain ⟨t, _, h4, _⟩ := hall 0 hn
      have := cell_lt h4
      rwa [block_of_add] at this
    · obtain ⟨t, g1, g2⟩ := dps_back l j u hu
      obtain ⟨q0, q1, q2⟩ := h3 _ t g1
      rcases g2 with ⟨hj, rfl⟩ | ⟨hj, rfl⟩ | ⟨hj, rfl⟩
      · rw [show j / 3 * 3 = j by omega] at q0; exact q0
      · rw [show j / 3 * 3 + 1 = j by omega] at q1; exact q1
      · rw [show j / 3 * 3 + 2 = j by omega] at q2; exact q2

theorem trod_struct7 {H : Type} {enc : TypeId × Value → H} {P : Program} {w : World} {base : Nat} {spare : Nat → Bool} {held : Bool} {t : TypeId} {f0 f1 f2 f3 f4 f5 f6 : Field} {fuel : Nat} {cs : List Value} {x : DataW H × List MemPlace} (ht : P.underlying t = some (.struct #[f0, f1, f2, f3, f4, f5, f6])) (h : DataW.trod enc P w base spare held fuel t cs = some x) :
    ∃ y0 y1 y2 y3 y4 y5 y6 n, cs.length = P.cellsOf t ∧ DataW.trod enc P w base spare held n f0.type ((cs.drop f0.offset).take (P.cellsOf f0.type)) = some y0 ∧ DataW.trod enc P w base spare held n f1.type ((cs.drop f1.offset).take (P.cellsOf f1.type)) = some y1 ∧ DataW.trod enc P w base spare held n f2.type ((cs.drop f2.offset).take (P.cellsOf f2.type)) = some y2 ∧ DataW.trod enc P w base spare held n f3.type ((cs.drop f3.offset).take (P.cellsOf f3.type)) = some y3 ∧ DataW.trod enc P w base spare held n f4.type ((cs.drop f4.offset).take (P.cellsOf f4.type)) = some y4 ∧ DataW.trod enc P w base spare held n f5.type ((cs.drop f5.offset).take (P.cellsOf f5.type)) = some y5 ∧ DataW.trod enc P w base spare held n f6.type ((cs.drop f6.offset).take (P.cellsOf f6.type)) = some y6 := by
  obtain ⟨xs, n, _, rfl, hl, hlen, hf⟩ := DataW.trod_struct ht h
  match xs, hlen with
  | [y0, y1, y2, y3, y4, y5, y6], _ => exact ⟨y0, y1, y2, y3, y4, y5, y6, n, hl, by simpa using hf 0 f0 rfl, by simpa using hf 1 f1 rfl, by simpa using hf 2 f2 rfl, by simpa using hf 3 f3 rfl, by simpa using hf 4 f4 rfl, by simpa using hf 5 f5 rfl, by simpa using hf 6 f6 rfl⟩

/-- The cells of a record, out of its data. -/
theorem open_rcells {H : Type} {enc : TypeId × Value → H} {W : World} {fuel : Nat} {cs : List Value} {x : DataW H × List MemPlace} (hf : DataW.trod enc Try.prog W 0 (fun _ => true) true fuel 26 cs = some x) :
    ∃ (r : Rc) (A : Option Addr) (n c : Nat) (l : List Dp), cs = (rcells r A n c).toList ∧ n ≤ maxLen ∧ (A = none → c = 0) ∧ Fits r l ∧ Reads W W.heap.size 3 A n (dps l) := by
  obtain ⟨y0, y1, y2, y3, y4, y5, y6, n', hl, g0, g1, g2, g3, g4, g5, g6⟩ := trod_struct7 Try.underlying26 hf
  rw [c_rec] at hl
  rw [c_int] at g0
  rw [c_str] at g1
  rw [c_u64] at g2
  rw [c_deps] at g3
  rw [c_u64] at g4
  rw [c_u64] at g5
  rw [c_str] at g6
  obtain ⟨z0, e0, _, w0⟩ := DataW.trod_int Try.underlying3 g0
  obtain ⟨z1, e1, _, w1⟩ := DataW.trod_string Try.underlying9 g1
  obtain ⟨z2, e2, _, w2⟩ := DataW.trod_int Try.underlying23 g2
  obtain ⟨A, n, c, l, e3, hn, hA, hd, hr⟩ := open_deps g3
  obtain ⟨z4, e4, _, w4⟩ := DataW.trod_int Try.underlying23 g4
  obtain ⟨z5, e5, _, w5⟩ := DataW.trod_int Try.underlying23 g5
  obtain ⟨z6, e6, _, w6⟩ := DataW.trod_string Try.underlying9 g6
  refine ⟨⟨z0, z1.data.toList, z2, z4, z5, z6.data.toList⟩, A, n, c, l, ?_, hn, hA, ⟨by rw [Array.length_toList]; exact w1, by rw [Array.length_toList]; exact w6, hd⟩, hr⟩
  match cs, hl with
  | [c0, c1, c2, c3, c4, c5, c6], _ =>
    have f0 := r_one_at e0
    have f1 := r_one_at e1
    have f2 := r_one_at e2
    have f3 := r_one_at e3
    have f4 := r_one_at e4
    have f5 := r_one_at e5
    have f6 := r_one_at e6
    simp at f0 f1 f2 f3 f4 f5 f6
    subst f0 f1 f2 f3 f4 f5 f6
    unfold rcells
    simp only [r_tx_back]

set_option maxRecDepth 100000 in
theorem open_record {H : Type} {enc : TypeId × Value → H} {W : World} {v : Value} {d : DataW H} {ps : List MemPlace} {r0 : Reach} {b0 : Nat} (hval : Value.okWide Try.prog W r0 b0 26 v) (hd : DataW.Trod enc Try.prog W 0 (fun _ => true) true 26 v d ps) :
    ∃ (r : Rc) (A : Option Addr) (n c : Nat) (l : List Dp), v = rcv r A n c ∧ n ≤ maxLen ∧ (A = none → c = 0) ∧ Fits r l ∧ Reads W W.heap.size 3 A n (dps l) := by
  obtain ⟨cs, rfl, _⟩ := okWide_struct Try.underlying26 hval
  obtain ⟨fuel, hf⟩ := hd
  obtain ⟨r, A, n, c, l, h1, h2, h3, h4, h5⟩ := open_rcells hf
  refine ⟨r, A, n, c, l, ?_, h2, h3, h4, h5⟩
  have : cs = rcells r A n c := by
    apply Array.ext'
    simpa [Value.cells] using h1
  rw [this]
  rfl

end Go.Proofs.Ytfidfhajnobonaa

/- The numbers of records that came in are of 64 bits. -/
namespace Go.Proofs.Ytfidfhajnobonaa
open Go.ChangeShapes Go.WideShapes Go.ChangeAt Go.RowKit Go.Deep

theorem wf64 {z : Int} (h : (Lit.int .u64 z).wf = true) : 0 ≤ z ∧ z < 18446744073709551616 := by
  have hx : 0 ≤ z ∧ z ≤ 18446744073709551615 := by simpa [Lit.wf, IntKind.min, IntKind.max, IntKind.signed, IntKind.bits] using h
  omega

set_option maxRecDepth 100000 in
theorem deps_nums {H : Type} {enc : TypeId × Value → H} {W : World} {fuel : Nat} {A : Option Addr} {n c : Nat} {l : List Dp} {x : DataW H × List MemPlace} (hf : DataW.trod enc Try.prog W 0 (fun _ => true) true fuel 24 [.slice A n c] = some x) (hr : Reads W W.heap.size 3 A n (dps l)) : ∀ d ∈ l, 0 ≤ d.hash ∧ d.hash < 18446744073709551616 := by
  have hln : l.length = n := by have := hr.1; rw [dps_len] at this; omega
  rcases Go.Deep.open_slice Try.underlying24 hf with ⟨hcs, _⟩ | ⟨ad, n', c', m, k, D, Pl, hcs, _, hl, hmx, hm, _, hi⟩
  · have h1 : n = 0 := by injection hcs with h1; injection h1
    intro d hd
    have : l = [] := List.eq_nil_of_length_eq_zero (by omega)
    rw [this] at hd
    cases hd
  · obtain ⟨rfl, rfl, rfl⟩ : A = some ad ∧ n = n' ∧ c = c' := by
      injection hcs with h1 _
      injection h1 with h2 h3 h4
      exact ⟨h2, h3, h4⟩
    intro d hd
    obtain ⟨i, hlt, hid⟩ := List.mem_iff_getElem.1 hd
    have hid' : l[i]? = some d := by rw [List.getElem?_eq_getElem hlt, hid]
    obtain ⟨_, g, _⟩ := dps_at l i d hid'
    obtain ⟨ad', hae, _, hc⟩ := hr.2 (by omega)
    obtain rfl : ad = ad' := Option.some.inj hae
    have hcell := hc _ _ g
    have hnm : n ≤ m := by rw [hm]; simp; exact hl
    obtain ⟨cs, hcs2, htr⟩ := hi i (by omega)
    rw [c_dep] at hcs2
    obtain ⟨_, _, hat⟩ := World.cells?_some hcs2
    obtain ⟨y0, y1, y2, nn, _, _, g0, g1, g2⟩ := trod_struct3 Try.underlying56 htr
    rw [c_str] at g0
    rw [c_u64] at g1
    rw [c_bool] at g2
    obtain ⟨z1, e1, _, w1⟩ := DataW.trod_int Try.underlying23 g1
    have h := hat 1 (by omega)
    rw [add_of_add, r_one_at e1] at h
    have h2 : some (Value.int .u64 z1) = some (Value.int .u64 d.hash) := h.symm.trans hcell
    injection h2 with h3
    injection h3 with _ h4
    rw [← h4]
    exact wf64 w1

set_option maxRecDepth 100000 in
theorem rcells_nums {H : Type} {enc : TypeId × Value → H} {W : World} {fuel : Nat} {r : Rc} {A : Option Addr} {n c : Nat} {l : List Dp} {x : DataW H × List MemPlace} (hf : DataW.trod enc Try.prog W 0 (fun _ => true) true fuel 26 (rcells r A n c).toList = some x) (hr : Reads W W.heap.size 3 A n (dps l)) : Nums r l := by
  obtain ⟨y0, y1, y2, y3, y4, y5, y6, n', hl, g0, g1, g2, g3, g4, g5, g6⟩ := trod_struct7 Try.underlying26 hf
  rw [c_int] at g0
  rw [c_str] at g1
  rw [c_u64] at g2
  rw [c_deps] at g3
  rw [c_u64] at g4
  rw [c_u64] at g5
  obtain ⟨z2, e2, _, w2⟩ := DataW.trod_int Try.underlying23 g2
  obtain ⟨z4, e4, _, w4⟩ := DataW.trod_int Try.underlying23 g4
  obtain ⟨z5, e5, _, w5⟩ := DataW.trod_int Try.underlying23 g5
  have f2 : Value.int .u64 r.rule = .int .u64 z2 := Option.some.inj (r_one_at e2)
  have f4 : Value.int .u64 r.out = .int .u64 z4 := Option.some.inj (r_one_at e4)
  have f5 : Value.int .u64 r.time = .int .u64 z5 := Option.some.inj (r_one_at e5)
  injection f2 with _ f2
  injection f4 with _ f4
  injection f5 with _ f5
  refine ⟨by rw [f2]; exact wf64 w2, by rw [f4]; exact wf64 w4, by rw [f5]; exact wf64 w5, deps_nums (A := A) (n := n) (c := c) g3 hr⟩

set_option maxRecDepth 100000 in
theorem open_recsN {H : Type} {enc : TypeId × Value → H} {W : World} {v : Value} {d : DataW H} {ps : List MemPlace} {r0 : Reach} {b0 : Nat} (hval : Value.okWide Try.prog W r0 b0 52 v) (hd : DataW.Trod enc Try.prog W 0 (fun _ => true) true 52 v d ps) :
    ∃ (A : Option Addr) (n c : Nat) (xs : List Rw), v = .slice A n c ∧ n ≤ maxLen ∧ (A = none → c = 0) ∧ (∀ x ∈ xs, Fits x.r x.l ∧ x.n ≤ maxLen ∧ Nums x.r x.l) ∧ Recs W W.heap.size A n xs := by
  obtain ⟨A0, n0, c0, rfl⟩ := okWide_slice Try.underlying52 hval
  obtain ⟨fuel, hf⟩ := hd
  rcases Go.Deep.open_slice Try.underlying52 hf with ⟨hcs, _⟩ | ⟨ad, n, c, m, k, D, Pl, hcs, _, hl, hmx, hm, _, hi⟩
  · have e : Value.slice A0 n0 c0 = .slice none 0 0 := by simpa [Value.cells] using hcs
    exact ⟨none, 0, 0, [], e, by omega, fun _ => rfl, by simp, Recs.nil _ _ _⟩
  · have hnm : n ≤ m := by rw [hm]; simp; exact hl
    have e : Value.slice A0 n0 c0 = .slice (some ad) n c := by simpa [Value.cells] using hcs
    have hall : ∀ i, i < n → ∃ x : Rw, (((Fits x.r x.l ∧ x.n ≤ maxLen ∧ Nums x.r x.l) ∧ (Reads W W.heap.size 3 x.A x.n (dps x.l) ∧ (x.A = none → x.c = 0)))) ∧ ∀ k u, x.cells[k]? = some u → W.cell? (ad.add (i * 7 + k)) = some u := by
      intro i hin
      obtain ⟨cs, hcell, htr⟩ := hi i (by omega)
      rw [c_rec] at hcell
      obtain ⟨_, _, hat⟩ := World.cells?_some hcell
      obtain ⟨r, A, n', c', l, rfl, h2, h3, h4, h5⟩ := open_rcells htr
      refine ⟨⟨r, A, n', c', l⟩, ⟨⟨h4, h2, rcells_nums htr h5⟩, h5, h3⟩, fun k u hu => ?_⟩
      have hk : k < 7 := (List.getElem?_eq_some_iff.1 hu).1
      have h := hat k (by omega)
      rw [add_of_add] at h
      rw [h]
      exact hu
    obtain ⟨xs, h1, h2, h3⟩ := recs_row W ad _ n hall
    refine ⟨some ad, n, c, xs, e, by omega, fun h => (by cases h), fun x hx => (h2 x hx).1, ⟨by rw [rws_len, h1], fun hn => ⟨ad, rfl, ?_, fun j u hu => ?_⟩⟩, fun x hx => (h2 x hx).2⟩
    · obtain ⟨x, _, h4⟩ := hall 0 hn
      have := cell_lt (h4 0 _ rfl)
      rwa [block_of_add] at this
    · obtain ⟨x, g1, g2⟩ := rws_back xs j u hu
      have := h3 _ x g1 _ u g2
      rwa [show j / 7 * 7 + j % 7 = j by omega] at this


end Go.Proofs.Ytfidfhajnobonaa

/- Records laid one behind the other with one table. -/
namespace Go.Proofs.Ytfidfhajnobonaa

/-- The payloads of records, and the table then. -/
def layAll (ver : Int) : List (List UInt8) → List Rw → List (List UInt8)
  | _, [] => []
  | tl, x :: xs => payL ver tl x.r x.l ++ layAll ver (tabT ver tl x.r x.l) xs
def tabAll (ver : Int) (tl : List (List UInt8)) (xs : List Rw) : List (List UInt8) := xs.foldl (fun t x => tabT ver t x.r x.l) tl

theorem tabAll_snoc (ver : Int) (tl : List (List UInt8)) (xs : List Rw) (x : Rw) : tabAll ver tl (xs ++ [x]) = tabT ver (tabAll ver tl xs) x.r x.l := by
  unfold tabAll
  rw [List.foldl_append]
  rfl
theorem layAll_app (ver : Int) : ∀ (tl : List (List UInt8)) (xs ys : List Rw), layAll ver tl (xs ++ ys) = layAll ver tl xs ++ layAll ver (tabAll ver tl xs) ys
  | tl, [], ys => rfl
  | tl, x :: xs, ys => by
    show payL ver tl x.r x.l ++ layAll ver _ (xs ++ ys) = (payL ver tl x.r x.l ++ layAll ver _ xs) ++ _
    rw [layAll_app ver _ xs ys, List.append_assoc]
    rfl
theorem layAll_snoc (ver : Int) (tl : List (List UInt8)) (xs : List Rw) (x : Rw) : layAll ver tl (xs ++ [x]) = layAll ver tl xs ++ payL ver (tabAll ver tl xs) x.r x.l := by
  rw [layAll_app]
  show _ ++ (payL ver _ x.r x.l ++ []) = _
  rw [List.append_nil]
/-- What stands ahead of a record's payloads, and behind them. -/
theorem layAll_at {ver : Int} {tl : List (List UInt8)} {xs : List Rw} {i : Nat} {x : Rw} (h : xs[i]? = some x) : layAll ver tl xs = layAll ver tl (xs.take i) ++ (payL ver (tabAll ver tl (xs.take i)) x.r x.l ++ layAll ver (tabAll ver tl (xs.take (i + 1))) (xs.drop (i + 1))) := by
  obtain ⟨hlt, hx⟩ := List.getElem?_eq_some_iff.1 h
  have h1 : xs = xs.take (i + 1) ++ xs.drop (i + 1) := (List.take_append_drop _ _).symm
  have h2 : xs.take (i + 1) = xs.take i ++ [x] := by rw [List.take_add_one, h]; rfl
  have h3 : layAll ver tl xs = layAll ver tl (xs.take (i + 1)) ++ layAll ver (tabAll ver tl (xs.take (i + 1))) (xs.drop (i + 1)) := by
    rw [← layAll_app, ← h1]
  rw [h3]
  conv => lhs; lhs; rw [h2, layAll_snoc]
  rw [List.append_assoc]
theorem layAll_take {ver : Int} {tl : List (List UInt8)} {xs : List Rw} {i : Nat} {x : Rw} (h : xs[i]? = some x) : (layAll ver tl (xs.take (i + 1))).length = (layAll ver tl (xs.take i)).length + (payL ver (tabAll ver tl (xs.take i)) x.r x.l).length ∧ tabAll ver tl (xs.take (i + 1)) = tabT ver (tabAll ver tl (xs.take i)) x.r x.l := by
  have h2 : xs.take (i + 1) = xs.take i ++ [x] := by rw [List.take_add_one, h]; rfl
  rw [h2, layAll_snoc, tabAll_snoc, List.length_append]
  exact ⟨rfl, rfl⟩
theorem tabAll_len {ver : Int} : ∀ (xs : List Rw) (tl : List (List UInt8)), (∀ x ∈ xs, MayP ver x.r x.l) → (tabAll ver tl xs).length ≤ tl.length + 18 * xs.length
  | [], tl, _ => by unfold tabAll; simp
  | x :: xs, tl, h => by
    have h1 := tabAll_len xs (tabT ver tl x.r x.l) (fun y hy => h y (by simp [hy]))
    have h2 := tabT_len (tl := tl) (h x (by simp))
    show (tabAll ver (tabT ver tl x.r x.l) xs).length ≤ _
    rw [List.length_cons]
    omega
theorem layAll_len {ver : Int} : ∀ (xs : List Rw) (tl : List (List UInt8)), (∀ x ∈ xs, MayP ver x.r x.l) → (layAll ver tl xs).length ≤ 19 * xs.length
  | [], tl, _ => by simp [layAll]
  | x :: xs, tl, h => by
    have h1 := layAll_len xs (tabT ver tl x.r x.l) (fun y hy => h y (by simp [hy]))
    have h2 := payL_len (tl := tl) (h x (by simp))
    show (payL ver tl x.r x.l ++ layAll ver _ xs).length ≤ _
    rw [List.length_append, List.length_cons]
    omega

end Go.Proofs.Ytfidfhajnobonaa

/- Put of a record that may not be; whatever the version. -/
namespace Go.Proofs.Ytfidfhajnobonaa
open Go.RowKit

theorem put_no (bt : Nat) (ver : Int) (r : Rc) (A : Option Addr) (n c : Nat) (l : List Dp) (hm : ¬ MayP ver r l) (hn : n ≤ 1000) (hfit : Fits r l) (w : World) (hr : Reads w w.heap.size 3 A n (dps l)) :
    Calls Try.prog 11 #[.int .i64 ver, .pointer (some ⟨bt, 0, none⟩), .agg #[.int .i64 r.kind, .string (tx r.target), .int .u64 r.rule, .slice A n c, .int .u64 r.out, .int .u64 r.time, .string (tx r.tag)]] w fun e w' => ∃ k : Int, (k = 1 ∨ k = 11) ∧ e = .returned (.tuple #[.slice none 0 0, .int .i64 k]) ∧ Below w.heap.size w w' := by
  by_cases hv : 1 ≤ ver ∧ ver ≤ 3
  · refine (put_arg ver hv bt n c r A w (Lib.hid fun W hb => ?_)).mono fun e w' ⟨h1, h2⟩ => ⟨1, .inl rfl, h1, h2⟩
    refine (may_any ver r A n c l hn hfit W ((hr.below hb).more hb.size)).mono fun e w' ⟨⟨q, h1, h2⟩, h3⟩ => ⟨?_, h3⟩
    cases q with
    | false => exact h2
    | true => exact absurd (h1.1 rfl) hm
  · exact (put_way ver hv (some ⟨bt, 0, none⟩) n c r A w).mono fun e w' ⟨h1, h2⟩ => ⟨11, .inr rfl, h1, h2⟩

end Go.Proofs.Ytfidfhajnobonaa

/- What stands at a round of SchemaRows' first loop. -/
namespace Go.Proofs.Ytfidfhajnobonaa
open Go.RowKit

open Classical in
/-- The records that may be. -/
noncomputable def goods (ver : Int) (xs : List Rw) : List Rw := xs.filter (fun x => decide (MayP ver x.r x.l))
theorem goods_yes {ver : Int} {xs : List Rw} {i : Nat} {x : Rw} (h : xs[i]? = some x) (hm : MayP ver x.r x.l) : goods ver (xs.take (i + 1)) = goods ver (xs.take i) ++ [x] := by
  unfold goods
  rw [List.take_add_one, h, List.filter_append]
  simp [hm]
theorem goods_no {ver : Int} {xs : List Rw} {i : Nat} {x : Rw} (h : xs[i]? = some x) (hm : ¬ MayP ver x.r x.l) : goods ver (xs.take (i + 1)) = goods ver (xs.take i) := by
  unfold goods
  rw [List.take_add_one, h, List.filter_append]
  simp [hm]
theorem goods_mem {ver : Int} {xs : List Rw} {x : Rw} (h : x ∈ goods ver xs) : MayP ver x.r x.l ∧ x ∈ xs := by
  unfold goods at h
  rw [List.mem_filter] at h
  exact ⟨by simpa using h.2, h.1⟩
theorem goods_len (ver : Int) (xs : List Rw) : (goods ver xs).length ≤ xs.length := by
  unfold goods
  exact List.length_filter_le _ _

structure FS (w0 w : World) (S U : Nat → Prop) (bt bu N : Nat) (tl : List (List UInt8)) (va : Value) (ps : List (List UInt8)) (vs : List Value) (vb : Value) (gs : List Rw) : Prop where
  below : Below w0.heap.size w0 w
  ht : Tab w S bt N tl
  hu : Tab w U bu 0 []
  lt : ∀ k, S k ∨ U k → k < w.heap.size ∧ w0.heap.size ≤ k
  dis : ∀ k, S k → ¬ U k
  rows : RowsV w w0.heap.size (fun k => S k ∨ U k) va ps vs
  good : w.ownsRow w0.heap.size 26 7 vb gs.length (rws gs)
  gok : ∀ g, vb.ownBlock = some g → ¬ (S g ∨ U g)

section
variable {w0 w w' : World} {S S' U : Nat → Prop} {bt bu N N' : Nat} {tl tl' : List (List UInt8)} {va : Value} {ps : List (List UInt8)} {vs : List Value} {vb : Value} {gs : List Rw}
theorem FS.new (h : FS w0 w S U bt bu N tl va ps vs vb gs) (hb : Below w.heap.size w w') : FS w0 w' S U bt bu N tl va ps vs vb gs where
  below := h.below.trans (hb.mono h.below.size)
  ht := h.ht.keep fun k _ hk => hb.block k hk
  hu := h.hu.keep fun k _ hk => hb.block k hk
  lt := fun k hk => ⟨Nat.lt_of_lt_of_le (h.lt k hk).1 hb.size, (h.lt k hk).2⟩
  dis := h.dis
  rows := h.rows.below hb
  good := own_below h.good hb
  gok := h.gok
theorem FS.put (h : FS w0 w S U bt bu N tl va ps vs vb gs) (ht' : Tab w' S' bt N' tl') (hs' : ∀ k, S' k → k < w'.heap.size ∧ (S k ∨ w.heap.size ≤ k)) (htu : Turn S w w') : FS w0 w' S' U bt bu N' tl' va ps vs vb gs where
  below := h.below.trans (htu.below (fun k hk => (h.lt k (.inl hk)).2) h.below.size)
  ht := ht'
  hu := h.hu.turn htu fun k h1 _ h2 => h.dis k h2 h1
  lt := fun k hk => by
    rcases hk with hk | hk
    · refine ⟨(hs' k hk).1, ?_⟩
      rcases (hs' k hk).2 with h1 | h1
      · exact (h.lt k (.inl h1)).2
      · have := h.below.size; omega
    · exact ⟨Nat.lt_of_lt_of_le (h.lt k (.inr hk)).1 htu.2.2.2.1, (h.lt k (.inr hk)).2⟩
  dis := fun k h1 h2 => by
    rcases (hs' k h1).2 with h3 | h3
    · exact h.dis k h3 h2
    · have := (h.lt k (.inr h2)).1; omega
  rows := by
    refine (h.rows.set (S2 := fun k => S k ∨ S' k ∨ U k) (fun k hk h1 => ?_)).turn htu (fun k _ h1 => .inl h1) |>.set (fun k _ h1 => .inr h1)
    rcases h1 with h1 | h1 | h1
    · exact .inl h1
    · rcases (hs' k h1).2 with h2 | h2
      · exact .inl h2
      · omega
    · exact .inr h1
  good := own_heap h.good fun g hg => htu.2.2.2.2 g (own_lt h.good g hg) fun h1 => h.gok g hg (.inl h1)
  gok := fun g hg h1 => by
    rcases h1 with h1 | h1
    · rcases (hs' g h1).2 with h2 | h2
      · exact h.gok g hg (.inl h2)
      · have := own_lt h.good g hg; omega
    · exact h.gok g hg (.inr h1)

theorem rowsV_other {base b n : Nat} {v : Value} {ys : List Value} (h : RowsV w base S va ps vs) (ho : w.ownsRow b 26 7 v n ys) (hg : w.grownBy w' v.ownBlock) : RowsV w' base S va ps vs := by
  obtain ⟨h1, h2, h3, h4⟩ := h
  refine ⟨own_kept h1 (own_apart ho h1 (by decide)) hg, h2, h3, fun i p hp => ?_⟩
  obtain ⟨u, h5, h6, h7⟩ := h4 i p hp
  exact ⟨u, h5, own_kept h6 (own_apart ho h6 (by decide)) hg, h7⟩

/-- Payloads appended to others. -/
theorem rowsV_app {base b : Nat} {vq v' : Value} {qs : List (List UInt8)} {us : List Value} (hb : base ≤ b) (h : RowsV w base S va ps vs) (hq : RowsV w b S vq qs us)
    (ho : w'.ownsRow base 44 1 v' (ps.length + qs.length) (vs ++ us)) (hg : w.grownBy w' va.ownBlock) (hv : v'.ownBlock = va.ownBlock ∨ v'.ownBlock = some w.heap.size) (hn : ¬ S w.heap.size) : RowsV w' base S v' (ps ++ qs) (vs ++ us) := by
  obtain ⟨h1, h2, h3, h4⟩ := h
  obtain ⟨k1, k2, k3, k4⟩ := hq
  refine ⟨by rw [List.length_append]; exact ho, fun g hg' => ?_, by simp [h3, k3], fun i p hp => ?_⟩
  · rcases hv with e | e
    · exact h2 g (e ▸ hg')
    · rw [e] at hg'
      obtain rfl : w.heap.size = g := by simpa using hg'
      exact hn
  · rcases Nat.lt_or_ge i ps.length with hlt | hge
    · rw [List.getElem?_append_left hlt] at hp
      obtain ⟨u, h5, h6, h7⟩ := h4 i p hp
      exact ⟨u, by rw [List.getElem?_append_left (by rw [h3]; exact hlt)]; exact h5, own_kept h6 (own_apart h1 h6 (by decide)) hg, h7⟩
    · rw [List.getElem?_append_right hge] at hp
      obtain ⟨u, h5, h6, h7⟩ := k4 _ p hp
      exact ⟨u, by rw [List.getElem?_append_right (by rw [h3]; exact hge), h3]; exact h5, own_less (own_kept h6 (own_apart h1 h6 (by decide)) hg) hb, h7⟩

theorem tab_grown {b M : Nat} {l : List (List UInt8)} {T : Nat → Prop} {row : Option Nat} (h : Tab w T b M l) (hg : w.grownBy w' row) (hn : ∀ g, row = some g → ¬ T g) : Tab w' T b M l :=
  h.keep fun k hk hlt => hg.block k hlt (fun e => hn k e.symm hk)

theorem FS.all {b : Nat} {vq v' : Value} {qs : List (List UInt8)} {us : List Value} (h : FS w0 w S U bt bu N tl va ps vs vb gs) (hb : w0.heap.size ≤ b) (hq : RowsV w b (fun k => S k ∨ U k) vq qs us)
    (ho : w'.ownsRow w0.heap.size 44 1 v' (ps.length + qs.length) (vs ++ us)) (hg : w.grownBy w' va.ownBlock) (hv : v'.ownBlock = va.ownBlock ∨ v'.ownBlock = some w.heap.size) : FS w0 w' S U bt bu N tl v' (ps ++ qs) (vs ++ us) vb gs where
  below := h.below.grown hg h.below.size (own_block h.rows.1)
  ht := tab_grown h.ht hg fun g e h1 => h.rows.2.1 g e (.inl h1)
  hu := tab_grown h.hu hg fun g e h1 => h.rows.2.1 g e (.inr h1)
  lt := fun k hk => ⟨Nat.lt_of_lt_of_le (h.lt k hk).1 hg.size, (h.lt k hk).2⟩
  dis := h.dis
  rows := rowsV_app hb h.rows hq ho hg hv (fun h1 => by have := (h.lt _ h1).1; omega)
  good := own_kept h.good (own_apart h.rows.1 h.good (by decide)) hg
  gok := h.gok
theorem FS.one {v' : Value} {x : Rw} (h : FS w0 w S U bt bu N tl va ps vs vb gs)
    (ho : w'.ownsRow w0.heap.size 26 7 v' (gs.length + 1) (rws gs ++ rws [x])) (hg : w.grownBy w' vb.ownBlock) (hv : v'.ownBlock = vb.ownBlock ∨ v'.ownBlock = some w.heap.size) : FS w0 w' S U bt bu N tl va ps vs v' (gs ++ [x]) where
  below := h.below.grown hg h.below.size (own_block h.good)
  ht := tab_grown h.ht hg fun g e h1 => h.gok g e (.inl h1)
  hu := tab_grown h.hu hg fun g e h1 => h.gok g e (.inr h1)
  lt := fun k hk => ⟨Nat.lt_of_lt_of_le (h.lt k hk).1 hg.size, (h.lt k hk).2⟩
  dis := h.dis
  rows := rowsV_other h.rows h.good hg
  good := by rw [rws_app, List.length_append]; exact ho
  gok := fun g hg' h1 => by
    rcases hv with e | e
    · exact h.gok g (e ▸ hg') h1
    · rw [e] at hg'
      obtain rfl : w.heap.size = g := by simpa using hg'
      have := (h.lt _ h1).1; omega
end

/-- What Put has answered. -/
theorem FS.plus {w0 w w' : World} {S S' U : Nat → Prop} {bt bu N : Nat} {tl : List (List UInt8)} {va vp : Value} {ps qs : List (List UInt8)} {vs us : List Value} {vb : Value} {gs : List Rw} (h : FS w0 w S U bt bu N tl va ps vs vb gs) (hq : RowsV w' w.heap.size S' vp qs us) : RowsV w' w.heap.size (fun k => S' k ∨ U k) vp qs us := by
  obtain ⟨h1, h2, h3, h4⟩ := hq
  refine ⟨h1, fun g hg h5 => ?_, h3, fun i p hp => ?_⟩
  · rcases h5 with h5 | h5
    · exact h2 g hg h5
    · have h6 := (h.lt g (.inr h5)).1
      have h7 := own_block h1 g hg
      omega
  · obtain ⟨u, h5, h6, h7⟩ := h4 i p hp
    refine ⟨u, h5, h6, fun g hg h8 => ?_⟩
    rcases h8 with h8 | h8
    · exact h7 g hg h8
    · have h9 := (h.lt g (.inr h8)).1
      have h10 := own_block h6 g hg
      omega

def FRel (w0 : World) (ver : Int) (xs : List Rw) (bt bu : Nat) (U : Nat → Prop) (va vb idx : Value) (wr : World) : Prop :=
  ∃ (i : Nat) (S : Nat → Prop) (vs : List Value) (va' vb' : Value), va' = va ∧ vb' = vb ∧ i ≤ xs.length ∧ idx = .int .i64 (i : Int) ∧
    FS w0 wr S U bt bu (18 * i) (tabAll ver [] (goods ver (xs.take i))) va' (layAll ver [] (goods ver (xs.take i))) vs vb' (goods ver (xs.take i))

theorem FS.next {w0 w : World} {S U : Nat → Prop} {bt bu : Nat} {ver : Int} {xs : List Rw} {x : Rw} {i : Nat} {va : Value} {vs : List Value} {vb : Value} (hg : goods ver (xs.take (i + 1)) = goods ver (xs.take i) ++ [x])
    (h : FS w0 w S U bt bu (18 * i + 18) (tabT ver (tabAll ver [] (goods ver (xs.take i))) x.r x.l) va (layAll ver [] (goods ver (xs.take i)) ++ payL ver (tabAll ver [] (goods ver (xs.take i))) x.r x.l) vs vb (goods ver (xs.take i) ++ [x])) :
    FS w0 w S U bt bu (18 * (i + 1)) (tabAll ver [] (goods ver (xs.take (i + 1)))) va (layAll ver [] (goods ver (xs.take (i + 1)))) vs vb (goods ver (xs.take (i + 1))) := by
  rw [hg, tabAll_snoc, layAll_snoc]
  exact h

theorem rowsV_one {w : World} {base : Nat} {S : Nat → Prop} {va : Value} {ps : List (List UInt8)} {vs : List Value} (h : RowsV w base S va ps vs) : ∀ u ∈ vs, u.oneCell' = true := by
  intro u hu
  obtain ⟨_, _, h3, h4⟩ := h
  obtain ⟨i, hlt, hi⟩ := List.mem_iff_getElem.1 hu
  obtain ⟨v, h5, h6, _⟩ := h4 i ps[i] (List.getElem?_eq_getElem (by omega))
  rw [List.getElem?_eq_getElem hlt, hi] at h5
  obtain rfl := Option.some.inj h5
  obtain ⟨A, c, rfl, _⟩ := own_slice h6
  rfl

theorem reads_rec_at {W : World} {g : Nat} {x : Rw} (h : W.heap[g]? = some (.cells #[.int .i64 x.r.kind, .string (tx x.r.target), .int .u64 x.r.rule, .slice x.A x.n x.c, .int .u64 x.r.out, .int .u64 x.r.time, .string (tx x.r.tag)] 26 (0, 0))) : Reads W (g + 1) 7 (some ⟨g, 0, none⟩) 1 (rws [x]) := by
  refine ⟨rws_len [x], fun _ => ⟨_, rfl, by show g < g + 1; omega, fun j u hu => ?_⟩⟩
  rw [show (⟨g, 0, none⟩ : Addr).add j = ⟨g, j, none⟩ from by unfold Addr.add; split <;> simp_all]
  have hu2 : x.cells[j]? = some u := by simpa [rws] using hu
  have hlt := (List.getElem?_eq_some_iff.1 hu2).1
  rw [cells_len] at hlt
  refine at_cell h ?_
  match j, hlt with
  | 0, _ => exact hu2
  | 1, _ => exact hu2
  | 2, _ => exact hu2
  | 3, _ => exact hu2
  | 4, _ => exact hu2
  | 5, _ => exact hu2
  | 6, _ => exact hu2

end Go.Proofs.Ytfidfhajnobonaa

/- What stands at a round of SchemaRows' second loop. -/
namespace Go.Proofs.Ytfidfhajnobonaa
open Go.RowKit

structure SS (w0 w : World) (S U : Nat → Prop) (bt bu N M : Nat) (tl ul : List (List UInt8)) (A : Option Addr) (na ca : Nat) (ps : List (List UInt8)) (vb : Value) (gs : List Rw) (B : Nat) : Prop where
  below : Below w0.heap.size w0 w
  ht : Tab w S bt N tl
  hu : Tab w U bu M ul
  lt : ∀ k, S k ∨ U k → k < w.heap.size ∧ w0.heap.size ≤ k
  dis : ∀ k, S k → ¬ U k
  all : PlsT w B U A na ca ps
  hB : B ≤ w.heap.size
  good : w.ownsRow w0.heap.size 26 7 vb gs.length (rws gs)
  gok : ∀ g, vb.ownBlock = some g → ¬ U g

section
variable {w0 w w' : World} {S U U' : Nat → Prop} {bt bu N M M' : Nat} {tl ul ul' : List (List UInt8)} {A : Option Addr} {na ca B : Nat} {ps : List (List UInt8)} {vb : Value} {gs : List Rw}
theorem SS.new (h : SS w0 w S U bt bu N M tl ul A na ca ps vb gs B) (hb : Below w.heap.size w w') : SS w0 w' S U bt bu N M tl ul A na ca ps vb gs B where
  below := h.below.trans (hb.mono h.below.size)
  ht := h.ht.keep fun k _ hk => hb.block k hk
  hu := h.hu.keep fun k _ hk => hb.block k hk
  lt := fun k hk => ⟨Nat.lt_of_lt_of_le (h.lt k hk).1 hb.size, (h.lt k hk).2⟩
  dis := h.dis
  all := h.all.turn (Turn.of_below hb) h.hB
  hB := Nat.le_trans h.hB hb.size
  good := own_below h.good hb
  gok := h.gok
theorem SS.get (h : SS w0 w S U bt bu N M tl ul A na ca ps vb gs B) (hu' : Tab w' U' bu M' ul') (hs' : ∀ k, U' k → k < w'.heap.size ∧ (U k ∨ w.heap.size ≤ k)) (htu : Turn U w w') : SS w0 w' S U' bt bu N M' tl ul' A na ca ps vb gs B where
  below := h.below.trans (htu.below (fun k hk => (h.lt k (.inr hk)).2) h.below.size)
  ht := h.ht.turn htu fun k h1 _ h2 => h.dis k h1 h2
  hu := hu'
  lt := fun k hk => by
    rcases hk with hk | hk
    · exact ⟨Nat.lt_of_lt_of_le (h.lt k (.inl hk)).1 htu.2.2.2.1, (h.lt k (.inl hk)).2⟩
    · refine ⟨(hs' k hk).1, ?_⟩
      rcases (hs' k hk).2 with h1 | h1
      · exact (h.lt k (.inr h1)).2
      · have := h.below.size; omega
  dis := fun k h1 h2 => by
    rcases (hs' k h2).2 with h3 | h3
    · exact h.dis k h1 h3
    · have := (h.lt k (.inl h1)).1; omega
  all := (h.all.turn htu h.hB).wide fun k hk h1 => by
    rcases (hs' k h1).2 with h3 | h3
    · exact h3
    · have := h.hB; omega
  hB := Nat.le_trans h.hB htu.2.2.2.1
  good := own_heap h.good fun g hg => htu.2.2.2.2 g (own_lt h.good g hg) fun h1 => h.gok g hg h1
  gok := fun g hg h1 => by
    rcases (hs' g h1).2 with h3 | h3
    · exact h.gok g hg h3
    · have := own_lt h.good g hg; omega
end

theorem own_room {w : World} {base n c size : Nat} {e : TypeId} {A : Option Addr} {xs : List Value} (h : w.ownsRow base e size (.slice A n c) n xs) : n ≤ c := by
  rcases h.2 with ⟨h5, h6⟩ | ⟨g, cap, cur, h5, _, _, h6, _⟩
  · injection h5 with _ h7 h8; omega
  · injection h5 with _ h7 h8; omega

theorem PlsT.of_rows {w : World} {base : Nat} {S U : Nat → Prop} {A : Option Addr} {c : Nat} {ps : List (List UInt8)} {vs : List Value} (h : RowsV w base (fun k => S k ∨ U k) (.slice A ps.length c) ps vs) : PlsT w w.heap.size U A ps.length c ps := by
  obtain ⟨h1, h2, h3, h4⟩ := h
  refine ⟨own_room h1, rfl, vs, Reads.of_own h1, fun ad e _ h5 => ?_, fun i p hp => ?_⟩
  · subst e
    exact h2 ad.block rfl (.inr h5)
  · obtain ⟨v, h5, h6, h7⟩ := h4 i p hp
    obtain ⟨A', c', rfl, _⟩ := own_slice h6
    refine ⟨A', c', h5, own_room h6, Reads.of_own h6, fun ad e _ h8 => ?_⟩
    subst e
    exact h7 ad.block rfl (.inr h8)

theorem FS.ss {w0 w : World} {S U : Nat → Prop} {bt bu N : Nat} {tl : List (List UInt8)} {A : Option Addr} {c : Nat} {ps : List (List UInt8)} {vs : List Value} {vb : Value} {gs : List Rw} (h : FS w0 w S U bt bu N tl (.slice A ps.length c) ps vs vb gs) : SS w0 w S U bt bu N 0 tl [] A ps.length c ps vb gs w.heap.size where
  below := h.below
  ht := h.ht
  hu := h.hu
  lt := h.lt
  dis := h.dis
  all := PlsT.of_rows h.rows
  hB := Nat.le_refl _
  good := h.good
  gok := fun g hg h1 => h.gok g hg (.inr h1)

theorem payL_pos (ver : Int) (tl : List (List UInt8)) (r : Rc) (l : List Dp) : 1 ≤ (payL ver tl r l).length := by unfold payL; simp

def SRel (w0 : World) (ver : Int) (S : Nat → Prop) (bt bu N : Nat) (tl : List (List UInt8)) (A : Option Addr) (na ca : Nat) (ps : List (List UInt8)) (vb : Value) (gs : List Rw) (B : Nat) (v13 idx : Value) (wr : World) : Prop :=
  ∃ (i : Nat) (U : Nat → Prop) (M : Nat), i ≤ gs.length ∧ idx = .int .i64 (i : Int) ∧ v13 = .int .i64 ((layAll ver [] (gs.take i)).length : Int) ∧ M ≤ 36 * i ∧ SS w0 wr S U bt bu N M tl (tabAll ver [] (gs.take i)) A na ca ps vb gs B

end Go.Proofs.Ytfidfhajnobonaa

/- SchemaRows' walk. -/
namespace Go.Proofs.Ytfidfhajnobonaa
open Go.RowKit

set_option maxRecDepth 100000 in
set_option maxHeartbeats 4000000 in
theorem srows_any (ver : Int) (A : Option Addr) (n c : Nat) (xs : List Rw) (hf : ∀ x ∈ xs, Fits x.r x.l ∧ x.n ≤ maxLen ∧ Nums x.r x.l) (w : World) (h : Recs w w.heap.size A n xs) :
    Calls Try.prog 5 #[.int .i64 ver, .slice A n c] w fun e w' => e = .returned (.bool true) ∧ Below w.heap.size w w' := by
  obtain ⟨i1, ji0, jz0, jz1, jz2⟩ := info_parts (show (Try.prog.info? 44).map (fun i => (i.zero, i.size, i.bytes)) = some (some (.slice none 0 0), 1, 24) from by kernel_rfl)
  obtain ⟨i2, gi0, gz0, gz1, gz2⟩ := info_parts (show (Try.prog.info? 26).map (fun i => (i.zero, i.size, i.bytes)) = some (some (.agg #[.int .i64 0, .string { data := #[] }, .int .u64 0, .slice none 0 0, .int .u64 0, .int .u64 0, .string { data := #[] }]), 7, 88) from by kernel_rfl)
  have HL : Hid (xs.length = n) := h.len
  have H1 := Lib.hid h
  have HF := Lib.hid hf
  have HN1 := Lib.hid (fun W : World => New_any none 0 0 0 [] (by omega) (by simp) W (Nat.zero_le _) Reads.none_)
  clear h hf
  by_cases h20 : 20 < n
  · go_enter Try.func5, Try.ntmps5
    go_wp2_with fail
    refine (HN1.out _).mono ?_
    rintro e w1 ⟨rfl, ht1, hb1⟩
    go_wp2_with fail
    refine (HN1.out _).mono ?_
    rintro e w2 ⟨rfl, ht2, hb2⟩
    clear ht1 ht2
    go_wp2_with fail
    refine (sfixed_any _).mono ?_
    rintro e w3 ⟨rfl, hb3⟩
    have HB := Lib.hid ((hb1.trans (hb2.mono hb1.size)).trans (hb3.mono (Nat.le_trans hb1.size hb2.size)))
    clear hb1 hb2 hb3
    go_wp2
    go_ret
    exact ⟨rfl, HB.out⟩
  · have d20 : decide ((20 : Int) < (n : Int)) = false := decide_eq_false (by omega)
    go_enter Try.func5, Try.ntmps5
    go_wp2_with fail
    refine (HN1.out _).mono ?_
    rintro e w1 ⟨rfl, ht1, hb1⟩
    go_wp2_with fail
    refine (HN1.out _).mono ?_
    rintro e w2 ⟨rfl, ht2, hb2⟩
    have HT1 := Lib.hid ht1
    have HT2 := Lib.hid ht2
    have HB1 := Lib.hid hb1
    have HB2 := Lib.hid hb2
    obtain ⟨bt, hbt⟩ : ∃ bt, bt = w.heap.size := ⟨_, rfl⟩
    obtain ⟨bu, hbu⟩ : ∃ bu, bu = w1.heap.size := ⟨_, rfl⟩
    obtain ⟨U, hU⟩ : ∃ U : Nat → Prop, U = fun k => w1.heap.size ≤ k ∧ k < w2.heap.size := ⟨_, rfl⟩
    have H0 : Hid (FRel w ver xs bt bu U (.slice none 0 0) (.slice none 0 0) (.int .i64 0) w2) := by
      refine ⟨0, fun k => w.heap.size ≤ k ∧ k < w1.heap.size, [], _, _, rfl, rfl, by omega, rfl, ?_⟩
      have hg0 : goods ver (xs.take 0) = [] := by unfold goods; rfl
      rw [hg0]
      exact {
        below := hb1.trans (hb2.mono hb1.size)
        ht := by rw [hbt]; exact (ht1.wide (fun k h1 h2 => ⟨h1, h2⟩)).keep (fun k hk _ => hb2.block k hk.2)
        hu := by rw [hU, hbu]; exact ht2.wide (fun k h1 h2 => ⟨h1, h2⟩)
        lt := fun k hk => by have h1 := hb1.size; have h2 := hb2.size; rcases hk with hk | hk <;> (try rw [hU] at hk) <;> omega
        dis := fun k hk h2 => by rw [hU] at h2; omega
        rows := rows_nil _ _ _
        good := World.ownsRow_nil _ _ _ _
        gok := fun g hg => by simp [Value.ownBlock] at hg }
    rw [← hbt, ← hbu]
    clear ht1 ht2 hb1 hb2 hbt hbu hU HT1 HT2 HB1 HB2
    go_wp2
    go_loopw [7, 8, 38] (fun va vb idx wr => FRel w ver xs bt bu U va vb idx wr) (fun _ _ idx _ => n - (intOf idx).toNat)
    case atStart => exact H0.out
    case round =>
      obtain ⟨i, S, vs, va, vb, rfl, rfl, hi, rfl, hfs⟩ := hrel
      clear H0
      rw [HL.out] at hi
      have HFS := Lib.hid hfs
      have HVB := Lib.hid (own_lt hfs.good)
      clear hfs
      by_cases hlt : i < n
      · obtain ⟨x, hx⟩ : ∃ x, xs[i]? = some x := ⟨_, List.getElem?_eq_getElem (by rw [HL.out]; exact hlt)⟩
        have hm := List.mem_of_getElem? hx
        obtain ⟨hfx, hnx, hnux⟩ := HF.out x hm
        have hrx := (H1.out.2 x hm).1
        obtain ⟨ad, rfl, hadb, k0, k1, k2, k3, k4, k5, k6⟩ := recs_cells (H1.out.below HFS.out.below).1 i x hx
        have HGY : Hid (MayP ver x.r x.l → goods ver (xs.take (i + 1)) = goods ver (xs.take i) ++ [x]) := fun h => goods_yes hx h
        have HGN : Hid (¬ MayP ver x.r x.l → goods ver (xs.take (i + 1)) = goods ver (xs.take i)) := fun h => goods_no hx h
        obtain ⟨⟨k, t, u, o, m, g⟩, A4, n4, c4, l4⟩ := x
        simp only at k0 k1 k2 k3 k4 k5 k6 hfx hnx hrx hnux HGY HGN
        have HRX := Lib.hid hrx
        have HFX := Lib.hid hfx
        have HNX := Lib.hid hnx
        have HNU := Lib.hid hnux
        have hi0 : (0 : Int) ≤ (i : Int) := by omega
        have hi1 : (i : Int) < (n : Int) := by omega
        have HFS2 := Lib.hid (HFS.out.new ((Below.refl wr.heap.size wr).alloc (Nat.le_refl _) (.cells #[.int .i64 k, .string (tx t), .int .u64 u, .slice A4 n4 c4, .int .u64 o, .int .u64 m, .string (tx g)] 26)))
        have hbox := one_new wr (.cells #[.int .i64 k, .string (tx t), .int .u64 u, .slice A4 n4 c4, .int .u64 o, .int .u64 m, .string (tx g)] 26)
        have q0 := at_cell (i := 0) hbox rfl
        have q1 := at_cell (i := 1) hbox rfl
        have q2 := at_cell (i := 2) hbox rfl
        have q3 := at_cell (i := 3) hbox rfl
        have q4 := at_cell (i := 4) hbox rfl
        have q5 := at_cell (i := 5) hbox rfl
        have q6 := at_cell (i := 6) hbox rfl
        have HBOX := Lib.hid hbox
        clear hx hm hfx hnx hrx hnux hadb hbox
        by_cases hs : small ⟨k, t, u, o, m, g⟩ l4
        · have HS := Lib.hid hs
          clear hs
          go_wp2_with fail
          refine (great_says ⟨k, t, u, o, m, g⟩ A4 n4 c4 l4 _ HNX.out HFX.out.2.2 HFX.out.1 HFX.out.2.1 ((HRX.out.below HFS2.out.below).more HFS2.out.below.size)).mono ?_
          rintro e w3 ⟨he, hb3⟩
          obtain rfl := he.no (fun h => h HS.out)
          have HFS3 := Lib.hid (HFS2.out.new hb3)
          have hbx3 := (hb3.block wr.heap.size (by simp)).trans HBOX.out
          have y0 := at_cell (i := 0) hbx3 rfl
          have y1 := at_cell (i := 1) hbx3 rfl
          have y2 := at_cell (i := 2) hbx3 rfl
          have y3 := at_cell (i := 3) hbx3 rfl
          have y4 := at_cell (i := 4) hbx3 rfl
          have y5 := at_cell (i := 5) hbx3 rfl
          have y6 := at_cell (i := 6) hbx3 rfl
          have HBX3 := Lib.hid hbx3
          clear he hb3 hbx3
          go_wp2_with fail
          by_cases hmay : MayP ver ⟨k, t, u, o, m, g⟩ l4
          · have HYES := Lib.hid (HGY.out hmay)
            have hbd : Hid ((layAll ver [] (goods ver (xs.take i))).length + (payL ver (tabAll ver [] (goods ver (xs.take i))) ⟨k, t, u, o, m, g⟩ l4).length ≤ 1000 ∧ (goods ver (xs.take i)).length ≤ 20 ∧ (tabAll ver [] (goods ver (xs.take i))).length ≤ 1000) := by
              have g0 := goods_len ver (xs.take i)
              rw [List.length_take] at g0
              have g1 := layAll_len (ver := ver) (goods ver (xs.take i)) [] (fun y hy => (goods_mem hy).1)
              have g2 := payL_len (tl := tabAll ver [] (goods ver (xs.take i))) hmay
              have g3 := tabAll_len (ver := ver) (goods ver (xs.take i)) [] (fun y hy => (goods_mem hy).1)
              show _ ∧ _ ∧ _
              simp only [List.length_nil] at g3
              omega
            refine (put_ok S bt (18 * i) n4 c4 ver (tabAll ver [] (goods ver (xs.take i))) ⟨k, t, u, o, m, g⟩ A4 l4 hmay HFX.out HNU.out (by have := hbd.out; omega) (by omega) w3 HFS3.out.ht (fun ad2 e hn0 h2 => by
                obtain ⟨ad', e', h3, _⟩ := HRX.out.2 hn0
                obtain rfl : ad2 = ad' := Option.some.inj (e.symm.trans e')
                have := (HFS3.out.lt _ (.inl h2)).2
                omega) ((HRX.out.below HFS3.out.below).more HFS3.out.below.size)).mono ?_
            rintro e w4 ⟨vp, S6, rfl, ht4, hs4, ⟨us, hq4⟩, htu4⟩
            have HFS4 := Lib.hid (HFS3.out.put ht4 hs4 htu4)
            have hqU := HFS3.out.plus hq4
            have hbx4 := (htu4.2.2.2.2 wr.heap.size (Array.getElem?_eq_some_iff.1 HBX3.out).1 (fun h2 => by have := (HFS.out.lt _ (.inl h2)).1; omega)).trans HBX3.out
            obtain ⟨Ap, cp, rfl, hAp⟩ := own_slice hqU.1
            have HQ := Lib.hid hqU
            have HBX4 := Lib.hid hbx4
            have h34 : Hid (w3.heap.size ≤ w4.heap.size) := htu4.2.2.2.1
            clear ht4 hs4 hq4 htu4 hqU hbx4 hmay HGY HGN
            go_wp2_with fail
            have HD4 : Hid (FS w w4.drew S6 U bt bu (18 * i + 18) (tabT ver (tabAll ver [] (goods ver (xs.take i))) ⟨k, t, u, o, m, g⟩ l4) va (layAll ver [] (goods ver (xs.take i))) vs vb (goods ver (xs.take i))) := HFS4.out.new (Below.refl _ _).drew
            have HQ4 : Hid (RowsV w4.drew w3.heap.size (fun k => S6 k ∨ U k) (.slice Ap (payL ver (tabAll ver [] (goods ver (xs.take i))) ⟨k, t, u, o, m, g⟩ l4).length cp) (payL ver (tabAll ver [] (goods ver (xs.take i))) ⟨k, t, u, o, m, g⟩ l4) us) := HQ.out
            refine wp_region_held (S := (fun W : World => W.heap[wr.heap.size]? = some (.cells #[.int .i64 k, .string (tx t), .int .u64 u, .slice A4 n4 c4, .int .u64 o, .int .u64 m, .string (tx g)] 26 (0, 0)))) (by kernel_rfl) ?_
            refine h_take 0 (va) rfl (by kernel_rfl) (by kernel_rfl) (by kernel_rfl) (fun _ _ _ h => h) (by kernel_rfl) HBX4.out (fun _ _ => by kernel_rfl) ?_
            refine h_take 1 (.slice Ap (payL ver (tabAll ver [] (goods ver (xs.take i))) ⟨k, t, u, o, m, g⟩ l4).length cp) rfl (by kernel_rfl) (by kernel_rfl) (by kernel_rfl) (fun _ _ _ h => h) (by kernel_rfl) HBX4.out (fun _ _ => by kernel_rfl) ?_
            refine h_take 3 (vb) rfl (by kernel_rfl) (by kernel_rfl) (by kernel_rfl) (fun _ _ _ h => h) (by kernel_rfl) HBX4.out (fun _ _ => by kernel_rfl) ?_
            refine h_take 4 (.agg #[.int .i64 k, .string (tx t), .int .u64 u, .slice A4 n4 c4, .int .u64 o, .int .u64 m, .string (tx g)]) rfl (by kernel_rfl) (by kernel_rfl) (by kernel_rfl) (fun _ _ _ h => h) (by kernel_rfl) HBX4.out (by intro W hW; have z0 := at_cell (i := 0) hW rfl; have z1 := at_cell (i := 1) hW rfl; have z2 := at_cell (i := 2) hW rfl; have z3 := at_cell (i := 3) hW rfl; have z4 := at_cell (i := 4) hW rfl; have z5 := at_cell (i := 5) hW rfl; have z6 := at_cell (i := 6) hW rfl; go_simp) ?_
            refine h_either 2 5 rfl rfl (by kernel_rfl) (by kernel_rfl) (by kernel_rfl) (fun K hK => ?_) (fun K hK => ?_)
            · refine wp_append_many (.tmp 54) (.tmp 55) 32 rfl w.heap.size 44 i1 _ 1 24 Try.underlying32 ji0 jz0 jz1 jz2 rfl (by decide) _ _ _ rfl HD4.out.rows.1 Ap _ cp _ us rfl hAp (Reads.of_own HQ4.out.1) (rowsV_one HQ4.out) (by unfold maxLen; have := hbd.out; omega) (by have := hbd.out; omega) HD4.out.below.size ?_
              rintro va2 wa ho hg hv
              have HGA := Lib.hid hg
              have HD4A := Lib.hid (HD4.out.all (by have := HFS3.out.below.size; omega) HQ4.out ho hg hv)
              clear ho hg hv
              have hba : wa.heap[wr.heap.size]? = _ := (HGA.out.block wr.heap.size (Array.getElem?_eq_some_iff.1 HBX4.out).1 (fun e => own_cells HD4.out.rows.1 HBX4.out (by decide) e.symm)).trans HBX4.out
              have HBA := Lib.hid hba
              clear hba
              refine hK _ _ HBA.out ?_
              clear hK K
              refine h_one 5 rfl (by kernel_rfl) (by kernel_rfl) (fun K hK => ?_)
              go_simp
              have hbb := (Below.heap_alloc wa (.cells #[.int .i64 k, .string (tx t), .int .u64 u, .slice A4 n4 c4, .int .u64 o, .int .u64 m, .string (tx g)] 26) wr.heap.size (Array.getElem?_eq_some_iff.1 HBA.out).1).trans HBA.out
              have HBB := Lib.hid hbb
              clear hbb
              refine hK _ _ HBB.out ?_
              clear hK K
              have HDB := Lib.hid (HD4A.out.new ((Below.refl wa.heap.size wa).alloc (Nat.le_refl _) (.cells #[.int .i64 k, .string (tx t), .int .u64 u, .slice A4 n4 c4, .int .u64 o, .int .u64 m, .string (tx g)] 26)))
              have HRD := Lib.hid (reads_rec_at (x := ⟨⟨k, t, u, o, m, g⟩, A4, n4, c4, l4⟩) (one_new wa (.cells #[.int .i64 k, .string (tx t), .int .u64 u, .slice A4 n4 c4, .int .u64 o, .int .u64 m, .string (tx g)] 26)))
              refine h_one 6 rfl (by kernel_rfl) (by kernel_rfl) (fun K hK => ?_)
              refine wp_append_many (.tmp 57) (.tmp 59) 52 rfl w.heap.size 26 i2 _ 7 88 Try.underlying52 gi0 gz0 gz1 gz2 rfl (by decide) _ _ _ rfl HDB.out.good _ 1 1 _ _ rfl (by simp) HRD.out (rws_one _) (by unfold maxLen; have := hbd.out; omega) (by have := hbd.out; omega) HDB.out.below.size ?_
              rintro vb2 wc ho hg hv
              have HGC := Lib.hid hg
              have HDBC := Lib.hid (HDB.out.one (x := ⟨⟨k, t, u, o, m, g⟩, A4, n4, c4, l4⟩) ho hg hv)
              clear ho hg hv
              have hbc : wc.heap[wr.heap.size]? = _ := (HGC.out.block wr.heap.size (Array.getElem?_eq_some_iff.1 HBB.out).1 (fun e => by have h1 := HVB.out _ e.symm; omega)).trans HBB.out
              refine hK _ _ hbc ?_
              clear hK K
              refine h_take 7 (va2) rfl (by kernel_rfl) (by kernel_rfl) (by kernel_rfl) (fun _ _ _ h => h) (by kernel_rfl) hbc (fun _ _ => by kernel_rfl) ?_
              refine h_take 8 (vb2) rfl (by kernel_rfl) (by kernel_rfl) (by kernel_rfl) (fun _ _ _ h => h) (by kernel_rfl) hbc (fun _ _ => by kernel_rfl) ?_
              refine wpAnyH_done (by kernel_rfl) ?_ _
              go_simp
              go_wp2
              exact ⟨⟨i + 1, S6, vs ++ us, _, _, rfl, rfl, by rw [HL.out]; omega, by go_num, FS.next HYES.out HDBC.out⟩, by simp [intOf]; omega⟩
            · go_simp
              have hbb := (Below.heap_alloc w4 (.cells #[.int .i64 k, .string (tx t), .int .u64 u, .slice A4 n4 c4, .int .u64 o, .int .u64 m, .string (tx g)] 26) wr.heap.size (Array.getElem?_eq_some_iff.1 HBX4.out).1).trans HBX4.out
              have HBB : Hid (((w4.alloc (.cells #[.int .i64 k, .string (tx t), .int .u64 u, .slice A4 n4 c4, .int .u64 o, .int .u64 m, .string (tx g)] 26)).drew).heap[wr.heap.size]? = _) := hbb
              clear hbb
              refine hK _ _ HBB.out ?_
              clear hK K
              have hab := ((Below.refl w4.heap.size w4).alloc (Nat.le_refl _) (.cells #[.int .i64 k, .string (tx t), .int .u64 u, .slice A4 n4 c4, .int .u64 o, .int .u64 m, .string (tx g)] 26)).drew
              have HDB := Lib.hid (HFS4.out.new hab)
              have HQB := Lib.hid (HQ.out.below hab)
              have HNEW : Hid (((w4.alloc (.cells #[.int .i64 k, .string (tx t), .int .u64 u, .slice A4 n4 c4, .int .u64 o, .int .u64 m, .string (tx g)] 26)).drew).heap[w4.heap.size]? = some (.cells #[.int .i64 k, .string (tx t), .int .u64 u, .slice A4 n4 c4, .int .u64 o, .int .u64 m, .string (tx g)] 26 (0, 0))) := one_new w4 (.cells #[.int .i64 k, .string (tx t), .int .u64 u, .slice A4 n4 c4, .int .u64 o, .int .u64 m, .string (tx g)] 26)
              clear hab
              refine h_one 2 rfl (by kernel_rfl) (by kernel_rfl) (fun K hK => ?_)
              refine wp_append_many (.tmp 54) (.tmp 55) 32 rfl w.heap.size 44 i1 _ 1 24 Try.underlying32 ji0 jz0 jz1 jz2 rfl (by decide) _ _ _ rfl HDB.out.rows.1 Ap _ cp _ us rfl hAp (Reads.of_own HQB.out.1) (rowsV_one HQB.out) (by unfold maxLen; have := hbd.out; omega) (by have := hbd.out; omega) HDB.out.below.size ?_
              rintro va2 wa ho hg hv
              have HGA := Lib.hid hg
              have HDBA := Lib.hid (HDB.out.all (by have := HFS3.out.below.size; omega) HQB.out ho hg hv)
              clear ho hg hv
              have hba : wa.heap[wr.heap.size]? = _ := (HGA.out.block wr.heap.size (Array.getElem?_eq_some_iff.1 HBB.out).1 (fun e => own_cells HDB.out.rows.1 HBB.out (by decide) e.symm)).trans HBB.out
              have hna : wa.heap[w4.heap.size]? = _ := (HGA.out.block w4.heap.size (Array.getElem?_eq_some_iff.1 HNEW.out).1 (fun e => own_cells HDB.out.rows.1 HNEW.out (by decide) e.symm)).trans HNEW.out
              have HBA := Lib.hid hba
              have HRD := Lib.hid (reads_rec_at (x := ⟨⟨k, t, u, o, m, g⟩, A4, n4, c4, l4⟩) hna)
              clear hba hna
              refine hK _ _ HBA.out ?_
              clear hK K
              refine h_one 6 rfl (by kernel_rfl) (by kernel_rfl) (fun K hK => ?_)
              refine wp_append_many (.tmp 57) (.tmp 59) 52 rfl w.heap.size 26 i2 _ 7 88 Try.underlying52 gi0 gz0 gz1 gz2 rfl (by decide) _ _ _ rfl HDBA.out.good _ 1 1 _ _ rfl (by simp) HRD.out (rws_one _) (by unfold maxLen; have := hbd.out; omega) (by have := hbd.out; omega) HDBA.out.below.size ?_
              rintro vb2 wc ho hg hv
              have HGC := Lib.hid hg
              have HDBAC := Lib.hid (HDBA.out.one (x := ⟨⟨k, t, u, o, m, g⟩, A4, n4, c4, l4⟩) ho hg hv)
              clear ho hg hv
              have hbc : wc.heap[wr.heap.size]? = _ := (HGC.out.block wr.heap.size (Array.getElem?_eq_some_iff.1 HBA.out).1 (fun e => by have h1 := HVB.out _ e.symm; omega)).trans HBA.out
              refine hK _ _ hbc ?_
              clear hK K
              refine h_take 7 (va2) rfl (by kernel_rfl) (by kernel_rfl) (by kernel_rfl) (fun _ _ _ h => h) (by kernel_rfl) hbc (fun _ _ => by kernel_rfl) ?_
              refine h_take 8 (vb2) rfl (by kernel_rfl) (by kernel_rfl) (by kernel_rfl) (fun _ _ _ h => h) (by kernel_rfl) hbc (fun _ _ => by kernel_rfl) ?_
              refine wpAnyH_done (by kernel_rfl) ?_ _
              go_simp
              go_wp2
              exact ⟨⟨i + 1, S6, vs ++ us, _, _, rfl, rfl, by rw [HL.out]; omega, by go_num, FS.next HYES.out HDBAC.out⟩, by simp [intOf]; omega⟩
          · have HNO := Lib.hid (HGN.out hmay)
            refine (put_no bt ver ⟨k, t, u, o, m, g⟩ A4 n4 c4 l4 hmay (by have h1 := HS.out.2.1; have h2 := HRX.out.1; rw [dps_len] at h2; omega) HFX.out w3 ((HRX.out.below HFS3.out.below).more HFS3.out.below.size)).mono ?_
            rintro e w4 ⟨kk, hkk, rfl, hb4⟩
            have HFS4 := Lib.hid (HFS3.out.new hb4)
            clear hb4 HGY HGN hmay
            have hkk2 : (kk == 0) = false := by rcases hkk with h | h <;> subst h <;> rfl
            clear hkk
            go_wp2
            refine ⟨⟨i + 1, S, vs, _, _, rfl, rfl, by rw [HL.out]; omega, by go_num, ?_⟩, by simp [intOf]; omega⟩
            rw [HNO.out]
            exact { HFS4.out with ht := HFS4.out.ht.more (by omega) }
        · have HS := Lib.hid hs
          go_wp2_with fail
          refine (great_says ⟨k, t, u, o, m, g⟩ A4 n4 c4 l4 _ HNX.out HFX.out.2.2 HFX.out.1 HFX.out.2.1 ((HRX.out.below HFS2.out.below).more HFS2.out.below.size)).mono ?_
          rintro e w3 ⟨he, hb3⟩
          obtain rfl := he.yes HS.out
          have HB3 := Lib.hid (HFS2.out.new hb3).below
          clear he hb3
          go_wp2_with fail
          refine (sfixed_any _).mono ?_
          rintro e w5 ⟨rfl, hb5⟩
          have HB5 := Lib.hid (HB3.out.trans (hb5.mono HB3.out.size))
          clear hb5
          go_wp2
          go_ret
          exact ⟨rfl, HB5.out⟩
      · obtain rfl : i = n := by omega
        have hgn : xs.take i = xs := List.take_of_length_le (by rw [HL.out]; omega)
        have hbd : Hid ((layAll ver [] (goods ver xs)).length ≤ 400 ∧ (goods ver xs).length ≤ 20 ∧ (tabAll ver [] (goods ver xs)).length ≤ 1000) := by
          have g0 := goods_len ver xs
          have g1 := layAll_len (ver := ver) (goods ver xs) [] (fun y hy => (goods_mem hy).1)
          have g3 := tabAll_len (ver := ver) (goods ver xs) [] (fun y hy => (goods_mem hy).1)
          rw [HL.out] at g0
          show _ ∧ _ ∧ _
          simp only [List.length_nil] at g3
          omega
        rw [hgn] at HFS
        have HGM : Hid (∀ y ∈ goods ver xs, MayP ver y.r y.l ∧ Fits y.r y.l ∧ Nums y.r y.l ∧ Reads w w.heap.size 3 y.A y.n (dps y.l)) := fun y hy => by
          have h1 := goods_mem hy
          have h2 := HF.out y h1.2
          exact ⟨h1.1, h2.1, h2.2.2, (H1.out.2 y h1.2).1⟩
        have HGE : Hid (¬ (1 ≤ ver ∧ ver ≤ 3) → (goods ver xs).length = 0) := fun h => by
          rcases Nat.eq_zero_or_pos (goods ver xs).length with h0 | h0
          · exact h0
          · have h1 := goods_mem (List.getElem_mem h0)
            exact absurd ⟨h1.1.1, h1.1.2.1⟩ h
        obtain ⟨G, hG⟩ : ∃ G, G = goods ver xs := ⟨_, rfl⟩
        rw [← hG] at HFS hbd HGM HGE
        obtain ⟨Aa, ca, rfl, hAa⟩ := own_slice HFS.out.rows.1
        obtain ⟨Ab, cb, rfl, hAb⟩ := own_slice HFS.out.good
        have HSS := Lib.hid HFS.out.ss
        obtain ⟨LA, hLA⟩ : ∃ LA, LA = layAll ver [] G := ⟨_, rfl⟩
        obtain ⟨na, hna⟩ : ∃ na, na = LA.length := ⟨_, rfl⟩
        obtain ⟨ng, hng⟩ : ∃ ng, ng = G.length := ⟨_, rfl⟩
        have HLA := Lib.hid hLA
        have HNG := Lib.hid hng
        have HNA := Lib.hid hna
        rw [← hLA] at HSS hbd ⊢
        rw [← hna] at HSS hbd ⊢
        rw [← hng] at hbd HGE ⊢
        have hng20 : ng ≤ 20 := hbd.out.2.1
        have hna400 : na ≤ 400 := hbd.out.1
        obtain ⟨B, hB⟩ : ∃ B, B = wr.heap.size := ⟨_, rfl⟩
        rw [← hB] at HSS
        have H2 : Hid (SRel w ver S bt bu (18 * i) (tabAll ver [] G) Aa na ca LA (.slice Ab ng cb) G B (.int .i64 0) (.int .i64 0) wr) := ⟨0, U, 0, by omega, rfl, rfl, by omega, by rw [HNG.out]; exact HSS.out⟩
        clear hgn hG hLA hna hng hB HFS HVB HF H1 HSS
        go_wp2
        go_loopw [13, 64] (fun v13 idx wr => SRel w ver S bt bu (18 * i) (tabAll ver [] G) Aa na ca LA (.slice Ab ng cb) G B v13 idx wr) (fun _ idx _ => ng - (intOf idx).toNat)
        case atStart => exact H2.out
        case round =>
          obtain ⟨j, U2, M, hj, rfl, rfl, hM, hss⟩ := hrel
          clear H2
          rw [← HNG.out] at hj
          have HSS := Lib.hid hss
          clear hss
          obtain ⟨a, ha⟩ : ∃ a, a = (layAll ver [] (G.take j)).length := ⟨_, rfl⟩
          rw [← ha]
          by_cases hlt : j < ng
          · obtain ⟨x, hx⟩ : ∃ x, G[j]? = some x := ⟨_, List.getElem?_eq_getElem (by rw [← HNG.out]; exact hlt)⟩
            have hm := List.mem_of_getElem? hx
            obtain ⟨hmx, hfx, hnux, hrx⟩ := HGM.out x hm
            obtain ⟨ad, rfl, hadb, k0, k1, k2, k3, k4, k5, k6⟩ := recs_cells (Reads.of_own (n := ng) (by have h1 := HSS.out.good; rw [← HNG.out] at h1; exact h1)) j x hx
            have HAT := Lib.hid (layAll_at (ver := ver) (tl := []) hx)
            have HTK := Lib.hid (layAll_take (ver := ver) (tl := []) hx)
            have hul : (tabAll ver [] (G.take j)).length ≤ 1000 := by
              have g3 := tabAll_len (ver := ver) (G.take j) [] (fun y hy => (HGM.out y (List.mem_of_mem_take hy)).1)
              rw [List.length_take, List.length_nil] at g3
              omega
            obtain ⟨ul, hule⟩ : ∃ ul, ul = tabAll ver [] (G.take j) := ⟨_, rfl⟩
            rw [← hule] at hul HAT HTK HSS
            obtain ⟨⟨k, t, u, o, m, g⟩, A4, n4, c4, l4⟩ := x
            simp only at k0 k1 k2 k3 k4 k5 k6 hmx hfx hrx hnux HAT HTK
            have hq1 := payL_pos ver ul ⟨k, t, u, o, m, g⟩ l4
            have hq2 := payL_len (tl := ul) hmx
            obtain ⟨q, hq⟩ : ∃ q, q = (payL ver ul ⟨k, t, u, o, m, g⟩ l4).length := ⟨_, rfl⟩
            rw [← hq] at hq1 hq2
            have hal : a ≤ 400 := by
              have h1 := congrArg List.length HAT.out
              rw [List.length_append, ← ha, ← HLA.out, ← HNA.out] at h1
              omega
            have HRX := Lib.hid hrx
            have hi0 : (0 : Int) ≤ (j : Int) := by omega
            have hi1 : (j : Int) < (ng : Int) := by omega
            have ha0 : (0 : Int) ≤ (a : Int) := by omega
            have hal2 : (a : Int) ≤ 400 := by omega
            have hqi1 : (1 : Int) ≤ (q : Int) := by omega
            have hqi2 : (q : Int) ≤ 19 := by omega
            have dq : decide ((a : Int) + (q : Int) ≤ (a : Int)) = false := decide_eq_false (by omega)
            have HSS2 := Lib.hid (HSS.out.new ((Below.refl wr.heap.size wr).alloc (Nat.le_refl _) (.cells #[.int .i64 k, .string (tx t), .int .u64 u, .slice A4 n4 c4, .int .u64 o, .int .u64 m, .string (tx g)] 26)))
            have hbox := one_new wr (.cells #[.int .i64 k, .string (tx t), .int .u64 u, .slice A4 n4 c4, .int .u64 o, .int .u64 m, .string (tx g)] 26)
            have HBOX := Lib.hid hbox
            have HGET := Lib.hid (get_ok U2 bu B M na ca a ver ul ⟨k, t, u, o, m, g⟩ l4 (layAll ver [] (G.take j)) (layAll ver (tabAll ver [] (G.take (j + 1))) (G.drop (j + 1))) Aa hmx hfx hnux (by omega) (by omega) (by omega) ha.symm _ HSS2.out.hB HSS2.out.hu (by have h1 := HSS2.out.all; rw [HLA.out, HAT.out] at h1; exact h1))
            rw [← hq] at HGET
            have HA := Lib.hid ha
            have HQ := Lib.hid hq
            have HUL := Lib.hid hule
            have HN4 : Hid (l4.length = n4) := by have h1 := hrx.1; rw [dps_len] at h1; show _ = _; omega
            have HL16 : Hid (l4.length ≤ 16) := (may_names hmx).2.2.1
            clear hx hm hmx hfx hrx hnux hadb hbox ha hq hule hul hal
            unfold rcv rsv at HGET
            go_wp2_with fail
            refine HGET.out.mono ?_
            rintro e w4 ⟨A9, n9, c9, U9, rfl, hd9, hap9, ⟨M9, hM9, ht9⟩, hs9, htu9⟩
            have HSS9 := Lib.hid ((HSS2.out.get ht9 hs9 htu9).new ((Below.refl w4.heap.size w4).alloc (Nat.le_refl _) (.cells #[.int .i64 k, .string (tx t), .int .u64 u, .slice A9 n9 c9, .int .u64 o, .int .u64 m, .string (tx g)] 26)))
            have hb15 := (Below.heap_alloc w4 (.cells #[.int .i64 k, .string (tx t), .int .u64 u, .slice A9 n9 c9, .int .u64 o, .int .u64 m, .string (tx g)] 26) wr.heap.size (Nat.lt_of_lt_of_le (by simp) htu9.2.2.2.1)).trans ((htu9.2.2.2.2 wr.heap.size (by simp) (fun h2 => by have := (HSS.out.lt _ (.inr h2)).1; omega)).trans HBOX.out)
            have hb16 := one_new w4 (.cells #[.int .i64 k, .string (tx t), .int .u64 u, .slice A9 n9 c9, .int .u64 o, .int .u64 m, .string (tx g)] 26)
            have z0 := at_cell (i := 0) hb15 rfl
            have z1 := at_cell (i := 1) hb15 rfl
            have z2 := at_cell (i := 2) hb15 rfl
            have z3 := at_cell (i := 3) hb15 rfl
            have z4 := at_cell (i := 4) hb15 rfl
            have z5 := at_cell (i := 5) hb15 rfl
            have z6 := at_cell (i := 6) hb15 rfl
            have y0 := at_cell (i := 0) hb16 rfl
            have y1 := at_cell (i := 1) hb16 rfl
            have y2 := at_cell (i := 2) hb16 rfl
            have y3 := at_cell (i := 3) hb16 rfl
            have y4 := at_cell (i := 4) hb16 rfl
            have y5 := at_cell (i := 5) hb16 rfl
            have y6 := at_cell (i := 6) hb16 rfl
            have HSAME := Lib.hid (rsame_any ⟨k, t, u, o, m, g⟩ ⟨k, t, u, o, m, g⟩ A9 A4 n9 n4 c9 c4 l4 l4 (by have h1 := hd9.1.1; rw [dps_len] at h1; have := HL16.out; omega) (w4.alloc (.cells #[.int .i64 k, .string (tx t), .int .u64 u, .slice A9 n9 c9, .int .u64 o, .int .u64 m, .string (tx g)] 26)) (Reads.of_own (World.ownsRow.alloc hd9.1 (.cells #[.int .i64 k, .string (tx t), .int .u64 u, .slice A9 n9 c9, .int .u64 o, .int .u64 m, .string (tx g)] 26))) ((HRX.out.below HSS9.out.below).more HSS9.out.below.size))
            have HM9 : Hid (M9 ≤ M + 36) := hM9
            clear hd9 hap9 ht9 hs9 htu9 hb15 hb16 hM9 HGET
            unfold rcv rsv at HSAME
            go_wp2_with fail
            refine HSAME.out.mono ?_
            rintro e w5 ⟨qq, hqq, rfl, hb5⟩
            obtain rfl : qq = true := by simpa using hqq
            have HSS5 := Lib.hid (HSS9.out.new hb5)
            clear hb5 hqq
            go_wp2
            refine ⟨⟨j + 1, U9, M9, by rw [← HNG.out]; omega, by go_num, ?_, by have := HM9.out; omega, ?_⟩, by simp [intOf]; omega⟩
            · rw [HTK.out.1, ← HA.out, ← HQ.out]; go_num
            · rw [HTK.out.2]; exact HSS5.out
          · obtain rfl : j = ng := by omega
            have hgj : G.take j = G := List.take_of_length_le (by rw [← HNG.out]; omega)
            rw [hgj] at HSS ha
            have haa : a = na := by rw [ha, HNA.out, HLA.out]
            rw [haa]
            clear ha haa hgj
            obtain ⟨tl, htl⟩ : ∃ tl, tl = tabAll ver [] G := ⟨_, rfl⟩
            rw [← htl] at HSS hbd
            clear htl
            have htl1 : tl.length ≤ 1000 := hbd.out.2.2
            have hna2 : (na : Int) ≤ 400 := by omega
            have hna0 : (0 : Int) ≤ (na : Int) := by omega
            have dna : ((na : Int) == (na : Int)) = true := by simp
            by_cases hv : 1 ≤ ver ∧ ver ≤ 3
            · have HG := Lib.hid (get_last ver hv bu na ca B LA Aa (fun h => ?_) (by omega) wr HSS.out.hB HSS.out.all.less)
              unfold GetsNone at HG
              go_wp2_with fail
              refine HG.out.mono ?_
              rintro e w4 ⟨rfl, hb4⟩
              have HSS4 := Lib.hid ((HSS.out.new hb4).new ((Below.refl w4.heap.size w4).alloc (Nat.le_refl _) (.cells #[.int .i64 0, .string { data := #[] }, .int .u64 0, .slice none 0 0, .int .u64 0, .int .u64 0, .string { data := #[] }] 26)))
              clear hb4 HG
              go_wp2_with fail
              refine (sfixed_any _).mono ?_
              rintro e w5 ⟨rfl, hb5⟩
              have HSS5 := Lib.hid (HSS4.out.new hb5)
              clear hb5
              go_wp2_with fail
              refine (alltexts_any S bt (18 * i) tl (by omega) w5 HSS5.out.ht).mono ?_
              rintro e w6 ⟨A6, c6, rfl, hr6, hb6⟩
              have HSS6 := Lib.hid (HSS5.out.new hb6)
              have HR6 := Lib.hid hr6
              clear hb6 hr6
              go_wp2_with fail
              refine (alltexts_any U2 bu M tl (by omega) w6 HSS6.out.hu).mono ?_
              rintro e w7 ⟨A7, c7, rfl, hr7, hb7⟩
              have HSS7 := Lib.hid (HSS6.out.new hb7)
              have HR7 := Lib.hid hr7
              have HB7 := Lib.hid hb7
              clear hb7 hr7
              go_wp2_with fail
              refine (texts_same A6 A7 tl.length c6 c7 w6.heap.size w7.heap.size tl (by omega) w7 HB7.out.size (Nat.le_refl _) (HR6.out.below HB7.out) HR7.out).mono ?_
              rintro e w8 ⟨rfl, hb8⟩
              have HF8 := Lib.hid (HSS7.out.below.trans (hb8.mono HSS7.out.below.size))
              clear hb8
              go_wp2
              go_ret
              exact ⟨rfl, HF8.out⟩
              · have h1 := HSS.out.all.1
                have h2 := hAa h
                omega
            · have HG := Lib.hid (get_way ver hv (some ⟨bu, 0, none⟩) Aa na ca (na : Int) wr)
              have hj0 : j = 0 := HGE.out hv
              have dng : ((j : Int) == 0) = true := by subst hj0; rfl
              go_wp2_with fail
              refine HG.out.mono ?_
              rintro e w4 ⟨rfl, hb4⟩
              have HSS4 := Lib.hid ((HSS.out.new hb4).new ((Below.refl w4.heap.size w4).alloc (Nat.le_refl _) (.cells #[.int .i64 0, .string { data := #[] }, .int .u64 0, .slice none 0 0, .int .u64 0, .int .u64 0, .string { data := #[] }] 26)))
              clear hb4 HG
              go_wp2_with fail
              refine (sfixed_any _).mono ?_
              rintro e w5 ⟨rfl, hb5⟩
              have HSS5 := Lib.hid (HSS4.out.new hb5)
              clear hb5
              go_wp2_with fail
              refine (alltexts_any S bt (18 * i) tl (by omega) w5 HSS5.out.ht).mono ?_
              rintro e w6 ⟨A6, c6, rfl, hr6, hb6⟩
              have HSS6 := Lib.hid (HSS5.out.new hb6)
              have HR6 := Lib.hid hr6
              clear hb6 hr6
              go_wp2_with fail
              refine (alltexts_any U2 bu M tl (by omega) w6 HSS6.out.hu).mono ?_
              rintro e w7 ⟨A7, c7, rfl, hr7, hb7⟩
              have HSS7 := Lib.hid (HSS6.out.new hb7)
              have HR7 := Lib.hid hr7
              have HB7 := Lib.hid hb7
              clear hb7 hr7
              go_wp2_with fail
              refine (texts_same A6 A7 tl.length c6 c7 w6.heap.size w7.heap.size tl (by omega) w7 HB7.out.size (Nat.le_refl _) (HR6.out.below HB7.out) HR7.out).mono ?_
              rintro e w8 ⟨rfl, hb8⟩
              have HF8 := Lib.hid (HSS7.out.below.trans (hb8.mono HSS7.out.below.size))
              clear hb8
              go_wp2
              go_ret
              exact ⟨rfl, HF8.out⟩

end Go.Proofs.Ytfidfhajnobonaa

/- The way up for a law: it answered true, and of what was there nothing has turned: then its row's close holds, whatever its arguments are. -/
namespace Go.Proofs.Ytfidfhajnobonaa
open Go.ChangeShapes Go.WideShapes Go.ChangeAt Go.RowKit

theorem trodAll_below {H : Type} {enc : TypeId × Value → H} {P : Program} (hl : laidOutB P = true) {W W' : World} (hb : Below W.heap.size W W') :
    ∀ {ts : List TypeId} {vs : List Value} {ds : List (DataW H)} {ps : List MemPlace}, (∀ t ∈ ts, P.readableRec t = true ∧ t < P.types.size) →
      DataW.TrodAll enc P W 0 (fun _ => true) true ts vs ds ps → (∀ x ∈ ps, x.block < W.heap.size) → DataW.TrodAll enc P W' 0 (fun b => decide (b < W.heap.size)) true ts vs ds ps
  | [], vs, ds, ps, _, h, _ => by
    obtain ⟨rfl, rfl, rfl⟩ := trodAll_nil h
    exact trodAll_mk0
  | t :: ts, vs, ds, ps, hr, h, hlt => by
    obtain ⟨v, vs1, d, ds1, a, b, rfl, rfl, rfl, h1, h2⟩ := trodAll_cons h
    have ht := hr t (by simp)
    exact trodAll_cons_mk (Below.trod hl ht.1 ht.2 h1 hb (fun x hx => hlt x (by simp [hx])))
      (trodAll_below hl hb (fun t' h' => hr t' (by simp [h'])) h2 (fun x hx => hlt x (by simp [hx])))

theorem law_post {H : Type} {enc : TypeId × Value → H} {P : Program} {f : Func} {s : ChangeSpec} {tb : TypeId} (hl : laidOutB P = true) (htb : P.underlying tb = some .bool)
    (hres : f.resultTypes = #[tb]) (hpar : ∀ t ∈ f.params.toList, P.readableRec t = true ∧ t < P.types.size) (hvars : s.vars = [])
    {W W' : World} {args : Array Value} {ds gs : List (DataW H)} {before : List MemPlace}
    (hW : DataW.Whole enc P f.params.toList s.vars false W args.toList ds gs before) (hb : Below W.heap.size W W')
    (hfn : s.fn H (ds ++ gs) = { results := [.lit (.bool true)], args := ds, vars := [] }) :
    s.post enc P f false true false false W args (.bool true) W' := by
  have hW' := hW
  obtain ⟨p, q, hA, hV, rfl, _, _⟩ := hW
  rw [hvars] at hV
  obtain ⟨rfl, rfl⟩ := trodVars_none hV
  refine ⟨ds, [], p ++ [], [], p, [], hW', ?_, ?_, ?_, hb.frame _, fun h => by cases h⟩
  · rw [hfn, hres]
    exact trodAll_mk1 (shut_bool htb true)
  · rw [hfn]
    exact trodAll_below hl hb hpar hA (fun x hx => by simpa using hW'.lt x (by simpa using hx))
  · rw [hfn, hvars]
    exact rfl

end Go.Proofs.Ytfidfhajnobonaa
