/- Texts of one proof, one behind the other. -/
import Derived.Test.YtidkahmjjknkmaaMh33
import Derived.Test.YtidkahmjjknkmaaMh21
import Derived.Test.YtidkahmjjknkmaaMh34
import Derived.Test.YtidkahmjjknkmaaMh26
import Derived.Test.YtidkahmjjknkmaaMh11
import Derived.Test.YtidkahmjjknkmaaMh13
import Derived.Test.YtidkahmjjknkmaaMh27

/- What both Gets hang on: mathematics. -/
namespace Go.Proofs.Ytidkahmjjknkmaa
open Go.RowKit

def U64 (z : Int) : Prop := 0 ≤ z ∧ z < 18446744073709551616
def RGood (m : Nat) (s : Rst) : Prop := s.r.target.length ≤ m ∧ s.r.tag.length ≤ m ∧ U64 s.r.rule ∧ U64 s.r.out ∧ U64 s.r.time ∧ ∀ d ∈ s.l, d.name.length ≤ m ∧ U64 d.hash
theorem numU (c : Cu) : U64 (c.num.1 : Int) := num64 c
theorem rdName_len (ver : Int) (tl : List (List UInt8)) (m : Nat) (hm : 64 ≤ m) (c : Cu) (h : ∀ s ∈ tl, s.length ≤ m) : (rdName ver tl c).1.length ≤ m := by
  unfold rdName
  split
  · exact Nat.le_trans (text_len c) hm
  · exact ttext_mem tl _ m h
theorem rdDep_len (ver : Int) (tl : List (List UInt8)) (m : Nat) (hm : 64 ≤ m) (c : Cu) (h : ∀ s ∈ tl, s.length ≤ m) : (rdDep ver tl c).1.name.length ≤ m := by
  unfold rdDep
  split
  · exact rdName_len ver tl m hm c h
  · exact ttext_mem tl _ m h
theorem good_step (ver : Int) (tl : List (List UInt8)) (m : Nat) (hm : 64 ≤ m) (h : ∀ s ∈ tl, s.length ≤ m) {s : Rst} (hs : RGood m s) : RGood m (rdStep ver tl s) := by
  obtain ⟨h1, h2, h3, h4, h5, h6⟩ := hs
  refine ⟨h1, h2, h3, h4, h5, fun d hd => ?_⟩
  rcases List.mem_append.1 hd with h7 | h7
  · exact h6 d h7
  · obtain rfl := List.mem_singleton.1 h7
    exact ⟨rdDep_len ver tl m hm _ h, numU _⟩
theorem good_iter (ver : Int) (tl : List (List UInt8)) (m : Nat) (hm : 64 ≤ m) (h : ∀ s ∈ tl, s.length ≤ m) {s : Rst} (hs : RGood m s) : ∀ i, RGood m (rdIter ver tl i s) ∧ (rdIter ver tl i s).l.length = s.l.length + i
  | 0 => ⟨hs, rfl⟩
  | i + 1 => by
    obtain ⟨h1, h2⟩ := good_iter ver tl m hm h hs i
    refine ⟨good_step ver tl m hm h h1, ?_⟩
    show ((rdIter ver tl i s).l ++ [_]).length = _
    rw [List.length_append, h2]
    rfl
theorem good_deps (ver : Int) (tl : List (List UInt8)) (m : Nat) (hm : 64 ≤ m) (h : ∀ s ∈ tl, s.length ≤ m) {s : Rst} (hs : RGood m s) : RGood m (st_deps ver tl s) ∧ (st_deps ver tl s).l.length ≤ s.l.length + 16 := by
  obtain ⟨h1, h2⟩ := good_iter ver tl m hm h (s := ⟨s.r, s.l, s.c.num.2⟩) hs (min s.c.num.1 16)
  refine ⟨h1, ?_⟩
  show (rdIter ver tl (min s.c.num.1 16) ⟨s.r, s.l, s.c.num.2⟩).l.length ≤ _
  rw [h2]
  show s.l.length + _ ≤ _
  omega
theorem good_target (ver : Int) (tl : List (List UInt8)) (m : Nat) (hm : 64 ≤ m) (h : ∀ s ∈ tl, s.length ≤ m) {s : Rst} (hs : RGood m s) : RGood m (st_target ver tl s) :=
  ⟨rdName_len ver tl m hm _ h, hs.2.1, hs.2.2.1, hs.2.2.2.1, hs.2.2.2.2.1, hs.2.2.2.2.2⟩
theorem good_tag (ver : Int) (tl : List (List UInt8)) (m : Nat) (h : ∀ s ∈ tl, s.length ≤ m) {s : Rst} (hs : RGood m s) : RGood m (st_tag ver tl s) := by
  refine ⟨hs.1, ?_, hs.2.2.1, hs.2.2.2.1, hs.2.2.2.2.1, hs.2.2.2.2.2⟩
  show (if s.c.num.1 = 0 then s.r.tag else ttext tl (s.c.num.1 - 1)).length ≤ m
  split
  · exact hs.2.1
  · exact ttext_mem tl _ m h
theorem rd_good (ver : Int) (tl : List (List UInt8)) (m : Nat) (hm : 64 ≤ m) (h : ∀ s ∈ tl, s.length ≤ m) (k : Nat) {s : Rst} (hs : RGood m s) : RGood m (rdAll ver tl k s) ∧ (rdAll ver tl k s).l.length ≤ s.l.length + 16 := by
  unfold rdAll
  have ht := good_target ver tl m hm h hs
  split
  · exact ⟨ht, Nat.le_add_right _ _⟩
  · split
    · have hr : RGood m (st_rule ver tl (st_target ver tl s)) := ⟨ht.1, ht.2.1, numU _, ht.2.2.2.1, ht.2.2.2.2.1, ht.2.2.2.2.2⟩
      obtain ⟨hd, hdl⟩ := good_deps ver tl m hm h hr
      have ho : RGood m (st_out ver tl (st_deps ver tl (st_rule ver tl (st_target ver tl s)))) := ⟨hd.1, hd.2.1, hd.2.2.1, numU _, hd.2.2.2.2.1, hd.2.2.2.2.2⟩
      have hw : RGood m (st_when ver tl (st_out ver tl (st_deps ver tl (st_rule ver tl (st_target ver tl s))))) := ⟨ho.1, ho.2.1, ho.2.2.1, ho.2.2.2.1, numU _, ho.2.2.2.2.2⟩
      have hlen : (st_deps ver tl (st_rule ver tl (st_target ver tl s))).l.length ≤ s.l.length + 16 := hdl
      simp only
      by_cases h2 : ver < 2
      · rw [if_pos h2, if_pos (show ver < 3 by omega)]
        exact ⟨ho, hlen⟩
      · rw [if_neg h2]
        by_cases h3 : ver < 3
        · rw [if_pos h3]
          exact ⟨hw, hlen⟩
        · rw [if_neg h3]
          exact ⟨good_tag ver tl m h hw, hlen⟩
    · exact ⟨hs, Nat.le_add_right _ _⟩
theorem start_good (m : Nat) (p : List UInt8) : RGood m (rdStart p) := ⟨Nat.zero_le _, Nat.zero_le _, ⟨Int.le_refl _, by show (0 : Int) < _; omega⟩, ⟨Int.le_refl _, by show (0 : Int) < _; omega⟩, ⟨Int.le_refl _, by show (0 : Int) < _; omega⟩, fun d hd => by cases hd⟩

theorem tput_mem2 {tl : List (List UInt8)} {s t : List UInt8} (h : t ∈ tput tl s) : t ∈ tl ∨ t = s := by
  by_cases hs : s ∈ tl
  · rw [tput_in hs] at h; exact .inl h
  · rw [tput_new hs] at h
    rcases List.mem_append.1 h with h | h
    · exact .inl h
    · exact .inr (List.mem_singleton.1 h)
theorem tfold_bound (m : Nat) : ∀ (ns tl : List (List UInt8)), (∀ s ∈ tl, s.length ≤ m) → (∀ s ∈ ns, s.length ≤ m) → ∀ s ∈ ns.foldl tput tl, s.length ≤ m
  | [], _, h, _ => h
  | n :: ns, tl, h, hn => tfold_bound m ns (tput tl n) (fun s hs => by
      rcases tput_mem2 hs with h1 | rfl
      · exact h s h1
      · exact hn _ (by simp)) (fun s hs => hn s (by simp [hs]))
theorem tblA_bound (m : Nat) (tl qs : List (List UInt8)) (j : Nat) (h : ∀ s ∈ tl, s.length ≤ m) (hq : ∀ s ∈ qs, s.length ≤ m) : ∀ s ∈ tblA tl qs j, s.length ≤ m := by
  refine tfold_bound m _ _ h fun s hs => ?_
  obtain ⟨q, hq1, rfl⟩ := List.mem_map.1 hs
  have := hq q (List.mem_of_mem_take hq1)
  rw [List.length_tail]; omega

/-- The record whose payloads stand there. -/
def Found (ver : Int) (tl found : List (List UInt8)) (r : Rc) (l : List Dp) : Prop := MayP ver r l ∧ Nums r l ∧ Fits r l ∧ payL ver tl r l = found
theorem found_last {ver : Int} {tl qs : List (List UInt8)} {j : Nat} {p : List UInt8} {r : Rc} {l : List Dp} (hp : qs[j]? = some p) (htl : tl.length + j ≤ 1000000) (h : Found ver tl (qs.take (j + 1)) r l) : dLast ver (tblA tl qs j) p = (r, l, true) ∧ tblA tl qs j = tabT ver tl r l := by
  obtain ⟨h1, h2, h3, h4⟩ := h
  rw [List.take_add_one, hp] at h4
  unfold payL at h4
  obtain ⟨h5, h6⟩ := List.append_inj' h4 rfl
  have h7 : payB ver (tabT ver tl r l) r l = p := by simpa using h6
  have h8 : tblA tl qs j = tabT ver tl r l := by
    unfold tblA
    rw [← h5, freT_back]
  rw [h8, ← h7]
  refine ⟨last_back h1 h2 ?_ (tabT_mem ver tl r l), rfl⟩
  rw [← h8]
  have := tblA_len tl qs j
  omega

end Go.Proofs.Ytidkahmjjknkmaa

/- What both Gets answer, side by side. -/
namespace Go.Proofs.Ytidkahmjjknkmaa
open Go.RowKit

def PNo (ver : Int) (tl ps : List (List UInt8)) (at_ : Int) (e9 : Int) : Prop := ∀ (S : Nat → Prop) (bt N n c : Nat) (A : Option Addr) (w : World), N ≤ 10000000 → (∀ k, S k → k < w.heap.size) → Tab w S bt N tl → PlsT w w.heap.size S A n c ps → (A = none → n = 0 ∧ c = 0) →
  Calls Try.prog 16 #[.int .i64 ver, .pointer (some ⟨bt, 0, none⟩), .slice A n c, .int .i64 at_] w fun e w' => ∃ S' : Nat → Prop, e = .returned (.tuple #[.agg #[.int .i64 0, .string { data := #[] }, .int .u64 0, .slice none 0 0, .int .u64 0, .int .u64 0, .string { data := #[] }], .int .i64 0, .int .i64 e9]) ∧ (∃ N', N' ≤ N + 100036 ∧ Tab w' S' bt N' tl) ∧ (∀ k, S' k → k < w'.heap.size ∧ (S k ∨ w.heap.size ≤ k)) ∧ Turn S w w'
def DNo (ver : Int) (tl ps : List (List UInt8)) (at_ : Int) (e9 : Int) : Prop := ∀ (T A : Option Addr) (tk n c B0 : Nat) (w : World), B0 ≤ w.heap.size → Own w B0 (.slice T tl.length tk) tl → Reads w w.heap.size 1 A n (ps.map tsv) →
  Calls Try.prog 19 #[.int .i64 ver, .slice T tl.length tk, .slice A n c, .int .i64 at_] w fun e w' => e = .returned (.tuple #[.agg #[.int .i64 0, .string { data := #[] }, .int .u64 0, .slice none 0 0, .int .u64 0, .int .u64 0, .string { data := #[] }], .int .i64 0, .slice T tl.length tk, .int .i64 e9]) ∧ Below w.heap.size w w'
def PYes (ver : Int) (tl ps : List (List UInt8)) (a nx : Nat) (r : Rc) (l : List Dp) : Prop := ∀ (S : Nat → Prop) (bt N n c : Nat) (A : Option Addr) (w : World), N ≤ 10000000 → Tab w S bt N tl → PlsT w w.heap.size S A n c ps →
  Calls Try.prog 16 #[.int .i64 ver, .pointer (some ⟨bt, 0, none⟩), .slice A n c, .int .i64 (a : Int)] w fun e w' => ∃ (A' : Option Addr) (n' c' : Nat) (S' : Nat → Prop), e = .returned (.tuple #[rcv r A' n' c', .int .i64 (nx : Int), .int .i64 0]) ∧ Deps w' w.heap.size A' n' c' l ∧ (∃ N', N' ≤ N + 36 ∧ Tab w' S' bt N' (tabT ver tl r l)) ∧ (∀ k, S' k → k < w'.heap.size ∧ (S k ∨ w.heap.size ≤ k)) ∧ Turn S w w'
def DYes (ver : Int) (tl ps : List (List UInt8)) (a nx : Nat) (r : Rc) (l : List Dp) : Prop := ∀ (T A : Option Addr) (tk n c B0 : Nat) (w : World), B0 ≤ w.heap.size → Own w B0 (.slice T tl.length tk) tl → Reads w w.heap.size 1 A n (ps.map tsv) →
  Calls Try.prog 19 #[.int .i64 ver, .slice T tl.length tk, .slice A n c, .int .i64 (a : Int)] w fun e w' => ∃ (A' : Option Addr) (c' : Nat) (v2 : Value), e = .returned (.tuple #[rcv r A' l.length c', .int .i64 (nx : Int), v2, .int .i64 0]) ∧ w'.ownsRow w.heap.size 55 3 (.slice A' l.length c') l.length (dps l) ∧ Own w' B0 v2 (tabT ver tl r l) ∧ Below w.heap.size w w'

theorem pno_of {ver : Int} {tl ps : List (List UInt8)} {at_ e9 : Int} (h : ∀ (bt n c : Nat) (A : Option Addr) (w : World), PlsC w w.heap.size A n c ps → (A = none → n = 0 ∧ c = 0) → Calls Try.prog 16 #[.int .i64 ver, .pointer (some ⟨bt, 0, none⟩), .slice A n c, .int .i64 at_] w fun e w' => e = .returned (.tuple #[.agg #[.int .i64 0, .string { data := #[] }, .int .u64 0, .slice none 0 0, .int .u64 0, .int .u64 0, .string { data := #[] }], .int .i64 0, .int .i64 e9]) ∧ Below w.heap.size w w') : PNo ver tl ps at_ e9 := by
  intro S bt N n c A w _ hS hT hP hA
  refine (h bt n c A w hP.less hA).mono fun e w' ⟨h1, h2⟩ => ⟨S, h1, ⟨N, by omega, hT.keep fun k _ hk => h2.block k hk⟩, fun k hk => ⟨Nat.lt_of_lt_of_le (hS k hk) h2.size, .inl hk⟩, Turn.of_below h2⟩
theorem dno_of {ver : Int} {tl ps : List (List UInt8)} {at_ e9 : Int} (h : ∀ (T A : Option Addr) (tk n c B0 : Nat) (w : World), B0 ≤ w.heap.size → Own w B0 (.slice T tl.length tk) tl → Reads w w.heap.size 1 A n (ps.map tsv) → ps.length = n → Calls Try.prog 19 #[.int .i64 ver, .slice T tl.length tk, .slice A n c, .int .i64 at_] w fun e w' => e = .returned (.tuple #[.agg #[.int .i64 0, .string { data := #[] }, .int .u64 0, .slice none 0 0, .int .u64 0, .int .u64 0, .string { data := #[] }], .int .i64 0, .slice T tl.length tk, .int .i64 e9]) ∧ Below w.heap.size w w') : DNo ver tl ps at_ e9 := by
  intro T A tk n c B0 w h1 h2 h3
  exact h T A tk n c B0 w h1 h2 h3 (by have := h3.1; simpa using this)

end Go.Proofs.Ytidkahmjjknkmaa

/- schema.Get at places that are none, and where texts alone stand. -/
namespace Go.Proofs.Ytidkahmjjknkmaa
open Go.RowKit

set_option maxRecDepth 100000 in
set_option maxHeartbeats 1000000 in
theorem get_low0 (ver : Int) (hv : 1 ≤ ver ∧ ver ≤ 3) (bt : Nat) (A : Option Addr) (n c : Nat) (at_ : Int) (ha : at_ < 0) (w : World) :
    Calls Try.prog 16 #[.int .i64 ver, .pointer (some ⟨bt, 0, none⟩), .slice A n c, .int .i64 at_] w fun e w' => e = .returned (.tuple #[.agg #[.int .i64 0, .string { data := #[] }, .int .u64 0, .slice none 0 0, .int .u64 0, .int .u64 0, .string { data := #[] }], .int .i64 0, .int .i64 1]) ∧ Below w.heap.size w w' := by
  have h0 := one_new w (.cells #[.int .i64 0, .string { data := #[] }, .int .u64 0, .slice none 0 0, .int .u64 0, .int .u64 0, .string { data := #[] }] 26)
  have HA0 := Lib.hid h0
  have HB0 := Lib.hid ((Below.refl w.heap.size w).alloc (Nat.le_refl _) (.cells #[.int .i64 0, .string { data := #[] }, .int .u64 0, .slice none 0 0, .int .u64 0, .int .u64 0, .string { data := #[] }] 26))
  have q0 := at_cell (i := 0) h0 rfl
  have y0 := at_frozen (i := 0) h0
  have q1 := at_cell (i := 1) h0 rfl
  have y1 := at_frozen (i := 1) h0
  have q2 := at_cell (i := 2) h0 rfl
  have y2 := at_frozen (i := 2) h0
  have q3 := at_cell (i := 3) h0 rfl
  have y3 := at_frozen (i := 3) h0
  have q4 := at_cell (i := 4) h0 rfl
  have y4 := at_frozen (i := 4) h0
  have q5 := at_cell (i := 5) h0 rfl
  have y5 := at_frozen (i := 5) h0
  have q6 := at_cell (i := 6) h0 rfl
  have y6 := at_frozen (i := 6) h0
  clear h0
  have d1 : decide (ver < 1) = false := decide_eq_false (by omega)
  have d2 : decide (ver > 3) = false := decide_eq_false (by omega)
  have hv1 := hv.1
  have hv3 := hv.2
  clear hv
  have d3 : decide (at_ < 0) = true := decide_eq_true ha
  go_enter Try.func16, Try.ntmps16
  go_wp2
  refine bodyPost_ret (results_cell_two rfl _ _ _ _ _ _ _ rfl HA0.out Try.underlying26 rfl (by kernel_rfl)) rfl ?_
  exact ⟨rfl, HB0.out⟩
set_option maxRecDepth 100000 in
set_option maxHeartbeats 1000000 in
theorem get_beyond (ver : Int) (hv : 1 ≤ ver ∧ ver ≤ 3) (bt : Nat) (A : Option Addr) (n c : Nat) (at_ : Int) (ha : (n : Int) < at_) (w : World) :
    Calls Try.prog 16 #[.int .i64 ver, .pointer (some ⟨bt, 0, none⟩), .slice A n c, .int .i64 at_] w fun e w' => e = .returned (.tuple #[.agg #[.int .i64 0, .string { data := #[] }, .int .u64 0, .slice none 0 0, .int .u64 0, .int .u64 0, .string { data := #[] }], .int .i64 0, .int .i64 1]) ∧ Below w.heap.size w w' := by
  have h0 := one_new w (.cells #[.int .i64 0, .string { data := #[] }, .int .u64 0, .slice none 0 0, .int .u64 0, .int .u64 0, .string { data := #[] }] 26)
  have HA0 := Lib.hid h0
  have HB0 := Lib.hid ((Below.refl w.heap.size w).alloc (Nat.le_refl _) (.cells #[.int .i64 0, .string { data := #[] }, .int .u64 0, .slice none 0 0, .int .u64 0, .int .u64 0, .string { data := #[] }] 26))
  have q0 := at_cell (i := 0) h0 rfl
  have y0 := at_frozen (i := 0) h0
  have q1 := at_cell (i := 1) h0 rfl
  have y1 := at_frozen (i := 1) h0
  have q2 := at_cell (i := 2) h0 rfl
  have y2 := at_frozen (i := 2) h0
  have q3 := at_cell (i := 3) h0 rfl
  have y3 := at_frozen (i := 3) h0
  have q4 := at_cell (i := 4) h0 rfl
  have y4 := at_frozen (i := 4) h0
  have q5 := at_cell (i := 5) h0 rfl
  have y5 := at_frozen (i := 5) h0
  have q6 := at_cell (i := 6) h0 rfl
  have y6 := at_frozen (i := 6) h0
  clear h0
  have d1 : decide (ver < 1) = false := decide_eq_false (by omega)
  have d2 : decide (ver > 3) = false := decide_eq_false (by omega)
  have hv1 := hv.1
  have hv3 := hv.2
  clear hv
  have d3 : decide (at_ < 0) = false := decide_eq_false (by omega)
  have d4 : decide (at_ > (n : Int)) = true := decide_eq_true ha
  go_enter Try.func16, Try.ntmps16
  go_wp2
  refine bodyPost_ret (results_cell_two rfl _ _ _ _ _ _ _ rfl HA0.out Try.underlying26 rfl (by kernel_rfl)) rfl ?_
  exact ⟨rfl, HB0.out⟩
set_option maxRecDepth 100000 in
set_option maxHeartbeats 1000000 in
theorem get_txts (ver : Int) (hv : 1 ≤ ver ∧ ver ≤ 3) (bt B a n c : Nat) (ps : List (List UInt8)) (A : Option Addr) (ha : a < n) (hn : n ≤ 100000) (htx : tahead (ps.drop a) = n - a) (w : World) (hB : B ≤ w.heap.size) (hr : PlsC w B A n c ps) :
    Calls Try.prog 16 #[.int .i64 ver, .pointer (some ⟨bt, 0, none⟩), .slice A n c, .int .i64 (a : Int)] w fun e w' => e = .returned (.tuple #[.agg #[.int .i64 0, .string { data := #[] }, .int .u64 0, .slice none 0 0, .int .u64 0, .int .u64 0, .string { data := #[] }], .int .i64 0, .int .i64 6]) ∧ Below w.heap.size w w' := by
  have hcn : n ≤ c := hr.1
  have hrd := hr.drop (k := a) (by omega)
  rw [if_neg (by omega)] at hrd
  obtain ⟨ad, rfl⟩ : ∃ ad, A = some ad := by
    obtain ⟨_, _, vs, h1, _⟩ := hr
    obtain ⟨ad, h2, _⟩ := h1.2 (by omega)
    exact ⟨ad, h2⟩
  have hb0 := (Below.refl w.heap.size w).alloc (Nat.le_refl _) (.cells #[.int .i64 0, .string { data := #[] }, .int .u64 0, .slice none 0 0, .int .u64 0, .int .u64 0, .string { data := #[] }] 26)
  have hta := ahead_any B (n - a) (c - a) (ps.drop a) (some (ad.add a)) (by omega) (w.alloc (.cells #[.int .i64 0, .string { data := #[] }, .int .u64 0, .slice none 0 0, .int .u64 0, .int .u64 0, .string { data := #[] }] 26)) (hrd.below (hb0.mono hB))
  rw [htx] at hta
  have HAH := Lib.hid hta
  have ha0 : (0 : Int) ≤ (a : Int) := by omega
  have ha1 : (a : Int) < (n : Int) := by omega
  have hsum : (a : Int) + ((n - a : Nat) : Int) = (n : Int) := by omega
  have h0 := one_new w (.cells #[.int .i64 0, .string { data := #[] }, .int .u64 0, .slice none 0 0, .int .u64 0, .int .u64 0, .string { data := #[] }] 26)
  have HA0 := Lib.hid h0
  have HB0 := Lib.hid ((Below.refl w.heap.size w).alloc (Nat.le_refl _) (.cells #[.int .i64 0, .string { data := #[] }, .int .u64 0, .slice none 0 0, .int .u64 0, .int .u64 0, .string { data := #[] }] 26))
  have q0 := at_cell (i := 0) h0 rfl
  have y0 := at_frozen (i := 0) h0
  have q1 := at_cell (i := 1) h0 rfl
  have y1 := at_frozen (i := 1) h0
  have q2 := at_cell (i := 2) h0 rfl
  have y2 := at_frozen (i := 2) h0
  have q3 := at_cell (i := 3) h0 rfl
  have y3 := at_frozen (i := 3) h0
  have q4 := at_cell (i := 4) h0 rfl
  have y4 := at_frozen (i := 4) h0
  have q5 := at_cell (i := 5) h0 rfl
  have y5 := at_frozen (i := 5) h0
  have q6 := at_cell (i := 6) h0 rfl
  have y6 := at_frozen (i := 6) h0
  clear h0
  have d1 : decide (ver < 1) = false := decide_eq_false (by omega)
  have d2 : decide (ver > 3) = false := decide_eq_false (by omega)
  have hv1 := hv.1
  have hv3 := hv.2
  clear hv
  clear hr hrd hb0 hta htx
  go_enter Try.func16, Try.ntmps16
  go_wp2_with (go_at_call 32; refine HAH.out.mono ?_; rintro e w3 ⟨rfl, rfl⟩)
  refine bodyPost_ret (results_cell_two rfl _ _ _ _ _ _ _ rfl HA0.out Try.underlying26 rfl (by kernel_rfl)) rfl ?_
  exact ⟨rfl, HB0.out⟩

end Go.Proofs.Ytidkahmjjknkmaa

/- What both Gets answer, side by side. -/
namespace Go.Proofs.Ytidkahmjjknkmaa
open Go.RowKit

theorem dLast_nil (ver : Int) (tl : List (List UInt8)) : (dLast ver tl []).2.2 = false := rfl
set_option maxRecDepth 100000 in
set_option maxHeartbeats 1000000 in
/-- A program and a document that find a payload that is no text. -/
theorem gets_found (ver : Int) (hv : 1 ≤ ver ∧ ver ≤ 3) (tl ps : List (List UInt8)) (htl : tl.length ≤ 1000) (hts : ∀ s ∈ tl, s.length ≤ 3000) (hpl : ps.length ≤ 1000) (hps : ∀ s ∈ ps, s.length ≤ 3000) (a j : Nat) (ha : a + j < ps.length) (htx : tahead (ps.drop a) = j) :
    (PNo ver tl ps (a : Int) 3 ∧ DNo ver tl ps (a : Int) 3 ∧ ¬ ∃ r l, Found ver tl ((ps.drop a).take (j + 1)) r l) ∨ ∃ r l, Found ver tl ((ps.drop a).take (j + 1)) r l ∧ PYes ver tl ps a (a + j + 1) r l ∧ DYes ver tl ps a (a + j + 1) r l := by
  have hver : ver = 1 ∨ ver = 2 ∨ ver = 3 := by omega
  obtain ⟨p, hp⟩ : ∃ p, ps[a + j]? = some p := ⟨_, List.getElem?_eq_getElem ha⟩
  obtain ⟨qs, hqs⟩ : ∃ qs, qs = ps.drop a := ⟨_, rfl⟩
  have hqp : qs[j]? = some p := by rw [hqs, List.getElem?_drop]; exact hp
  have hql : qs.length = ps.length - a := by rw [hqs, List.length_drop]
  have hqb : ∀ s ∈ qs, s.length ≤ 3000 := fun s hs => hps s (List.mem_of_mem_drop (by rw [← hqs]; exact hs))
  rw [← hqs] at htx
  have hpt : isTxt p = false := tahead_end qs p (by rw [htx]; exact hqp)
  have hp3 : p.length ≤ 3000 := hqb p (List.mem_of_getElem? hqp)
  have htake : qs.take (j + 1) = qs.take j ++ [p] := by rw [List.take_add_one, hqp]; rfl
  have htxt : ∀ t ∈ qs.take j, isTxt t = true ∧ t ≠ [] ∧ t.length ≤ 1000000 := fun t ht => by
    obtain ⟨i, hi⟩ := List.getElem?_of_mem ht
    rw [List.getElem?_take] at hi
    split at hi
    · rename_i hij
      obtain ⟨t', ht'⟩ := tahead_at qs i (by omega)
      rw [hi] at ht'
      have h3 := hqb t (List.mem_of_getElem? hi)
      have h4 : t = 0 :: t' := Option.some.inj ht'
      refine ⟨by rw [h4]; rfl, by rw [h4]; simp, by omega⟩
    · cases hi
  have htb := tblA_bound 3000 tl qs j hts hqb
  have htbl := tblA_len tl qs j
  have hsplit : ps = ps.take a ++ ((qs.take j ++ [p]) ++ qs.drop (j + 1)) := by
    rw [← htake, List.take_append_drop, hqs, List.take_append_drop]
  have hal : (ps.take a).length = a := by rw [List.length_take]; omega
  have hlast := last_good ver (tblA tl qs j) p 3000 (by omega) (by unfold maxLen; omega) htb
  have hput : ∀ (r : Rc) (l : List Dp), Fits r l → Nums r l → l.length ≤ 100000 → ∀ (e9 : Int) (pl9 tl9 : List (List UInt8)), ((MayP ver r l ∧ e9 = 0 ∧ pl9 = payL ver tl r l ∧ tl9 = tabT ver tl r l) ∨ (¬ MayP ver r l ∧ e9 = 1 ∧ pl9 = [] ∧ tl9 = tl)) → ∀ (T : Option Addr) (tk B0 : Nat), Hid (∀ (A : Option Addr) (c : Nat) (W : World), B0 ≤ W.heap.size → Own W B0 (.slice T tl.length tk) tl → Reads W W.heap.size 3 A l.length (dps l) → Calls Try.prog 11 #[.int .i64 ver, .slice T tl.length tk, .agg #[.int .i64 r.kind, .string (tx r.target), .int .u64 r.rule, .slice A l.length c, .int .u64 r.out, .int .u64 r.time, .string (tx r.tag)]] W fun e w' => ∃ v1 v2, e = .returned (.tuple #[v1, v2, .int .i64 e9]) ∧ Own w' W.heap.size v1 pl9 ∧ Own w' B0 v2 tl9 ∧ Below W.heap.size W w') := fun r l hfit hnu hl e9 pl9 tl9 h9 T tk B0 => Lib.hid fun A c W hB hO hR => by
    rcases h9 with ⟨hm, rfl, rfl, rfl⟩ | ⟨hm, rfl, rfl, h9⟩
    · exact rp_yes ver tl r A l.length c l hm hnu hfit _ (by omega) W B0 hB hO hR
    · rw [h9]
      obtain ⟨k, t, u, o, m, g⟩ := r
      refine (rp_noB ver k t g u o m A l.length c l hm hl hfit T tl.length tk W hR).mono ?_
      rintro e w' ⟨v1, rfl, h1, h2⟩
      exact ⟨v1, _, by rw [show whyNo ver = 1 from if_pos hv], h1, own_below hO h2, h2⟩
  have hdoc : ∀ (T A : Option Addr) (tk n c B0 : Nat) (w : World), B0 ≤ w.heap.size → Own w B0 (.slice T tl.length tk) tl → Reads w w.heap.size 1 A n (ps.map tsv) → ∀ (r : Rc) (l : List Dp) (ok : Bool) (e9 : Int) (pl9 tl9 : List (List UInt8)), ((MayP ver r l ∧ e9 = 0 ∧ pl9 = payL ver tl r l ∧ tl9 = tabT ver tl r l) ∨ (¬ MayP ver r l ∧ e9 = 1 ∧ pl9 = [] ∧ tl9 = tl)) → dLast ver (tblA tl qs j) p = (r, l, ok) → Calls Try.prog 19 #[.int .i64 ver, .slice T tl.length tk, .slice A n c, .int .i64 (a : Int)] w fun e w' => RgAns w B0 T tl.length tk (a + j + 1) r.kind (tx r.target) r.rule l r.out r.time (tx r.tag) tl9 (ok = true ∧ e9 = 0 ∧ pl9 = qs.take (j + 1)) e w' ∧ Below w.heap.size w w' := fun T A tk n c B0 w hB hO hR r l ok e9 pl9 tl9 h9 hd => by
    rw [hd] at hlast
    obtain ⟨h1, h2, h3⟩ := hlast
    have h3 : l.length ≤ p.length + 1 := h3
    have hn : ps.length = n := by have := hR.1; simpa using this
    have hp9 : pl9.length ≤ 100000 := by
      rcases h9 with ⟨hm, _, rfl, _⟩ | ⟨_, _, rfl, _⟩
      · have := payL_len (tl := tl) hm; omega
      · simp
    rw [hqs]
    refine rget_found ver hv tl ps T A tk n c a B0 (by omega) (by omega) hps (by omega) w hB hO hR j (by rw [← hqs]; exact htx) p hp r.kind r.rule r.out r.time (tx r.target) (tx r.tag) l ok e9 pl9 tl9 hp9 (fun e => by rw [e] at hd; have h1 : (dLast ver (tblA tl qs j) []).2.2 = false := dLast_nil _ _; rw [hd] at h1; exact h1) (Lib.hid fun v W hBW hOW => ?_) (hput r l h1 h2 (by omega) e9 pl9 tl9 h9 T tk B0)
    obtain ⟨T2, k2, rfl, _⟩ := own_slice hOW
    have h4 := last_any ver hver (tblA tl qs j) p (by omega) T2 (tblA tl qs j).length k2 (by omega) W (Reads.of_own (by rw [← hqs] at hOW; exact hOW))
    rw [hd] at h4
    rw [← hqs]
    exact h4
  by_cases hG : ∃ r l, Found ver tl (qs.take (j + 1)) r l
  · obtain ⟨r, l, hF⟩ := hG
    have hF2 := hF
    obtain ⟨hm, hnu, hfit, hpay⟩ := hF
    obtain ⟨hd, _⟩ := found_last hqp (by omega) hF2
    refine .inr ⟨r, l, by rw [← hqs]; exact hF2, ?_, ?_⟩
    · intro S bt N n c A w hN hT hP
      have hn : ps.length = n := hP.2.1
      have hP2 : PlsT w w.heap.size S A n c (ps.take a ++ (payL ver tl r l ++ qs.drop (j + 1))) := by rw [hpay, htake, ← hsplit]; exact hP
      refine (get_ok S bt w.heap.size N n c a ver tl r l (ps.take a) (qs.drop (j + 1)) A hm hfit hnu (by omega) (by omega) (by omega) hal w (Nat.le_refl _) hT hP2).mono ?_
      rintro e w' ⟨A', n', c', S', rfl, h1, _, h2, h3, h4⟩
      refine ⟨A', n', c', S', ?_, h1, h2, h3, h4⟩
      have h5 : (payL ver tl r l).length = j + 1 := by rw [hpay, List.length_take]; omega
      rw [h5, ← Nat.add_assoc]
    · intro T A tk n c B0 w hB hO hR
      refine (hdoc T A tk n c B0 w hB hO hR r l true 0 _ _ (.inl ⟨hm, rfl, rfl, rfl⟩) hd).mono fun e w' ⟨h1, h2⟩ => ?_
      obtain ⟨A', c', v2, h3, h4, h5⟩ := h1.1 ⟨rfl, rfl, hpay⟩
      exact ⟨A', c', v2, h3, h4, h5, h2⟩
  · refine .inl ⟨?_, ?_, by rw [← hqs]; exact hG⟩
    · intro S bt N n c A w hN hS hT hP _
      have hn : ps.length = n := hP.2.1
      obtain ⟨s, hs⟩ : ∃ s, s = rdAll ver (tblA tl qs j) (Cu.new p 0).byte.1.toNat (rdStart p) := ⟨_, rfl⟩
      obtain ⟨⟨g1, g2, g3, g4, g5, g6⟩, glen⟩ := rd_good ver (tblA tl qs j) 3000 (by omega) htb (Cu.new p 0).byte.1.toNat (start_good 3000 p)
      rw [← hs] at g1 g2 g3 g4 g5 g6 glen
      have hfit : Fits s.r s.l := ⟨Nat.le_trans g1 (by unfold maxLen; omega), Nat.le_trans g2 (by unfold maxLen; omega), fun d hd => Nat.le_trans (g6 d hd).1 (by unfold maxLen; omega)⟩
      have hnu : Nums s.r s.l := ⟨g3, g4, g5, fun d hd => (g6 d hd).2⟩
      have hl16 : s.l.length ≤ 1000 := by have : (rdStart p).l.length = 0 := rfl; omega
      by_cases hm : MayP ver s.r s.l
      · refine get_un S bt w.heap.size N n c a ver hver tl (qs.take j) (ps.take a) (qs.drop (j + 1)) p A s.r s.l (tblA tl qs j) htxt hpt (by omega) rfl (by rw [← hs]) (by rw [← hs]) hfit hnu hm (fun he => hG ⟨s.r, s.l, hm, hnu, hfit, by rw [he, htake]⟩) (by omega) (by omega) (by omega) hal w (Nat.le_refl _) hT (by rw [← hsplit]; exact hP)
      · exact get_no S bt w.heap.size N n c a ver hver tl (qs.take j) (ps.take a) (qs.drop (j + 1)) p A s.r s.l (tblA tl qs j) htxt hpt (by omega) rfl (by rw [← hs]) (by rw [← hs]) hfit hnu hm hl16 (by omega) (by omega) (by omega) hal w (Nat.le_refl _) hT (by rw [← hsplit]; exact hP)
    · intro T A tk n c B0 w hB hO hR
      obtain ⟨r, l, ok, hd⟩ : ∃ r l ok, dLast ver (tblA tl qs j) p = (r, l, ok) := ⟨_, _, _, rfl⟩
      by_cases hm : MayP ver r l
      · refine (hdoc T A tk n c B0 w hB hO hR r l ok 0 _ _ (.inl ⟨hm, rfl, rfl, rfl⟩) hd).mono fun e w' ⟨h1, h2⟩ => ⟨h1.2 ?_, h2⟩
        rintro ⟨_, h4, h5⟩
        rw [hd] at hlast
        exact hG ⟨r, l, hm, hlast.2.1, hlast.1, h5⟩
      · refine (hdoc T A tk n c B0 w hB hO hR r l ok 1 _ _ (.inr ⟨hm, rfl, rfl, rfl⟩) hd).mono fun e w' ⟨h1, h2⟩ => ⟨h1.2 ?_, h2⟩
        rintro ⟨_, h4, h5⟩
        omega

theorem found_ahead {ver : Int} {tl ps : List (List UInt8)} {a nx : Nat} {r : Rc} {l : List Dp} (h1 : a < nx) (h2 : nx ≤ ps.length) (h : Found ver tl ((ps.drop a).take (nx - a)) r l) : tahead (ps.drop a) = nx - a - 1 := by
  obtain ⟨hm, _, _, hpay⟩ := h
  have e : ps.drop a = freT ver tl r l ++ payB ver (tabT ver tl r l) r l :: (ps.drop a).drop (nx - a) := by
    have h3 : (freT ver tl r l ++ [payB ver (tabT ver tl r l) r l]) ++ (ps.drop a).drop (nx - a) = ps.drop a := by
      have h4 : freT ver tl r l ++ [payB ver (tabT ver tl r l) r l] = (ps.drop a).take (nx - a) := hpay
      rw [h4, List.take_append_drop]
    rw [List.append_assoc] at h3
    exact h3.symm
  rw [e, tahead_texts _ _ _ (fun t ht => (freT_txt hm t ht).1) (payB_txt ver _ r l)]
  have h5 := congrArg List.length hpay
  unfold payL at h5
  rw [List.length_append, List.length_take, List.length_drop] at h5
  simp only [List.length_singleton] at h5
  omega
/-- No record's payloads stand from there on. -/
def NoF (ver : Int) (tl ps : List (List UInt8)) (at_ : Int) : Prop := ∀ (a nx : Nat) (r : Rc) (l : List Dp), at_ = (a : Int) → a < nx → nx ≤ ps.length → ¬ Found ver tl ((ps.drop a).take (nx - a)) r l

/-- Both Gets, of any payloads, from any place on. -/
theorem gets_both (ver : Int) (tl ps : List (List UInt8)) (htl : tl.length ≤ 1000) (hts : ∀ s ∈ tl, s.length ≤ 3000) (hpl : ps.length ≤ 1000) (hps : ∀ s ∈ ps, s.length ≤ 3000) (at_ : Int) :
    (∃ e9 : Int, (e9 = 1 ∨ e9 = 3 ∨ e9 = 6 ∨ e9 = 11) ∧ PNo ver tl ps at_ e9 ∧ DNo ver tl ps at_ e9 ∧ NoF ver tl ps at_) ∨ ∃ (a j : Nat) (r : Rc) (l : List Dp), at_ = (a : Int) ∧ a + j + 1 ≤ ps.length ∧ Found ver tl ((ps.drop a).take (j + 1)) r l ∧ PYes ver tl ps a (a + j + 1) r l ∧ DYes ver tl ps a (a + j + 1) r l := by
  by_cases hv : 1 ≤ ver ∧ ver ≤ 3
  · by_cases h0 : at_ < 0
    · exact .inl ⟨1, .inl rfl, pno_of fun bt n c A w _ _ => get_low0 ver hv bt A n c at_ h0 w, dno_of fun T A tk n c B0 w _ _ _ _ => rget_low ver T A tl.length tk n c at_ hv h0 w, fun a nx r l e => by omega⟩
    · by_cases h1 : (ps.length : Int) < at_
      · exact .inl ⟨1, .inl rfl, pno_of fun bt n c A w hP _ => get_beyond ver hv bt A n c at_ (by rw [← hP.2.1]; exact h1) w, dno_of fun T A tk n c B0 w _ _ _ hn => rget_beyond ver T A tl.length tk n c at_ hv (by rw [← hn]; exact h1) w, fun a nx r l e h3 h4 => by omega⟩
      · obtain ⟨a, rfl⟩ : ∃ a : Nat, at_ = (a : Int) := ⟨at_.toNat, by omega⟩
        have hal : a ≤ ps.length := by omega
        have hle := tahead_le (ps.drop a)
        rw [List.length_drop] at hle
        by_cases hfull : tahead (ps.drop a) = ps.length - a
        · refine .inl ⟨6, .inr (.inr (.inl rfl)), pno_of fun bt n c A w hP hA => ?_, dno_of fun T A tk n c B0 w hB hO hR hn => ?_, fun a2 nx r l e h3 h4 hF => ?_⟩
          · have hn := hP.2.1
            by_cases hlt : a < n
            · exact get_txts ver hv bt w.heap.size a n c ps A hlt (by omega) (by omega) w (Nat.le_refl _) hP
            · obtain rfl : a = n := by omega
              exact get_last ver hv bt a c w.heap.size ps A hA (by omega) w (Nat.le_refl _) hP
          · exact rget_txts ver hv tl ps T A tk n c a B0 (by omega) (by omega) hps (by omega) w hB hO hR (by omega)
          · obtain rfl : a = a2 := by omega
            have := found_ahead h3 h4 hF
            omega
        · rcases gets_found ver hv tl ps htl hts hpl hps a (tahead (ps.drop a)) (by omega) rfl with ⟨h2, h3, hno⟩ | ⟨r, l, h2, h3, h4⟩
          · refine .inl ⟨3, .inr (.inl rfl), h2, h3, fun a2 nx r l e h5 h6 hF => hno ?_⟩
            obtain rfl : a = a2 := by omega
            have h7 := found_ahead h5 h6 hF
            exact ⟨r, l, by rw [show tahead (ps.drop a) + 1 = nx - a by omega]; exact hF⟩
          · exact .inr ⟨a, _, r, l, rfl, by omega, h2, h3, h4⟩
  · refine .inl ⟨11, .inr (.inr (.inr rfl)), pno_of fun bt n c A w _ _ => get_way ver hv _ A n c at_ w, dno_of fun T A tk n c B0 w _ _ _ _ => ?_, fun a nx r l _ _ _ hF => hv ⟨hF.1.1, hF.1.2.1⟩⟩
    by_cases h : ver < 1
    · exact rget_v0 ver T A tl.length tk n c at_ h w
    · exact rget_v4 ver T A tl.length tk n c at_ (by omega) w

end Go.Proofs.Ytidkahmjjknkmaa
