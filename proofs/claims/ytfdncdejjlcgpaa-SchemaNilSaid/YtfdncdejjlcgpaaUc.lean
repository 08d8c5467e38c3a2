/- The writer's fields. -/
import Derived.Test.YtfdncdejjlcgpaaUb
namespace Go.Proofs.Ytfdncdejjlcgpaa
open Go.RowKit

/-- A record's numbers are of 64 bits. -/
def Nums (r : Rc) (l : List Dp) : Prop := (0 ≤ r.rule ∧ r.rule < 18446744073709551616) ∧ (0 ≤ r.out ∧ r.out < 18446744073709551616) ∧ (0 ≤ r.time ∧ r.time < 18446744073709551616) ∧ ∀ d ∈ l, 0 ≤ d.hash ∧ d.hash < 18446744073709551616
theorem num_nat {z : Int} (h : 0 ≤ z ∧ z < 18446744073709551616) : z = ((z.toNat : Nat) : Int) ∧ z.toNat < top := by unfold top; omega

/-- How the fields are laid. -/
def fTag (tl : List (List UInt8)) (r : Rc) : List UInt8 := if r.tag = [] then vb 0 else vb (tnum tl r.tag + 1)
def fDep (ver : Int) (tl : List (List UInt8)) (d : Dp) : List UInt8 := depB ver tl d ++ vb d.hash.toNat
def fDeps (ver : Int) (tl : List (List UInt8)) (l : List Dp) : List UInt8 := vb l.length ++ l.flatMap (fDep ver tl)

theorem Wr.wide {w : World} {S S2 : Nat → Prop} {bw bt : Nat} {ver : Int} {out : List UInt8} (h : Wr w S bw ver bt out) (hs : ∀ k, S k → S2 k) : Wr w S2 bw ver bt out := by
  obtain ⟨h1, va, h2, h3, h4⟩ := h
  exact ⟨hs _ h1, va, h2, h3, fun k hk => hs k (h4 k hk)⟩
theorem Wr.lt {w : World} {S : Nat → Prop} {bw bt : Nat} {ver : Int} {out : List UInt8} (h : Wr w S bw ver bt out) : bw < w.heap.size := by
  obtain ⟨h1, va, h2, h3, h4⟩ := h
  rcases Nat.lt_or_ge bw w.heap.size with h | h
  · exact h
  · rw [Array.getElem?_eq_none h] at h2; cases h2
/-- Behind a block that is none of the writer's. -/
theorem wr_but {w : World} {S : Nat → Prop} {bw bt : Nat} {ver : Int} {out : List UInt8} (h : Wr w S bw ver bt out) (o : Obj) : Wr (w.alloc o) (fun k => S k ∧ k ≠ w.heap.size) bw ver bt out := by
  have hlt := h.lt
  obtain ⟨h1, va, h2, h3, h4⟩ := wr_alloc h o
  obtain ⟨_, va', h2', h3', _⟩ := h
  have e : va = va' := by
    have hh := (Below.heap_alloc w o bw hlt).trans h2'
    rw [h2] at hh
    simpa using hh
  subst e
  exact ⟨⟨h1, by omega⟩, va, h2, h3, fun k hk => ⟨h4 k hk, by have := own_lt h3' k hk; omega⟩⟩
theorem Turn.wide {w w' : World} {S S2 : Nat → Prop} (h : Turn S w w') (hs : ∀ k, S k → S2 k) : Turn S2 w w' := ⟨h.1, h.2.1, h.2.2.1, h.2.2.2.1, fun k hk hn => h.2.2.2.2 k hk (fun hk2 => hn (hs k hk2))⟩

/-- What the writer's calls may lean on: the table, the record, its deps, none of them in the writer's blocks. -/
structure Env (w : World) (S T : Nat → Prop) (bt N : Nat) (tl : List (List UInt8)) (br : Nat) (r : Rc) (A : Option Addr) (n c : Nat) (l : List Dp) (B : Nat) : Prop where
  tab : Tab w T bt N tl
  own : w.heap[br]? = some (.cells #[.int .i64 r.kind, .string (tx r.target), .int .u64 r.rule, .slice A n c, .int .u64 r.out, .int .u64 r.time, .string (tx r.tag)] 26 (0, 0))
  deps : Reads w B 3 A n (dps l)
  apart : ∀ k, T k → ¬ S k
  ner : ¬ S br
  up : ∀ k, S k → B ≤ k
  new : ∀ k, w.heap.size ≤ k → S k
  hB : B ≤ w.heap.size

theorem Env.lt {w : World} {S T : Nat → Prop} {bt N br n c B : Nat} {tl : List (List UInt8)} {r : Rc} {A : Option Addr} {l : List Dp} (h : Env w S T bt N tl br r A n c l B) : br < w.heap.size := by
  have h2 := h.own
  rcases Nat.lt_or_ge br w.heap.size with h | h
  · exact h
  · rw [Array.getElem?_eq_none h] at h2; cases h2
theorem Env.turn {w w' : World} {S T : Nat → Prop} {bt N br n c B : Nat} {tl : List (List UInt8)} {r : Rc} {A : Option Addr} {l : List Dp} (h : Env w S T bt N tl br r A n c l B) (ht : Turn S w w') : Env w' S T bt N tl br r A n c l B where
  tab := h.tab.turn ht (fun k hk _ => h.apart k hk)
  own := (ht.2.2.2.2 br h.lt h.ner).trans h.own
  deps := h.deps.below (ht.below h.up h.hB)
  apart := h.apart
  ner := h.ner
  up := h.up
  new := fun k hk => h.new k (Nat.le_trans ht.2.2.2.1 hk)
  hB := Nat.le_trans h.hB ht.2.2.2.1

/-- A call lays a field. -/
def Lays (fn : Nat) (S : Nat → Prop) (bw : Nat) (ver : Int) (bt br : Nat) (E : World → Prop) (f : List UInt8) : Prop :=
  ∀ (w : World) (out : List UInt8), E w → out.length ≤ 500000000 → Wr w S bw ver bt out → Calls Try.prog fn #[.pointer (some ⟨bw, 0, none⟩), .pointer (some ⟨br, 0, none⟩)] w fun e w' => e = .returned (.tuple #[]) ∧ Wr w' S bw ver bt (out ++ f) ∧ Turn S w w'

section
variable (S T : Nat → Prop) (bw bt N br n c B : Nat) (ver : Int) (tl : List (List UInt8)) (r : Rc) (A : Option Addr) (l : List Dp) (ht : tl.length ≤ 1073741824) (hn : Nums r l)

set_option maxRecDepth 100000 in
set_option maxHeartbeats 400000 in
include ht in
theorem lays_target (hs : r.target.length ≤ 64) : Lays 47 S bw ver bt br (fun w => Env w S T bt N tl br r A n c l B) (nmB ver tl r.target) := by
  intro w out hE hbig h
  have q1 := at_cell (i := 1) hE.own rfl
  have HC := Lib.hid (wname_any S T bw bt N ver out r.target tl hs ht (by omega) w hE.new h hE.tab)
  clear hE h
  go_enter Try.func47, Try.ntmps47
  go_wp2_with (go_at_call 72; refine HC.out.mono ?_; rintro e w3 ⟨rfl, hw3, ht3⟩)
  go_end0
  exact ⟨rfl, hw3, ht3⟩

set_option maxRecDepth 100000 in
set_option maxHeartbeats 400000 in
include hn in
theorem lays_rule : Lays 48 S bw ver bt br (fun w => Env w S T bt N tl br r A n c l B) (vb r.rule.toNat) := by
  intro w out hE hbig h
  have q2 := at_cell (i := 2) hE.own rfl
  have HC := Lib.hid (number_w S bw bt r.rule.toNat ver out (num_nat hn.1).2 (by omega) w hE.new h)
  clear hE h
  have e := (num_nat hn.1).1
  rw [← e] at HC
  clear e
  go_enter Try.func48, Try.ntmps48
  go_wp2_with (go_at_call 73; refine HC.out.mono ?_; rintro e w3 ⟨rfl, hw3, ht3⟩)
  go_end0
  exact ⟨rfl, hw3, ht3⟩

set_option maxRecDepth 100000 in
set_option maxHeartbeats 400000 in
include hn in
theorem lays_out : Lays 50 S bw ver bt br (fun w => Env w S T bt N tl br r A n c l B) (vb r.out.toNat) := by
  intro w out hE hbig h
  have q4 := at_cell (i := 4) hE.own rfl
  have HC := Lib.hid (number_w S bw bt r.out.toNat ver out (num_nat hn.2.1).2 (by omega) w hE.new h)
  clear hE h
  have e := (num_nat hn.2.1).1
  rw [← e] at HC
  clear e
  go_enter Try.func50, Try.ntmps50
  go_wp2_with (go_at_call 73; refine HC.out.mono ?_; rintro e w3 ⟨rfl, hw3, ht3⟩)
  go_end0
  exact ⟨rfl, hw3, ht3⟩

set_option maxRecDepth 100000 in
set_option maxHeartbeats 400000 in
include hn in
theorem lays_when : Lays 51 S bw ver bt br (fun w => Env w S T bt N tl br r A n c l B) (vb r.time.toNat) := by
  intro w out hE hbig h
  have q5 := at_cell (i := 5) hE.own rfl
  have HC := Lib.hid (number_w S bw bt r.time.toNat ver out (num_nat hn.2.2.1).2 (by omega) w hE.new h)
  clear hE h
  have e := (num_nat hn.2.2.1).1
  rw [← e] at HC
  clear e
  go_enter Try.func51, Try.ntmps51
  go_wp2_with (go_at_call 73; refine HC.out.mono ?_; rintro e w3 ⟨rfl, hw3, ht3⟩)
  go_end0
  exact ⟨rfl, hw3, ht3⟩

set_option maxRecDepth 100000 in
set_option maxHeartbeats 400000 in
include ht in
theorem lays_tag (hs : r.tag.length ≤ 64) : Lays 52 S bw ver bt br (fun w => Env w S T bt N tl br r A n c l B) (fTag tl r) := by
  intro w out hE hbig h
  have q6 := at_cell (i := 6) hE.own rfl
  by_cases hz : r.tag = []
  · have HC := Lib.hid (number_w S bw bt 0 ver out (small_vb (by omega)) (by omega) w hE.new h)
    unfold fTag
    rw [if_pos hz]
    rw [hz] at q6
    have d0 : (tx []).toList.isEmpty = true := by rw [tx_toList]; rfl
    clear hE h hz
    go_enter Try.func52, Try.ntmps52
    go_wp2_with (go_at_call 73; refine HC.out.mono ?_; rintro e w3 ⟨rfl, hw3, ht3⟩)
    first | go_end0 | (refine bodyPost_ret (results_none rfl _ _ _) rfl ?_)
    exact ⟨rfl, hw3, ht3⟩
  · have HI := Lib.hid (wid_any S T bw bt N ver out r.tag tl hs w h hE.tab)
    have hle := tnum_le (s := r.tag) ht
    have HC := Lib.hid (number_w S bw bt (tnum tl r.tag + 1) ver out (small_vb (by omega)) (by omega) w hE.new h)
    unfold fTag
    rw [if_neg hz]
    obtain ⟨m, hm⟩ : ∃ m, m = tnum tl r.tag := ⟨_, rfl⟩
    rw [← hm] at HI HC hle ⊢
    clear hm
    push_cast at HC
    have d0 : (tx r.tag).toList.isEmpty = false := by
      rw [tx_toList]
      cases hr : r.tag with
      | nil => exact absurd hr hz
      | cons a b => rfl
    obtain ⟨x, hx⟩ : ∃ x, x = tx r.tag := ⟨_, rfl⟩
    rw [← hx] at q6 HI d0
    clear hE h hz hx
    go_enter Try.func52, Try.ntmps52
    go_wp2_with (first
      | (go_at_call 73; refine HC.out.mono ?_; rintro e w3 ⟨rfl, hw3, ht3⟩)
      | (go_at_call 75; refine HI.out.mono ?_; rintro e w2 ⟨rfl, rfl⟩))
    first | go_end0 | (refine bodyPost_ret (results_none rfl _ _ _) rfl ?_)
    exact ⟨rfl, hw3, ht3⟩

theorem fDep_len {d : Dp} (hd : d.name.length ≤ 64) (hh : 0 ≤ d.hash ∧ d.hash < 18446744073709551616) (ht : tl.length ≤ 1073741824) : (fDep ver tl d).length ≤ 84 := by
  unfold fDep
  rw [List.length_append]
  have h1 := depB_len (ver := ver) hd ht
  have h2 := vb_len _ (num_nat hh).2
  omega
theorem fDeps_take {m : Nat} (hd : ∀ d ∈ l, d.name.length ≤ 64) (hh : ∀ d ∈ l, 0 ≤ d.hash ∧ d.hash < 18446744073709551616) (ht : tl.length ≤ 1073741824) : ((l.take m).flatMap (fDep ver tl)).length ≤ 84 * m := by
  induction m with
  | zero => simp
  | succ m ih =>
    rw [List.take_add_one, List.flatMap_append, List.length_append]
    rcases hx : l[m]? with _ | x
    · simp only [Option.toList_none, List.flatMap_nil, List.length_nil]; omega
    · have := fDep_len ver tl (hd x (List.mem_of_getElem? hx)) (hh x (List.mem_of_getElem? hx)) ht
      simp only [Option.toList_some, List.flatMap_cons, List.flatMap_nil, List.append_nil]; omega

def DpRel (S : Nat → Prop) (bw : Nat) (ver : Int) (bt : Nat) (tl : List (List UInt8)) (l : List Dp) (n : Nat) (out : List UInt8) (w : World) (idx : Value) (wr : World) : Prop :=
  ∃ i : Nat, i ≤ n ∧ idx = .int .i64 (i : Int) ∧ Wr wr S bw ver bt (out ++ (vb l.length ++ (l.take i).flatMap (fDep ver tl))) ∧ Turn S w wr

set_option maxRecDepth 100000 in
set_option maxHeartbeats 1000000 in
include ht hn in
theorem lays_deps (hd : ∀ d ∈ l, d.name.length ≤ 64) (hnn : n ≤ 1000) : Lays 49 S bw ver bt br (fun w => Env w S T bt N tl br r A n c l B) (fDeps ver tl l) := by
  intro w out hE hbig h
  have HL : Hid (l.length = n) := by have := hE.deps.1; rw [dps_len] at this; show _ = _; omega
  have q3 := at_cell (i := 3) hE.own rfl
  have HC := Lib.hid (number_w S bw bt l.length ver out (small_vb (by have := HL.out; omega)) (by omega) w hE.new h)
  rw [HL.out] at HC
  have HE := Lib.hid hE
  have HBIG := Lib.hid hbig
  have HD := Lib.hid hd
  have HH := Lib.hid hn.2.2.2
  have HT := Lib.hid ht
  clear hE h hd hn ht
  go_enter Try.func49, Try.ntmps49
  go_wp2_with (go_at_call 73; refine HC.out.mono ?_; rintro e w3 ⟨rfl, hw3, ht3⟩; have HW3 := Lib.hid hw3; have HT3 := Lib.hid ht3; have p3 := at_cell (i := 3) (HE.out.turn ht3).own rfl; clear hw3 ht3)
  go_loopw [19] (fun idx wr => DpRel S bw ver bt tl l n out w idx wr) (fun idx wr => n - (intOf idx).toNat)
  case atStart => exact ⟨0, by omega, rfl, by rw [HL.out]; simpa using HW3.out, HT3.out⟩
  case round =>
    obtain ⟨i, hi, rfl, hwr, htr⟩ := hrel
    by_cases hlt : i < n
    · obtain ⟨x, hx⟩ : ∃ x, l[i]? = some x := ⟨_, List.getElem?_eq_getElem (by rw [HL.out]; exact hlt)⟩
      have hm := List.mem_of_getElem? hx
      have hxn := HD.out x hm
      have hxh := HH.out x hm
      have hEr := HE.out.turn htr
      obtain ⟨ad, rfl, _, hcx⟩ := hEr.deps.2 (by omega)
      obtain ⟨x0, x1, x2⟩ := dps_at l i x hx
      have k0 := hcx _ _ x0
      have k1 := hcx _ _ x1
      have k2 := hcx _ _ x2
      rw [add_one] at k1
      rw [add_two] at k2
      unfold rsv at k0
      have htake : (l.take (i + 1)).flatMap (fDep ver tl) = (l.take i).flatMap (fDep ver tl) ++ fDep ver tl x := by
        rw [List.take_add_one, hx, List.flatMap_append]; simp
      have HTAKE := Lib.hid htake
      have hlen := fDeps_take ver tl l (m := i) HD.out HH.out HT.out
      have hvl := vb_len l.length (small_vb (by have := HL.out; omega))
      obtain ⟨xn, xh, xo⟩ := x
      simp only at k0 k1 k2 hxn hxh
      have hW5 := wr_but hwr (.cells #[.string (tx xn), .int .u64 xh, .bool xo] 56)
      have hT5 : Turn (fun k => S k ∧ k ≠ wr.heap.size) wr (wr.alloc (.cells #[.string (tx xn), .int .u64 xh, .bool xo] 56)) := Turn.of_below ((Below.refl _ wr).alloc (Nat.le_refl _) _)
      have hS5 : ∀ k, (wr.alloc (.cells #[.string (tx xn), .int .u64 xh, .bool xo] 56)).heap.size ≤ k → S k ∧ k ≠ wr.heap.size := fun k hk => ⟨hEr.new k (by simp at hk; omega), by simp at hk; omega⟩
      have HDEP := Lib.hid (dep_any (fun k => S k ∧ k ≠ wr.heap.size) T bw bt N ver _ ⟨xn, xh, xo⟩ tl hxn HT.out (by have := HBIG.out; simp only [List.length_append]; omega) _ hS5 hW5 (tab_alloc hEr.tab _))
      have hbl := depB_len (ver := ver) (d := ⟨xn, xh, xo⟩) hxn HT.out
      have HNUM : Hid (∀ W, (∀ k, W.heap.size ≤ k → S k) → Wr W S bw ver bt (out ++ (vb l.length ++ (l.take i).flatMap (fDep ver tl)) ++ depB ver tl ⟨xn, xh, xo⟩) → Calls Try.prog 73 #[.pointer (some ⟨bw, 0, none⟩), .int .u64 xh] W fun e w' => e = .returned (.tuple #[]) ∧ Wr w' S bw ver bt (out ++ (vb l.length ++ (l.take i).flatMap (fDep ver tl)) ++ depB ver tl ⟨xn, xh, xo⟩ ++ vb xh.toNat) ∧ Turn S W w') := fun W hSW hWW => by
        have h1 := number_w S bw bt xh.toNat ver _ (num_nat hxh).2 (by have := HBIG.out; simp only [List.length_append]; omega) W hSW hWW
        rw [← (num_nat hxh).1] at h1
        exact h1
      have HBOX := Lib.hid (one_new wr (.cells #[.string (tx xn), .int .u64 xh, .bool xo] 56))
      have b0 := at_cell (i := 0) HBOX.out rfl
      have b1 := at_cell (i := 1) HBOX.out rfl
      have b2 := at_cell (i := 2) HBOX.out rfl
      have HTR := Lib.hid htr
      have HER := Lib.hid hEr
      have HT5 := Lib.hid hT5
      have hi0 : (0 : Int) ≤ (i : Int) := by omega
      have hi1 : (i : Int) < (n : Int) := by omega
      clear hcx x0 x1 x2 hx hm hEr hwr htr hW5 hS5 htake hxn hxh hlen hvl hbl hT5
      go_wp2_with (first
        | (go_at_call 73; refine (HNUM.out _ HNEW.out HW6.out).mono ?_; rintro e w7 ⟨rfl, hw7, ht7⟩; have HW7 := Lib.hid hw7; have HT7 := Lib.hid (HT6.out.trans ht7 (fun _ _ h => h)); clear hw7 ht7)
        | (go_at_call 74; refine HDEP.out.mono ?_; rintro e w6 ⟨rfl, hw6, ht6⟩; have j1 := at_cell (i := 1) ((ht6.2.2.2.2 wr.heap.size (by simp) (fun h => h.2 rfl)).trans HBOX.out) rfl; have HW6 := Lib.hid (hw6.wide (fun k hk => hk.1)); have HT6 := Lib.hid (HTR.out.trans ((HT5.out.trans ht6 (fun _ _ h => h)).wide (fun k hk => hk.1)) (fun _ _ h => h)); have HNEW := Lib.hid (HE.out.turn HT6.out).new; clear hw6 ht6))
      exact ⟨⟨i + 1, by omega, by go_num, by rw [HTAKE.out]; simpa [fDep, List.append_assoc] using HW7.out, HT7.out⟩, by simp [intOf]; omega⟩
    · obtain rfl : i = n := by omega
      rw [List.take_of_length_le (by rw [HL.out]; omega)] at hwr
      have HWR := Lib.hid hwr
      have HTR := Lib.hid htr
      clear hwr htr
      go_wp2
      go_end0
      exact ⟨rfl, HWR.out, HTR.out⟩

end

end Go.Proofs.Ytfdncdejjlcgpaa
