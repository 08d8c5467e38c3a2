/- Texts of one proof, one behind the other. -/
import Derived.Test.YtidkahmjjknkmaaMh4

/- The writer's id, name, dep. -/
namespace Go.Proofs.Ytidkahmjjknkmaa
open Go.RowKit

/-- How a name is laid. -/
def nmB (ver : Int) (tl : List (List UInt8)) (s : List UInt8) : List UInt8 := if ver < 2 then blob s else vb (tnum tl s)
/-- How a dep's name is laid, and whether it is Order. -/
def depB (ver : Int) (tl : List (List UInt8)) (d : Dp) : List UInt8 := if ver < 3 then nmB ver tl d.name else vb (2 * tnum tl d.name + if d.order then 1 else 0)

theorem tnum_le {tl : List (List UInt8)} {s : List UInt8} (h : tl.length ≤ 1073741824) : tnum tl s ≤ 1073741824 := by
  by_cases hs : s ∈ tl
  · have := tnum_lt hs; omega
  · unfold tnum; rw [if_neg hs]; omega
theorem small_vb {n : Nat} (h : n ≤ 4000000000) : n < top := by unfold top; omega
theorem blob64 {s : List UInt8} (h : s.length ≤ 64) : (blob s).length ≤ 74 := by
  rw [blob_len]
  have := vb_len s.length (small_vb (by omega))
  omega
theorem nmB_len {ver : Int} {tl : List (List UInt8)} {s : List UInt8} (h : s.length ≤ 64) (ht : tl.length ≤ 1073741824) : (nmB ver tl s).length ≤ 74 := by
  unfold nmB
  split
  · exact blob64 h
  · have := vb_len (tnum tl s) (small_vb (by have := tnum_le (s := s) ht; omega)); omega
theorem depB_len {ver : Int} {tl : List (List UInt8)} {d : Dp} (h : d.name.length ≤ 64) (ht : tl.length ≤ 1073741824) : (depB ver tl d).length ≤ 74 := by
  unfold depB
  split
  · exact nmB_len h ht
  · have := vb_len (2 * tnum tl d.name + if d.order then 1 else 0) (small_vb (by have := tnum_le (s := d.name) ht; split <;> omega)); omega

set_option maxRecDepth 100000 in
set_option maxHeartbeats 400000 in
theorem wid_any (S T : Nat → Prop) (bw bt N : Nat) (ver : Int) (out s : List UInt8) (tl : List (List UInt8)) (hs : s.length ≤ 64) (w : World) (h : Wr w S bw ver bt out) (hT : Tab w T bt N tl) :
    Calls Try.prog 74 #[.pointer (some ⟨bw, 0, none⟩), .string (tx s)] w fun e w' => e = .returned (.int .u64 (tnum tl s : Int)) ∧ w = w' := by
  obtain ⟨_, va, hh, _, _⟩ := h
  have q1 := at_cell (i := 1) hh rfl
  have HF := Lib.hid (Find_any T bt N tl s (by unfold maxLen; omega) w hT)
  unfold tsv at HF
  clear hh hT
  go_enter Try.func74, Try.ntmps74
  go_wp2_with (go_at_call 87; refine HF.out.mono ?_; rintro e w2 ⟨rfl, rfl⟩)
  go_ret
  exact ⟨rfl, rfl⟩

set_option maxRecDepth 100000 in
set_option maxHeartbeats 400000 in
theorem name_two (S T : Nat → Prop) (bw bt N : Nat) (ver : Int) (hv : ¬ ver < 2) (out s : List UInt8) (tl : List (List UInt8)) (hs : s.length ≤ 64) (ht : tl.length ≤ 1073741824) (hbig : out.length ≤ 1000000000) (w : World) (hS : ∀ k, w.heap.size ≤ k → S k) (h : Wr w S bw ver bt out) (hT : Tab w T bt N tl) :
    Calls Try.prog 71 #[.pointer (some ⟨bw, 0, none⟩), .string (tx s)] w fun e w' => e = .returned (.tuple #[]) ∧ Wr w' S bw ver bt (out ++ vb (tnum tl s)) ∧ Turn S w w' := by
  have HI := Lib.hid (wid_any S T bw bt N ver out s tl hs w h hT)
  have HN := Lib.hid (number_w S bw bt (tnum tl s) ver out (small_vb (by have := tnum_le (s := s) ht; omega)) hbig w hS h)
  obtain ⟨_, va, hh, _, _⟩ := h
  have q0 := at_cell (i := 0) hh rfl
  have d1 : decide (ver < 2) = false := decide_eq_false hv
  clear hh hT hS hv
  go_enter Try.func71, Try.ntmps71
  go_wp2_with (first
    | (go_at_call 72; refine HN.out.mono ?_; rintro e w3 ⟨rfl, hw3, ht3⟩)
    | (go_at_call 74; refine HI.out.mono ?_; rintro e w2 ⟨rfl, rfl⟩))
  go_end0
  exact ⟨rfl, hw3, ht3⟩

theorem wname_any (S T : Nat → Prop) (bw bt N : Nat) (ver : Int) (out s : List UInt8) (tl : List (List UInt8)) (hs : s.length ≤ 64) (ht : tl.length ≤ 1073741824) (hbig : out.length ≤ 1000000000) (w : World) (hS : ∀ k, w.heap.size ≤ k → S k) (h : Wr w S bw ver bt out) (hT : Tab w T bt N tl) :
    Calls Try.prog 71 #[.pointer (some ⟨bw, 0, none⟩), .string (tx s)] w fun e w' => e = .returned (.tuple #[]) ∧ Wr w' S bw ver bt (out ++ nmB ver tl s) ∧ Turn S w w' := by
  unfold nmB
  by_cases hv : ver < 2
  · rw [if_pos hv]
    exact name_one S bw bt s ver hv out (by have := blob64 hs; omega) hbig w hS h
  · rw [if_neg hv]
    exact name_two S T bw bt N ver hv out s tl hs ht hbig w hS h hT

/-- A world in which a block has been laid. -/
theorem wr_alloc {w : World} {S : Nat → Prop} {bw bt : Nat} {ver : Int} {out : List UInt8} (h : Wr w S bw ver bt out) (o : Obj) : Wr (w.alloc o) S bw ver bt out := by
  obtain ⟨h1, va, h2, h3, h4⟩ := h
  refine ⟨h1, va, (Below.heap_alloc w o bw ?_).trans h2, World.ownsRow.alloc h3 o, h4⟩
  rcases Nat.lt_or_ge bw w.heap.size with h | h
  · exact h
  · rw [Array.getElem?_eq_none h] at h2; cases h2
theorem tab_alloc {w : World} {T : Nat → Prop} {b N : Nat} {l : List (List UInt8)} (h : Tab w T b N l) (o : Obj) : Tab (w.alloc o) T b N l := h.keep fun k _ hk => Below.heap_alloc w o k hk

set_option maxRecDepth 100000 in
set_option maxHeartbeats 400000 in
theorem dep_less (S T : Nat → Prop) (bw bt N : Nat) (ver : Int) (hv : ver < 3) (out : List UInt8) (d : Dp) (tl : List (List UInt8)) (hs : d.name.length ≤ 64) (ht : tl.length ≤ 1073741824) (hbig : out.length ≤ 1000000000) (w : World) (hS : ∀ k, w.heap.size ≤ k → S k) (h : Wr w S bw ver bt out) (hT : Tab w T bt N tl) :
    Calls Try.prog 73 #[.pointer (some ⟨bw, 0, none⟩), .agg #[.string (tx d.name), .int .u64 d.hash, .bool d.order]] w fun e w' => e = .returned (.tuple #[]) ∧ Wr w' S bw ver bt (out ++ nmB ver tl d.name) ∧ Turn S w w' := by
  have hS2 : ∀ k, (w.alloc (.cells #[.string (tx d.name), .int .u64 d.hash, .bool d.order] 55)).heap.size ≤ k → S k := fun k hk => hS k (by simp at hk; omega)
  have HA := Lib.hid (one_new w (.cells #[.string (tx d.name), .int .u64 d.hash, .bool d.order] 55))
  have HTU : Hid (Turn S w (w.alloc (.cells #[.string (tx d.name), .int .u64 d.hash, .bool d.order] 55))) := Turn.of_below ((Below.refl _ w).alloc (Nat.le_refl _) _)
  have hw2 := wr_alloc h (.cells #[.string (tx d.name), .int .u64 d.hash, .bool d.order] 55)
  have HN := Lib.hid (wname_any S T bw bt N ver out d.name tl hs ht hbig _ hS2 hw2 (tab_alloc hT _))
  have d1 : decide (ver < 3) = true := decide_eq_true hv
  obtain ⟨_, va, hh, _, _⟩ := hw2
  have q0 := at_cell (i := 0) hh rfl
  have e0 := at_cell (i := 0) HA.out rfl
  have e1 := at_cell (i := 1) HA.out rfl
  have e2 := at_cell (i := 2) HA.out rfl
  clear hh hT hS hS2 h
  go_enter Try.func73, Try.ntmps73
  go_wp2_with (go_at_call 71; refine HN.out.mono ?_; rintro e w3 ⟨rfl, hw3, ht3⟩)
  first | go_end0 | (refine bodyPost_ret (results_none rfl _ _ _) rfl ?_)
  exact ⟨rfl, hw3, HTU.out.trans ht3 (fun _ _ h => h)⟩

set_option maxRecDepth 100000 in
set_option maxHeartbeats 400000 in
theorem dep_true (S T : Nat → Prop) (bw bt N : Nat) (ver : Int) (hv : ¬ ver < 3) (out : List UInt8) (dn : List UInt8) (dh : Int) (tl : List (List UInt8)) (hs : dn.length ≤ 64) (ht : tl.length ≤ 1073741824) (hbig : out.length ≤ 1000000000) (w : World) (hS : ∀ k, w.heap.size ≤ k → S k) (h : Wr w S bw ver bt out) (hT : Tab w T bt N tl) :
    Calls Try.prog 73 #[.pointer (some ⟨bw, 0, none⟩), .agg #[.string (tx dn), .int .u64 dh, .bool true]] w fun e w' => e = .returned (.tuple #[]) ∧ Wr w' S bw ver bt (out ++ vb (2 * tnum tl dn + 1)) ∧ Turn S w w' := by
  have hS2 : ∀ k, (w.alloc (.cells #[.string (tx dn), .int .u64 dh, .bool true] 55)).heap.size ≤ k → S k := fun k hk => hS k (by simp at hk; omega)
  have HA := Lib.hid (one_new w (.cells #[.string (tx dn), .int .u64 dh, .bool true] 55))
  have HTU : Hid (Turn S w (w.alloc (.cells #[.string (tx dn), .int .u64 dh, .bool true] 55))) := Turn.of_below ((Below.refl _ w).alloc (Nat.le_refl _) _)
  have hw2 := wr_alloc h (.cells #[.string (tx dn), .int .u64 dh, .bool true] 55)
  have HI := Lib.hid (wid_any S T bw bt N ver out dn tl hs _ hw2 (tab_alloc hT _))
  have hle := tnum_le (s := dn) ht
  have HN := Lib.hid (number_w S bw bt (2 * tnum tl dn + 1) ver out (small_vb (by omega)) hbig _ hS2 hw2)
  obtain ⟨m, hm⟩ : ∃ m, m = tnum tl dn := ⟨_, rfl⟩
  rw [← hm] at HI HN hle ⊢
  clear hm
  have d1 : decide (ver < 3) = false := decide_eq_false hv
  push_cast at HN
  obtain ⟨_, va, hh, _, _⟩ := hw2
  have q0 := at_cell (i := 0) hh rfl
  have e0 := at_cell (i := 0) HA.out rfl
  have e1 := at_cell (i := 1) HA.out rfl
  have e2 := at_cell (i := 2) HA.out rfl
  clear hh hT hS hS2 h
  go_enter Try.func73, Try.ntmps73
  go_wp2_with (first
    | (go_at_call 72; refine HN.out.mono ?_; rintro e w3 ⟨rfl, hw3, ht3⟩)
    | (go_at_call 74; refine HI.out.mono ?_; rintro e w2 ⟨rfl, rfl⟩))
  first | go_end0 | (refine bodyPost_ret (results_none rfl _ _ _) rfl ?_)
  exact ⟨rfl, hw3, HTU.out.trans ht3 (fun _ _ h => h)⟩

set_option maxRecDepth 100000 in
set_option maxHeartbeats 400000 in
theorem dep_false (S T : Nat → Prop) (bw bt N : Nat) (ver : Int) (hv : ¬ ver < 3) (out : List UInt8) (dn : List UInt8) (dh : Int) (tl : List (List UInt8)) (hs : dn.length ≤ 64) (ht : tl.length ≤ 1073741824) (hbig : out.length ≤ 1000000000) (w : World) (hS : ∀ k, w.heap.size ≤ k → S k) (h : Wr w S bw ver bt out) (hT : Tab w T bt N tl) :
    Calls Try.prog 73 #[.pointer (some ⟨bw, 0, none⟩), .agg #[.string (tx dn), .int .u64 dh, .bool false]] w fun e w' => e = .returned (.tuple #[]) ∧ Wr w' S bw ver bt (out ++ vb (2 * tnum tl dn)) ∧ Turn S w w' := by
  have hS2 : ∀ k, (w.alloc (.cells #[.string (tx dn), .int .u64 dh, .bool false] 55)).heap.size ≤ k → S k := fun k hk => hS k (by simp at hk; omega)
  have HA := Lib.hid (one_new w (.cells #[.string (tx dn), .int .u64 dh, .bool false] 55))
  have HTU : Hid (Turn S w (w.alloc (.cells #[.string (tx dn), .int .u64 dh, .bool false] 55))) := Turn.of_below ((Below.refl _ w).alloc (Nat.le_refl _) _)
  have hw2 := wr_alloc h (.cells #[.string (tx dn), .int .u64 dh, .bool false] 55)
  have HI := Lib.hid (wid_any S T bw bt N ver out dn tl hs _ hw2 (tab_alloc hT _))
  have hle := tnum_le (s := dn) ht
  have HN := Lib.hid (number_w S bw bt (2 * tnum tl dn) ver out (small_vb (by omega)) hbig _ hS2 hw2)
  obtain ⟨m, hm⟩ : ∃ m, m = tnum tl dn := ⟨_, rfl⟩
  rw [← hm] at HI HN hle ⊢
  clear hm
  have d1 : decide (ver < 3) = false := decide_eq_false hv
  push_cast at HN
  obtain ⟨_, va, hh, _, _⟩ := hw2
  have q0 := at_cell (i := 0) hh rfl
  have e0 := at_cell (i := 0) HA.out rfl
  have e1 := at_cell (i := 1) HA.out rfl
  have e2 := at_cell (i := 2) HA.out rfl
  clear hh hT hS hS2 h
  go_enter Try.func73, Try.ntmps73
  go_wp2_with (first
    | (go_at_call 72; refine HN.out.mono ?_; rintro e w3 ⟨rfl, hw3, ht3⟩)
    | (go_at_call 74; refine HI.out.mono ?_; rintro e w2 ⟨rfl, rfl⟩))
  first | go_end0 | (refine bodyPost_ret (results_none rfl _ _ _) rfl ?_)
  exact ⟨rfl, hw3, HTU.out.trans ht3 (fun _ _ h => h)⟩

theorem dep_any (S T : Nat → Prop) (bw bt N : Nat) (ver : Int) (out : List UInt8) (d : Dp) (tl : List (List UInt8)) (hs : d.name.length ≤ 64) (ht : tl.length ≤ 1073741824) (hbig : out.length ≤ 1000000000) (w : World) (hS : ∀ k, w.heap.size ≤ k → S k) (h : Wr w S bw ver bt out) (hT : Tab w T bt N tl) :
    Calls Try.prog 73 #[.pointer (some ⟨bw, 0, none⟩), .agg #[.string (tx d.name), .int .u64 d.hash, .bool d.order]] w fun e w' => e = .returned (.tuple #[]) ∧ Wr w' S bw ver bt (out ++ depB ver tl d) ∧ Turn S w w' := by
  unfold depB
  by_cases hv : ver < 3
  · rw [if_pos hv]
    exact dep_less S T bw bt N ver hv out d tl hs ht hbig w hS h hT
  · rw [if_neg hv]
    obtain ⟨dn, dh, dor⟩ := d
    cases dor
    · exact dep_false S T bw bt N ver hv out dn dh tl hs ht hbig w hS h hT
    · exact dep_true S T bw bt N ver hv out dn dh tl hs ht hbig w hS h hT

end Go.Proofs.Ytidkahmjjknkmaa

/- The writer's fields. -/
namespace Go.Proofs.Ytidkahmjjknkmaa
open Go.RowKit

/-- A record's numbers are of 64 bits. -/
def Nums (r : Rc) (l : List Dp) : Prop := (0 ≤ r.rule ∧ r.rule < 18446744073709551616) ∧ (0 ≤ r.out ∧ r.out < 18446744073709551616) ∧ (0 ≤ r.time ∧ r.time < 18446744073709551616) ∧ ∀ d ∈ l, 0 ≤ d.hash ∧ d.hash < 18446744073709551616
theorem num_nat {z : Int} (h : 0 ≤ z ∧ z < 18446744073709551616) : z = ((z.toNat : Nat) : Int) ∧ z.toNat < top := by unfold top; omega

/-- How the fields are laid. -/
def fTag (tl : List (List UInt8)) (r : Rc) : List UInt8 := if r.tag = [] then vb 0 else vb (tnum tl r.tag + 1)
def fDep (ver : Int) (tl : List (List UInt8)) (d : Dp) : List UInt8 := depB ver tl d ++ vb d.hash.toNat
def fDeps (ver : Int) (tl : List (List UInt8)) (l : List Dp) : List UInt8 := vb l.length ++ l.flatMap (fDep ver tl)

theorem Wr.wide {w : World} {S S2 : Nat → Prop} {bw bt : Nat} {ver : Int} {out : List UInt8} (h : Wr w S bw ver bt out) (hs : ∀ k, S k → S2 k) : Wr w S2 bw ver bt out := by
  obtain ⟨h1, va, h2, h3, h4⟩ := h
  exact ⟨hs _ h1, va, h2, h3, fun k hk => hs k (h4 k hk)⟩
theorem Wr.lt {w : World} {S : Nat → Prop} {bw bt : Nat} {ver : Int} {out : List UInt8} (h : Wr w S bw ver bt out) : bw < w.heap.size := by
  obtain ⟨h1, va, h2, h3, h4⟩ := h
  rcases Nat.lt_or_ge bw w.heap.size with h | h
  · exact h
  · rw [Array.getElem?_eq_none h] at h2; cases h2
/-- Behind a block that is none of the writer's. -/
theorem wr_but {w : World} {S : Nat → Prop} {bw bt : Nat} {ver : Int} {out : List UInt8} (h : Wr w S bw ver bt out) (o : Obj) : Wr (w.alloc o) (fun k => S k ∧ k ≠ w.heap.size) bw ver bt out := by
  have hlt := h.lt
  obtain ⟨h1, va, h2, h3, h4⟩ := wr_alloc h o
  obtain ⟨_, va', h2', h3', _⟩ := h
  have e : va = va' := by
    have hh := (Below.heap_alloc w o bw hlt).trans h2'
    rw [h2] at hh
    simpa using hh
  subst e
  exact ⟨⟨h1, by omega⟩, va, h2, h3, fun k hk => ⟨h4 k hk, by have := own_lt h3' k hk; omega⟩⟩
theorem Turn.wide {w w' : World} {S S2 : Nat → Prop} (h : Turn S w w') (hs : ∀ k, S k → S2 k) : Turn S2 w w' := ⟨h.1, h.2.1, h.2.2.1, h.2.2.2.1, fun k hk hn => h.2.2.2.2 k hk (fun hk2 => hn (hs k hk2))⟩

/-- What the writer's calls may lean on: the table, the record, its deps, none of them in the writer's blocks. -/
structure Env (w : World) (S T : Nat → Prop) (bt N : Nat) (tl : List (List UInt8)) (br : Nat) (r : Rc) (A : Option Addr) (n c : Nat) (l : List Dp) (B : Nat) : Prop where
  tab : Tab w T bt N tl
  own : w.heap[br]? = some (.cells #[.int .i64 r.kind, .string (tx r.target), .int .u64 r.rule, .slice A n c, .int .u64 r.out, .int .u64 r.time, .string (tx r.tag)] 26 (0, 0))
  deps : Reads w B 3 A n (dps l)
  apart : ∀ k, T k → ¬ S k
  ner : ¬ S br
  up : ∀ k, S k → B ≤ k
  new : ∀ k, w.heap.size ≤ k → S k
  hB : B ≤ w.heap.size

theorem Env.lt {w : World} {S T : Nat → Prop} {bt N br n c B : Nat} {tl : List (List UInt8)} {r : Rc} {A : Option Addr} {l : List Dp} (h : Env w S T bt N tl br r A n c l B) : br < w.heap.size := by
  have h2 := h.own
  rcases Nat.lt_or_ge br w.heap.size with h | h
  · exact h
  · rw [Array.getElem?_eq_none h] at h2; cases h2
theorem Env.turn {w w' : World} {S T : Nat → Prop} {bt N br n c B : Nat} {tl : List (List UInt8)} {r : Rc} {A : Option Addr} {l : List Dp} (h : Env w S T bt N tl br r A n c l B) (ht : Turn S w w') : Env w' S T bt N tl br r A n c l B where
  tab := h.tab.turn ht (fun k hk _ => h.apart k hk)
  own := (ht.2.2.2.2 br h.lt h.ner).trans h.own
  deps := h.deps.below (ht.below h.up h.hB)
  apart := h.apart
  ner := h.ner
  up := h.up
  new := fun k hk => h.new k (Nat.le_trans ht.2.2.2.1 hk)
  hB := Nat.le_trans h.hB ht.2.2.2.1

/-- A call lays a field. -/
def Lays (fn : Nat) (S : Nat → Prop) (bw : Nat) (ver : Int) (bt br : Nat) (E : World → Prop) (f : List UInt8) : Prop :=
  ∀ (w : World) (out : List UInt8), E w → out.length ≤ 500000000 → Wr w S bw ver bt out → Calls Try.prog fn #[.pointer (some ⟨bw, 0, none⟩), .pointer (some ⟨br, 0, none⟩)] w fun e w' => e = .returned (.tuple #[]) ∧ Wr w' S bw ver bt (out ++ f) ∧ Turn S w w'

section
variable (S T : Nat → Prop) (bw bt N br n c B : Nat) (ver : Int) (tl : List (List UInt8)) (r : Rc) (A : Option Addr) (l : List Dp) (ht : tl.length ≤ 1073741824) (hn : Nums r l)

set_option maxRecDepth 100000 in
set_option maxHeartbeats 400000 in
include ht in
theorem lays_target (hs : r.target.length ≤ 64) : Lays 46 S bw ver bt br (fun w => Env w S T bt N tl br r A n c l B) (nmB ver tl r.target) := by
  intro w out hE hbig h
  have q1 := at_cell (i := 1) hE.own rfl
  have HC := Lib.hid (wname_any S T bw bt N ver out r.target tl hs ht (by omega) w hE.new h hE.tab)
  clear hE h
  go_enter Try.func46, Try.ntmps46
  go_wp2_with (go_at_call 71; refine HC.out.mono ?_; rintro e w3 ⟨rfl, hw3, ht3⟩)
  go_end0
  exact ⟨rfl, hw3, ht3⟩

set_option maxRecDepth 100000 in
set_option maxHeartbeats 400000 in
include hn in
theorem lays_rule : Lays 47 S bw ver bt br (fun w => Env w S T bt N tl br r A n c l B) (vb r.rule.toNat) := by
  intro w out hE hbig h
  have q2 := at_cell (i := 2) hE.own rfl
  have HC := Lib.hid (number_w S bw bt r.rule.toNat ver out (num_nat hn.1).2 (by omega) w hE.new h)
  clear hE h
  have e := (num_nat hn.1).1
  rw [← e] at HC
  clear e
  go_enter Try.func47, Try.ntmps47
  go_wp2_with (go_at_call 72; refine HC.out.mono ?_; rintro e w3 ⟨rfl, hw3, ht3⟩)
  go_end0
  exact ⟨rfl, hw3, ht3⟩

set_option maxRecDepth 100000 in
set_option maxHeartbeats 400000 in
include hn in
theorem lays_out : Lays 49 S bw ver bt br (fun w => Env w S T bt N tl br r A n c l B) (vb r.out.toNat) := by
  intro w out hE hbig h
  have q4 := at_cell (i := 4) hE.own rfl
  have HC := Lib.hid (number_w S bw bt r.out.toNat ver out (num_nat hn.2.1).2 (by omega) w hE.new h)
  clear hE h
  have e := (num_nat hn.2.1).1
  rw [← e] at HC
  clear e
  go_enter Try.func49, Try.ntmps49
  go_wp2_with (go_at_call 72; refine HC.out.mono ?_; rintro e w3 ⟨rfl, hw3, ht3⟩)
  go_end0
  exact ⟨rfl, hw3, ht3⟩

set_option maxRecDepth 100000 in
set_option maxHeartbeats 400000 in
include hn in
theorem lays_when : Lays 50 S bw ver bt br (fun w => Env w S T bt N tl br r A n c l B) (vb r.time.toNat) := by
  intro w out hE hbig h
  have q5 := at_cell (i := 5) hE.own rfl
  have HC := Lib.hid (number_w S bw bt r.time.toNat ver out (num_nat hn.2.2.1).2 (by omega) w hE.new h)
  clear hE h
  have e := (num_nat hn.2.2.1).1
  rw [← e] at HC
  clear e
  go_enter Try.func50, Try.ntmps50
  go_wp2_with (go_at_call 72; refine HC.out.mono ?_; rintro e w3 ⟨rfl, hw3, ht3⟩)
  go_end0
  exact ⟨rfl, hw3, ht3⟩

set_option maxRecDepth 100000 in
set_option maxHeartbeats 400000 in
include ht in
theorem lays_tag (hs : r.tag.length ≤ 64) : Lays 51 S bw ver bt br (fun w => Env w S T bt N tl br r A n c l B) (fTag tl r) := by
  intro w out hE hbig h
  have q6 := at_cell (i := 6) hE.own rfl
  by_cases hz : r.tag = []
  · have HC := Lib.hid (number_w S bw bt 0 ver out (small_vb (by omega)) (by omega) w hE.new h)
    unfold fTag
    rw [if_pos hz]
    rw [hz] at q6
    have d0 : (tx []).toList.isEmpty = true := by rw [tx_toList]; rfl
    clear hE h hz
    go_enter Try.func51, Try.ntmps51
    go_wp2_with (go_at_call 72; refine HC.out.mono ?_; rintro e w3 ⟨rfl, hw3, ht3⟩)
    first | go_end0 | (refine bodyPost_ret (results_none rfl _ _ _) rfl ?_)
    exact ⟨rfl, hw3, ht3⟩
  · have HI := Lib.hid (wid_any S T bw bt N ver out r.tag tl hs w h hE.tab)
    have hle := tnum_le (s := r.tag) ht
    have HC := Lib.hid (number_w S bw bt (tnum tl r.tag + 1) ver out (small_vb (by omega)) (by omega) w hE.new h)
    unfold fTag
    rw [if_neg hz]
    obtain ⟨m, hm⟩ : ∃ m, m = tnum tl r.tag := ⟨_, rfl⟩
    rw [← hm] at HI HC hle ⊢
    clear hm
    push_cast at HC
    have d0 : (tx r.tag).toList.isEmpty = false := by
      rw [tx_toList]
      cases hr : r.tag with
      | nil => exact absurd hr hz
      | cons a b => rfl
    obtain ⟨x, hx⟩ : ∃ x, x = tx r.tag := ⟨_, rfl⟩
    rw [← hx] at q6 HI d0
    clear hE h hz hx
    go_enter Try.func51, Try.ntmps51
    go_wp2_with (first
      | (go_at_call 72; refine HC.out.mono ?_; rintro e w3 ⟨rfl, hw3, ht3⟩)
      | (go_at_call 74; refine HI.out.mono ?_; rintro e w2 ⟨rfl, rfl⟩))
    first | go_end0 | (refine bodyPost_ret (results_none rfl _ _ _) rfl ?_)
    exact ⟨rfl, hw3, ht3⟩

theorem fDep_len {d : Dp} (hd : d.name.length ≤ 64) (hh : 0 ≤ d.hash ∧ d.hash < 18446744073709551616) (ht : tl.length ≤ 1073741824) : (fDep ver tl d).length ≤ 84 := by
  unfold fDep
  rw [List.length_append]
  have h1 := depB_len (ver := ver) hd ht
  have h2 := vb_len _ (num_nat hh).2
  omega
theorem fDeps_take {m : Nat} (hd : ∀ d ∈ l, d.name.length ≤ 64) (hh : ∀ d ∈ l, 0 ≤ d.hash ∧ d.hash < 18446744073709551616) (ht : tl.length ≤ 1073741824) : ((l.take m).flatMap (fDep ver tl)).length ≤ 84 * m := by
  induction m with
  | zero => simp
  | succ m ih =>
    rw [List.take_add_one, List.flatMap_append, List.length_append]
    rcases hx : l[m]? with _ | x
    · simp only [Option.toList_none, List.flatMap_nil, List.length_nil]; omega
    · have := fDep_len ver tl (hd x (List.mem_of_getElem? hx)) (hh x (List.mem_of_getElem? hx)) ht
      simp only [Option.toList_some, List.flatMap_cons, List.flatMap_nil, List.append_nil]; omega

def DpRel (S : Nat → Prop) (bw : Nat) (ver : Int) (bt : Nat) (tl : List (List UInt8)) (l : List Dp) (n : Nat) (out : List UInt8) (w : World) (idx : Value) (wr : World) : Prop :=
  ∃ i : Nat, i ≤ n ∧ idx = .int .i64 (i : Int) ∧ Wr wr S bw ver bt (out ++ (vb l.length ++ (l.take i).flatMap (fDep ver tl))) ∧ Turn S w wr

set_option maxRecDepth 100000 in
set_option maxHeartbeats 1000000 in
include ht hn in
theorem lays_deps (hd : ∀ d ∈ l, d.name.length ≤ 64) (hnn : n ≤ 1000) : Lays 48 S bw ver bt br (fun w => Env w S T bt N tl br r A n c l B) (fDeps ver tl l) := by
  intro w out hE hbig h
  have HL : Hid (l.length = n) := by have := hE.deps.1; rw [dps_len] at this; show _ = _; omega
  have q3 := at_cell (i := 3) hE.own rfl
  have HC := Lib.hid (number_w S bw bt l.length ver out (small_vb (by have := HL.out; omega)) (by omega) w hE.new h)
  rw [HL.out] at HC
  have HE := Lib.hid hE
  have HBIG := Lib.hid hbig
  have HD := Lib.hid hd
  have HH := Lib.hid hn.2.2.2
  have HT := Lib.hid ht
  clear hE h hd hn ht
  go_enter Try.func48, Try.ntmps48
  go_wp2_with (go_at_call 72; refine HC.out.mono ?_; rintro e w3 ⟨rfl, hw3, ht3⟩; have HW3 := Lib.hid hw3; have HT3 := Lib.hid ht3; have p3 := at_cell (i := 3) (HE.out.turn ht3).own rfl; clear hw3 ht3)
  go_loopw [19] (fun idx wr => DpRel S bw ver bt tl l n out w idx wr) (fun idx wr => n - (intOf idx).toNat)
  case atStart => exact ⟨0, by omega, rfl, by rw [HL.out]; simpa using HW3.out, HT3.out⟩
  case round =>
    obtain ⟨i, hi, rfl, hwr, htr⟩ := hrel
    by_cases hlt : i < n
    · obtain ⟨x, hx⟩ : ∃ x, l[i]? = some x := ⟨_, List.getElem?_eq_getElem (by rw [HL.out]; exact hlt)⟩
      have hm := List.mem_of_getElem? hx
      have hxn := HD.out x hm
      have hxh := HH.out x hm
      have hEr := HE.out.turn htr
      obtain ⟨ad, rfl, _, hcx⟩ := hEr.deps.2 (by omega)
      obtain ⟨x0, x1, x2⟩ := dps_at l i x hx
      have k0 := hcx _ _ x0
      have k1 := hcx _ _ x1
      have k2 := hcx _ _ x2
      rw [add_one] at k1
      rw [add_two] at k2
      unfold rsv at k0
      have htake : (l.take (i + 1)).flatMap (fDep ver tl) = (l.take i).flatMap (fDep ver tl) ++ fDep ver tl x := by
        rw [List.take_add_one, hx, List.flatMap_append]; simp
      have HTAKE := Lib.hid htake
      have hlen := fDeps_take ver tl l (m := i) HD.out HH.out HT.out
      have hvl := vb_len l.length (small_vb (by have := HL.out; omega))
      obtain ⟨xn, xh, xo⟩ := x
      simp only at k0 k1 k2 hxn hxh
      have hW5 := wr_but hwr (.cells #[.string (tx xn), .int .u64 xh, .bool xo] 55)
      have hT5 : Turn (fun k => S k ∧ k ≠ wr.heap.size) wr (wr.alloc (.cells #[.string (tx xn), .int .u64 xh, .bool xo] 55)) := Turn.of_below ((Below.refl _ wr).alloc (Nat.le_refl _) _)
      have hS5 : ∀ k, (wr.alloc (.cells #[.string (tx xn), .int .u64 xh, .bool xo] 55)).heap.size ≤ k → S k ∧ k ≠ wr.heap.size := fun k hk => ⟨hEr.new k (by simp at hk; omega), by simp at hk; omega⟩
      have HDEP := Lib.hid (dep_any (fun k => S k ∧ k ≠ wr.heap.size) T bw bt N ver _ ⟨xn, xh, xo⟩ tl hxn HT.out (by have := HBIG.out; simp only [List.length_append]; omega) _ hS5 hW5 (tab_alloc hEr.tab _))
      have hbl := depB_len (ver := ver) (d := ⟨xn, xh, xo⟩) hxn HT.out
      have HNUM : Hid (∀ W, (∀ k, W.heap.size ≤ k → S k) → Wr W S bw ver bt (out ++ (vb l.length ++ (l.take i).flatMap (fDep ver tl)) ++ depB ver tl ⟨xn, xh, xo⟩) → Calls Try.prog 72 #[.pointer (some ⟨bw, 0, none⟩), .int .u64 xh] W fun e w' => e = .returned (.tuple #[]) ∧ Wr w' S bw ver bt (out ++ (vb l.length ++ (l.take i).flatMap (fDep ver tl)) ++ depB ver tl ⟨xn, xh, xo⟩ ++ vb xh.toNat) ∧ Turn S W w') := fun W hSW hWW => by
        have h1 := number_w S bw bt xh.toNat ver _ (num_nat hxh).2 (by have := HBIG.out; simp only [List.length_append]; omega) W hSW hWW
        rw [← (num_nat hxh).1] at h1
        exact h1
      have HBOX := Lib.hid (one_new wr (.cells #[.string (tx xn), .int .u64 xh, .bool xo] 55))
      have b0 := at_cell (i := 0) HBOX.out rfl
      have b1 := at_cell (i := 1) HBOX.out rfl
      have b2 := at_cell (i := 2) HBOX.out rfl
      have HTR := Lib.hid htr
      have HER := Lib.hid hEr
      have HT5 := Lib.hid hT5
      have hi0 : (0 : Int) ≤ (i : Int) := by omega
      have hi1 : (i : Int) < (n : Int) := by omega
      clear hcx x0 x1 x2 hx hm hEr hwr htr hW5 hS5 htake hxn hxh hlen hvl hbl hT5
      go_wp2_with (first
        | (go_at_call 72; refine (HNUM.out _ HNEW.out HW6.out).mono ?_; rintro e w7 ⟨rfl, hw7, ht7⟩; have HW7 := Lib.hid hw7; have HT7 := Lib.hid (HT6.out.trans ht7 (fun _ _ h => h)); clear hw7 ht7)
        | (go_at_call 73; refine HDEP.out.mono ?_; rintro e w6 ⟨rfl, hw6, ht6⟩; have j1 := at_cell (i := 1) ((ht6.2.2.2.2 wr.heap.size (by simp) (fun h => h.2 rfl)).trans HBOX.out) rfl; have HW6 := Lib.hid (hw6.wide (fun k hk => hk.1)); have HT6 := Lib.hid (HTR.out.trans ((HT5.out.trans ht6 (fun _ _ h => h)).wide (fun k hk => hk.1)) (fun _ _ h => h)); have HNEW := Lib.hid (HE.out.turn HT6.out).new; clear hw6 ht6))
      exact ⟨⟨i + 1, by omega, by go_num, by rw [HTAKE.out]; simpa [fDep, List.append_assoc] using HW7.out, HT7.out⟩, by simp [intOf]; omega⟩
    · obtain rfl : i = n := by omega
      rw [List.take_of_length_le (by rw [HL.out]; omega)] at hwr
      have HWR := Lib.hid hwr
      have HTR := Lib.hid htr
      clear hwr htr
      go_wp2
      go_end0
      exact ⟨rfl, HWR.out, HTR.out⟩

end

end Go.Proofs.Ytidkahmjjknkmaa

/- schema.fields.of. -/
namespace Go.Proofs.Ytidkahmjjknkmaa
open Go.RowKit

/-- Functions in a row, behind others. -/
theorem reads_funs (W : World) (gs : List Value) : Reads (W.alloc (.cells gs.toArray 87)) (W.heap.size + 1) 1 (some ⟨W.heap.size, 0, none⟩) gs.length gs := by
  refine ⟨by simp, fun _ => ⟨_, rfl, by show W.heap.size < _; omega, fun j u hu => ?_⟩⟩
  have h2 := at_cell (w := W.alloc (.cells gs.toArray 87)) (b := W.heap.size) (i := j) (one_new W _) (by simpa using hu)
  rw [show (⟨W.heap.size, 0, none⟩ : Addr).add j = ⟨W.heap.size, j, none⟩ from by unfold Addr.add; split <;> simp_all]
  exact h2
theorem own_funs (W : World) (b : Nat) (gs : List Value) (hb : b ≤ W.heap.size) (hl : gs.length ≤ 1000) : (W.alloc (.cells gs.toArray 87)).ownsRow b 87 1 (.slice (some ⟨W.heap.size, 0, none⟩) gs.length gs.length) gs.length gs :=
  ownsRow_of_block (cap := gs.length) (cs := gs) hb (one_new W _) (Nat.le_refl _) (by unfold maxLen; omega) rfl (by simp)
theorem infoF : (Try.prog.info? 87).map (fun i => (i.zero, i.size, i.bytes)) = some (some .nilFunc, 1, 8) := by kernel_rfl

section
variable (k0 k1 k2 k3 k4 k5 : Nat) (p : Value)

set_option maxRecDepth 100000 in
set_option maxHeartbeats 1000000 in
theorem of_11 (w : World) :
    Calls Try.prog 52 #[.agg #[.func (.func k0) #[p] #[], .func (.func k1) #[p] #[], .func (.func k2) #[p] #[], .func (.func k3) #[p] #[], .func (.func k4) #[p] #[], .func (.func k5) #[p] #[]], .int .i64 1, .int .i64 1] w fun e w' => ∃ v, e = .returned v ∧ w'.ownsRow (w.heap.size + 1) 87 1 v 4 [.func (.func k0) #[p] #[], .func (.func k1) #[p] #[], .func (.func k2) #[p] #[], .func (.func k3) #[p] #[]] ∧ Below w.heap.size w w' := by
  obtain ⟨i0, ii0, iz0, iz1, iz2⟩ := info_parts infoF
  have HA := Lib.hid (one_new w (.cells #[.func (.func k0) #[p] #[], .func (.func k1) #[p] #[], .func (.func k2) #[p] #[], .func (.func k3) #[p] #[], .func (.func k4) #[p] #[], .func (.func k5) #[p] #[]] 89))
  have HB0 := Lib.hid ((Below.refl _ w).alloc (Nat.le_refl _) (.cells #[.func (.func k0) #[p] #[], .func (.func k1) #[p] #[], .func (.func k2) #[p] #[], .func (.func k3) #[p] #[], .func (.func k4) #[p] #[], .func (.func k5) #[p] #[]] 89))
  have HZ : Hid ((w.alloc (.cells #[.func (.func k0) #[p] #[], .func (.func k1) #[p] #[], .func (.func k2) #[p] #[], .func (.func k3) #[p] #[], .func (.func k4) #[p] #[], .func (.func k5) #[p] #[]] 89)).heap.size = w.heap.size + 1) := by show _ = _; simp
  have q0 := at_cell (i := 0) HA.out rfl
  have q1 := at_cell (i := 1) HA.out rfl
  have q2 := at_cell (i := 2) HA.out rfl
  have q3 := at_cell (i := 3) HA.out rfl
  have q4 := at_cell (i := 4) HA.out rfl
  have q5 := at_cell (i := 5) HA.out rfl
  have ho0 := own_funs (w.alloc (.cells #[.func (.func k0) #[p] #[], .func (.func k1) #[p] #[], .func (.func k2) #[p] #[], .func (.func k3) #[p] #[], .func (.func k4) #[p] #[], .func (.func k5) #[p] #[]] 89)) (w.heap.size + 1) [.func (.func k0) #[p] #[], .func (.func k1) #[p] #[], .func (.func k2) #[p] #[], .func (.func k3) #[p] #[]] (by simp) (by simp)
  rw [HZ.out] at ho0
  have HO0 := Lib.hid ho0
  clear ho0
  have HB1 := Lib.hid (HB0.out.alloc (by have h1 := HZ.out; omega) (.cells #[.func (.func k0) #[p] #[], .func (.func k1) #[p] #[], .func (.func k2) #[p] #[], .func (.func k3) #[p] #[]] 87))
  go_enter Try.func52, Try.ntmps52
  go_wp2
  go_ret
  exact ⟨_, rfl, HO0.out, HB1.out⟩

set_option maxRecDepth 100000 in
set_option maxHeartbeats 1000000 in
theorem of_21 (w : World) :
    Calls Try.prog 52 #[.agg #[.func (.func k0) #[p] #[], .func (.func k1) #[p] #[], .func (.func k2) #[p] #[], .func (.func k3) #[p] #[], .func (.func k4) #[p] #[], .func (.func k5) #[p] #[]], .int .i64 2, .int .i64 1] w fun e w' => ∃ v, e = .returned v ∧ w'.ownsRow (w.heap.size + 1) 87 1 v 5 [.func (.func k0) #[p] #[], .func (.func k1) #[p] #[], .func (.func k2) #[p] #[], .func (.func k3) #[p] #[], .func (.func k4) #[p] #[]] ∧ Below w.heap.size w w' := by
  obtain ⟨i0, ii0, iz0, iz1, iz2⟩ := info_parts infoF
  have HA := Lib.hid (one_new w (.cells #[.func (.func k0) #[p] #[], .func (.func k1) #[p] #[], .func (.func k2) #[p] #[], .func (.func k3) #[p] #[], .func (.func k4) #[p] #[], .func (.func k5) #[p] #[]] 89))
  have HB0 := Lib.hid ((Below.refl _ w).alloc (Nat.le_refl _) (.cells #[.func (.func k0) #[p] #[], .func (.func k1) #[p] #[], .func (.func k2) #[p] #[], .func (.func k3) #[p] #[], .func (.func k4) #[p] #[], .func (.func k5) #[p] #[]] 89))
  have HZ : Hid ((w.alloc (.cells #[.func (.func k0) #[p] #[], .func (.func k1) #[p] #[], .func (.func k2) #[p] #[], .func (.func k3) #[p] #[], .func (.func k4) #[p] #[], .func (.func k5) #[p] #[]] 89)).heap.size = w.heap.size + 1) := by show _ = _; simp
  have q0 := at_cell (i := 0) HA.out rfl
  have q1 := at_cell (i := 1) HA.out rfl
  have q2 := at_cell (i := 2) HA.out rfl
  have q3 := at_cell (i := 3) HA.out rfl
  have q4 := at_cell (i := 4) HA.out rfl
  have q5 := at_cell (i := 5) HA.out rfl
  have ho0 := own_funs (w.alloc (.cells #[.func (.func k0) #[p] #[], .func (.func k1) #[p] #[], .func (.func k2) #[p] #[], .func (.func k3) #[p] #[], .func (.func k4) #[p] #[], .func (.func k5) #[p] #[]] 89)) (w.heap.size + 1) [.func (.func k0) #[p] #[], .func (.func k1) #[p] #[], .func (.func k2) #[p] #[], .func (.func k3) #[p] #[]] (by simp) (by simp)
  rw [HZ.out] at ho0
  have HO0 := Lib.hid ho0
  clear ho0
  have HB1 := Lib.hid (HB0.out.alloc (by have h1 := HZ.out; omega) (.cells #[.func (.func k0) #[p] #[], .func (.func k1) #[p] #[], .func (.func k2) #[p] #[], .func (.func k3) #[p] #[]] 87))
  go_enter Try.func52, Try.ntmps52
  have HU0 : Hid (Below (w.heap.size + 1) (w.alloc (.cells #[.func (.func k0) #[p] #[], .func (.func k1) #[p] #[], .func (.func k2) #[p] #[], .func (.func k3) #[p] #[], .func (.func k4) #[p] #[], .func (.func k5) #[p] #[]] 89)) ((w.alloc (.cells #[.func (.func k0) #[p] #[], .func (.func k1) #[p] #[], .func (.func k2) #[p] #[], .func (.func k3) #[p] #[], .func (.func k4) #[p] #[], .func (.func k5) #[p] #[]] 89)).alloc (.cells #[.func (.func k0) #[p] #[], .func (.func k1) #[p] #[], .func (.func k2) #[p] #[], .func (.func k3) #[p] #[]] 87))) := (Below.refl _ _).alloc (by simp) _
  have HS0 : Hid (w.heap.size + 1 ≤ ((w.alloc (.cells #[.func (.func k0) #[p] #[], .func (.func k1) #[p] #[], .func (.func k2) #[p] #[], .func (.func k3) #[p] #[], .func (.func k4) #[p] #[], .func (.func k5) #[p] #[]] 89)).alloc (.cells #[.func (.func k0) #[p] #[], .func (.func k1) #[p] #[], .func (.func k2) #[p] #[], .func (.func k3) #[p] #[]] 87)).heap.size) := by show _ ≤ _; simp
  go_wp2_with (at_builtin; have ho := World.ownsRow.alloc HO0.out (.cells #[.func (.func k4) #[p] #[]] 87); have hb := HB1.out.alloc HB1.out.size (.cells #[.func (.func k4) #[p] #[]] 87); have hr := reads_funs ((w.alloc (.cells #[.func (.func k0) #[p] #[], .func (.func k1) #[p] #[], .func (.func k2) #[p] #[], .func (.func k3) #[p] #[], .func (.func k4) #[p] #[], .func (.func k5) #[p] #[]] 89)).alloc (.cells #[.func (.func k0) #[p] #[], .func (.func k1) #[p] #[], .func (.func k2) #[p] #[], .func (.func k3) #[p] #[]] 87)) [.func (.func k4) #[p] #[]]; refine wpList_append_many _ rfl (.tmp 22) (.tmp 25) 90 rfl (w.heap.size + 1) 87 i0 _ 1 8 Try.underlying90 ii0 iz0 iz1 iz2 rfl (by decide) _ 4 [.func (.func k0) #[p] #[], .func (.func k1) #[p] #[], .func (.func k2) #[p] #[], .func (.func k3) #[p] #[]] rfl ho (some ⟨w.heap.size + 1 + 1, 0, none⟩) 1 1 (w.heap.size + 1 + 1 + 1) [.func (.func k4) #[p] #[]] rfl (by simp) (by simpa using hr) (fun u hu => by obtain rfl := List.mem_singleton.1 hu; rfl) (by unfold maxLen; omega) (by omega) (Nat.le_trans HS0.out (by simp)) ?_; intro v3 w3 ho3 hg3; have HO3 := Lib.hid ho3; have HB3 := Lib.hid (hb.grown hg3 hb.size (fun g hg => by have h1 := own_block HO0.out g hg; omega)); have HS1 : Hid (w.heap.size + 1 ≤ w3.heap.size) := (Nat.le_trans (Nat.le_trans HS0.out (by simp)) hg3.size); have HU1 := Lib.hid ((HU0.out.alloc HS0.out (.cells #[.func (.func k4) #[p] #[]] 87)).grown hg3 (Nat.le_trans HS0.out (by simp)) (fun g hg => own_block HO0.out g hg)); have j5 := (HU1.out.cell (p := ⟨w.heap.size, 5, none⟩) (show w.heap.size < w.heap.size + 1 by omega)).trans (at_cell (i := 5) HA.out rfl); clear ho hb hr ho3 hg3)
  go_ret
  exact ⟨_, rfl, HO3.out, HB3.out⟩

set_option maxRecDepth 100000 in
set_option maxHeartbeats 1000000 in
theorem of_31 (w : World) :
    Calls Try.prog 52 #[.agg #[.func (.func k0) #[p] #[], .func (.func k1) #[p] #[], .func (.func k2) #[p] #[], .func (.func k3) #[p] #[], .func (.func k4) #[p] #[], .func (.func k5) #[p] #[]], .int .i64 3, .int .i64 1] w fun e w' => ∃ v, e = .returned v ∧ w'.ownsRow (w.heap.size + 1) 87 1 v 6 [.func (.func k0) #[p] #[], .func (.func k1) #[p] #[], .func (.func k2) #[p] #[], .func (.func k3) #[p] #[], .func (.func k4) #[p] #[], .func (.func k5) #[p] #[]] ∧ Below w.heap.size w w' := by
  obtain ⟨i0, ii0, iz0, iz1, iz2⟩ := info_parts infoF
  have HA := Lib.hid (one_new w (.cells #[.func (.func k0) #[p] #[], .func (.func k1) #[p] #[], .func (.func k2) #[p] #[], .func (.func k3) #[p] #[], .func (.func k4) #[p] #[], .func (.func k5) #[p] #[]] 89))
  have HB0 := Lib.hid ((Below.refl _ w).alloc (Nat.le_refl _) (.cells #[.func (.func k0) #[p] #[], .func (.func k1) #[p] #[], .func (.func k2) #[p] #[], .func (.func k3) #[p] #[], .func (.func k4) #[p] #[], .func (.func k5) #[p] #[]] 89))
  have HZ : Hid ((w.alloc (.cells #[.func (.func k0) #[p] #[], .func (.func k1) #[p] #[], .func (.func k2) #[p] #[], .func (.func k3) #[p] #[], .func (.func k4) #[p] #[], .func (.func k5) #[p] #[]] 89)).heap.size = w.heap.size + 1) := by show _ = _; simp
  have q0 := at_cell (i := 0) HA.out rfl
  have q1 := at_cell (i := 1) HA.out rfl
  have q2 := at_cell (i := 2) HA.out rfl
  have q3 := at_cell (i := 3) HA.out rfl
  have q4 := at_cell (i := 4) HA.out rfl
  have q5 := at_cell (i := 5) HA.out rfl
  have ho0 := own_funs (w.alloc (.cells #[.func (.func k0) #[p] #[], .func (.func k1) #[p] #[], .func (.func k2) #[p] #[], .func (.func k3) #[p] #[], .func (.func k4) #[p] #[], .func (.func k5) #[p] #[]] 89)) (w.heap.size + 1) [.func (.func k0) #[p] #[], .func (.func k1) #[p] #[], .func (.func k2) #[p] #[], .func (.func k3) #[p] #[]] (by simp) (by simp)
  rw [HZ.out] at ho0
  have HO0 := Lib.hid ho0
  clear ho0
  have HB1 := Lib.hid (HB0.out.alloc (by have h1 := HZ.out; omega) (.cells #[.func (.func k0) #[p] #[], .func (.func k1) #[p] #[], .func (.func k2) #[p] #[], .func (.func k3) #[p] #[]] 87))
  go_enter Try.func52, Try.ntmps52
  have HU0 : Hid (Below (w.heap.size + 1) (w.alloc (.cells #[.func (.func k0) #[p] #[], .func (.func k1) #[p] #[], .func (.func k2) #[p] #[], .func (.func k3) #[p] #[], .func (.func k4) #[p] #[], .func (.func k5) #[p] #[]] 89)) ((w.alloc (.cells #[.func (.func k0) #[p] #[], .func (.func k1) #[p] #[], .func (.func k2) #[p] #[], .func (.func k3) #[p] #[], .func (.func k4) #[p] #[], .func (.func k5) #[p] #[]] 89)).alloc (.cells #[.func (.func k0) #[p] #[], .func (.func k1) #[p] #[], .func (.func k2) #[p] #[], .func (.func k3) #[p] #[]] 87))) := (Below.refl _ _).alloc (by simp) _
  have HS0 : Hid (w.heap.size + 1 ≤ ((w.alloc (.cells #[.func (.func k0) #[p] #[], .func (.func k1) #[p] #[], .func (.func k2) #[p] #[], .func (.func k3) #[p] #[], .func (.func k4) #[p] #[], .func (.func k5) #[p] #[]] 89)).alloc (.cells #[.func (.func k0) #[p] #[], .func (.func k1) #[p] #[], .func (.func k2) #[p] #[], .func (.func k3) #[p] #[]] 87)).heap.size) := by show _ ≤ _; simp
  go_wp2_with (first
    | (at_builtin; have ho := World.ownsRow.alloc HO3.out (.cells #[.func (.func k5) #[p] #[]] 87); have hb := HB3.out.alloc HB3.out.size (.cells #[.func (.func k5) #[p] #[]] 87); have hr := reads_funs w3 [.func (.func k5) #[p] #[]]; refine wpList_append_many _ rfl (.tmp 29) (.tmp 32) 90 rfl (w.heap.size + 1) 87 i0 _ 1 8 Try.underlying90 ii0 iz0 iz1 iz2 rfl (by decide) _ 5 [.func (.func k0) #[p] #[], .func (.func k1) #[p] #[], .func (.func k2) #[p] #[], .func (.func k3) #[p] #[], .func (.func k4) #[p] #[]] rfl ho (some ⟨w3.heap.size, 0, none⟩) 1 1 (w3.heap.size + 1) [.func (.func k5) #[p] #[]] rfl (by simp) (by simpa using hr) (fun u hu => by obtain rfl := List.mem_singleton.1 hu; rfl) (by unfold maxLen; omega) (by omega) (Nat.le_trans HS1.out (by simp)) ?_; intro v4 w4 ho4 hg4; have HO4 := Lib.hid ho4; have HB4 := Lib.hid (hb.grown hg4 hb.size (fun g hg => by have h1 := own_block HO3.out g hg; omega)); have HS2 : Hid (w.heap.size + 1 ≤ w4.heap.size) := (Nat.le_trans (Nat.le_trans HS1.out (by simp)) hg4.size); have HU2 := Lib.hid ((HU1.out.alloc HS1.out (.cells #[.func (.func k5) #[p] #[]] 87)).grown hg4 (Nat.le_trans HS1.out (by simp)) (fun g hg => own_block HO3.out g hg)); have j5 := (HU2.out.cell (p := ⟨w.heap.size, 5, none⟩) (show w.heap.size < w.heap.size + 1 by omega)).trans (at_cell (i := 5) HA.out rfl); clear ho hb hr ho4 hg4)
    | (at_builtin; have ho := World.ownsRow.alloc HO0.out (.cells #[.func (.func k4) #[p] #[]] 87); have hb := HB1.out.alloc HB1.out.size (.cells #[.func (.func k4) #[p] #[]] 87); have hr := reads_funs ((w.alloc (.cells #[.func (.func k0) #[p] #[], .func (.func k1) #[p] #[], .func (.func k2) #[p] #[], .func (.func k3) #[p] #[], .func (.func k4) #[p] #[], .func (.func k5) #[p] #[]] 89)).alloc (.cells #[.func (.func k0) #[p] #[], .func (.func k1) #[p] #[], .func (.func k2) #[p] #[], .func (.func k3) #[p] #[]] 87)) [.func (.func k4) #[p] #[]]; refine wpList_append_many _ rfl (.tmp 22) (.tmp 25) 90 rfl (w.heap.size + 1) 87 i0 _ 1 8 Try.underlying90 ii0 iz0 iz1 iz2 rfl (by decide) _ 4 [.func (.func k0) #[p] #[], .func (.func k1) #[p] #[], .func (.func k2) #[p] #[], .func (.func k3) #[p] #[]] rfl ho (some ⟨w.heap.size + 1 + 1, 0, none⟩) 1 1 (w.heap.size + 1 + 1 + 1) [.func (.func k4) #[p] #[]] rfl (by simp) (by simpa using hr) (fun u hu => by obtain rfl := List.mem_singleton.1 hu; rfl) (by unfold maxLen; omega) (by omega) (Nat.le_trans HS0.out (by simp)) ?_; intro v3 w3 ho3 hg3; have HO3 := Lib.hid ho3; have HB3 := Lib.hid (hb.grown hg3 hb.size (fun g hg => by have h1 := own_block HO0.out g hg; omega)); have HS1 : Hid (w.heap.size + 1 ≤ w3.heap.size) := (Nat.le_trans (Nat.le_trans HS0.out (by simp)) hg3.size); have HU1 := Lib.hid ((HU0.out.alloc HS0.out (.cells #[.func (.func k4) #[p] #[]] 87)).grown hg3 (Nat.le_trans HS0.out (by simp)) (fun g hg => own_block HO0.out g hg)); have j5 := (HU1.out.cell (p := ⟨w.heap.size, 5, none⟩) (show w.heap.size < w.heap.size + 1 by omega)).trans (at_cell (i := 5) HA.out rfl); clear ho hb hr ho3 hg3))
  go_ret
  exact ⟨_, rfl, HO4.out, HB4.out⟩

set_option maxRecDepth 100000 in
set_option maxHeartbeats 1000000 in
theorem of_2 (ver : Int) (w : World) :
    Calls Try.prog 52 #[.agg #[.func (.func k0) #[p] #[], .func (.func k1) #[p] #[], .func (.func k2) #[p] #[], .func (.func k3) #[p] #[], .func (.func k4) #[p] #[], .func (.func k5) #[p] #[]], .int .i64 ver, .int .i64 2] w fun e w' => ∃ v, e = .returned v ∧ w'.ownsRow (w.heap.size + 1) 87 1 v 1 [.func (.func k0) #[p] #[]] ∧ Below w.heap.size w w' := by
  obtain ⟨i0, ii0, iz0, iz1, iz2⟩ := info_parts infoF
  have HA := Lib.hid (one_new w (.cells #[.func (.func k0) #[p] #[], .func (.func k1) #[p] #[], .func (.func k2) #[p] #[], .func (.func k3) #[p] #[], .func (.func k4) #[p] #[], .func (.func k5) #[p] #[]] 89))
  have HB0 := Lib.hid ((Below.refl _ w).alloc (Nat.le_refl _) (.cells #[.func (.func k0) #[p] #[], .func (.func k1) #[p] #[], .func (.func k2) #[p] #[], .func (.func k3) #[p] #[], .func (.func k4) #[p] #[], .func (.func k5) #[p] #[]] 89))
  have HZ : Hid ((w.alloc (.cells #[.func (.func k0) #[p] #[], .func (.func k1) #[p] #[], .func (.func k2) #[p] #[], .func (.func k3) #[p] #[], .func (.func k4) #[p] #[], .func (.func k5) #[p] #[]] 89)).heap.size = w.heap.size + 1) := by show _ = _; simp
  have q0 := at_cell (i := 0) HA.out rfl
  have q1 := at_cell (i := 1) HA.out rfl
  have q2 := at_cell (i := 2) HA.out rfl
  have q3 := at_cell (i := 3) HA.out rfl
  have q4 := at_cell (i := 4) HA.out rfl
  have q5 := at_cell (i := 5) HA.out rfl
  have ho0 := own_funs (w.alloc (.cells #[.func (.func k0) #[p] #[], .func (.func k1) #[p] #[], .func (.func k2) #[p] #[], .func (.func k3) #[p] #[], .func (.func k4) #[p] #[], .func (.func k5) #[p] #[]] 89)) (w.heap.size + 1) [.func (.func k0) #[p] #[]] (by simp) (by simp)
  rw [HZ.out] at ho0
  have HO0 := Lib.hid ho0
  clear ho0
  have HB1 := Lib.hid (HB0.out.alloc (by have h1 := HZ.out; omega) (.cells #[.func (.func k0) #[p] #[]] 87))
  go_enter Try.func52, Try.ntmps52
  go_wp2
  go_ret
  exact ⟨_, rfl, HO0.out, HB1.out⟩

set_option maxRecDepth 100000 in
set_option maxHeartbeats 1000000 in
theorem of_none (ver k : Int) (hk : k ≠ 1 ∧ k ≠ 2) (w : World) :
    Calls Try.prog 52 #[.agg #[.func (.func k0) #[p] #[], .func (.func k1) #[p] #[], .func (.func k2) #[p] #[], .func (.func k3) #[p] #[], .func (.func k4) #[p] #[], .func (.func k5) #[p] #[]], .int .i64 ver, .int .i64 k] w fun e w' => ∃ v, e = .returned v ∧ w'.ownsRow (w.heap.size + 1) 87 1 v 0 [] ∧ Below w.heap.size w w' := by
  obtain ⟨i0, ii0, iz0, iz1, iz2⟩ := info_parts infoF
  have HA := Lib.hid (one_new w (.cells #[.func (.func k0) #[p] #[], .func (.func k1) #[p] #[], .func (.func k2) #[p] #[], .func (.func k3) #[p] #[], .func (.func k4) #[p] #[], .func (.func k5) #[p] #[]] 89))
  have HB0 := Lib.hid ((Below.refl _ w).alloc (Nat.le_refl _) (.cells #[.func (.func k0) #[p] #[], .func (.func k1) #[p] #[], .func (.func k2) #[p] #[], .func (.func k3) #[p] #[], .func (.func k4) #[p] #[], .func (.func k5) #[p] #[]] 89))
  have HZ : Hid ((w.alloc (.cells #[.func (.func k0) #[p] #[], .func (.func k1) #[p] #[], .func (.func k2) #[p] #[], .func (.func k3) #[p] #[], .func (.func k4) #[p] #[], .func (.func k5) #[p] #[]] 89)).heap.size = w.heap.size + 1) := by show _ = _; simp
  have q0 := at_cell (i := 0) HA.out rfl
  have q1 := at_cell (i := 1) HA.out rfl
  have q2 := at_cell (i := 2) HA.out rfl
  have q3 := at_cell (i := 3) HA.out rfl
  have q4 := at_cell (i := 4) HA.out rfl
  have q5 := at_cell (i := 5) HA.out rfl
  obtain ⟨hk1, hk2⟩ := hk
  have d1 : decide (k = 1) = false := decide_eq_false hk1
  have d2 : (k == 1) = false := by rw [beq_eq_false_iff_ne]; exact hk1
  have d3 : decide (k = 2) = false := decide_eq_false hk2
  have d4 : (k == 2) = false := by rw [beq_eq_false_iff_ne]; exact hk2
  clear hk1 hk2
  go_enter Try.func52, Try.ntmps52
  go_wp2
  go_ret
  exact ⟨_, rfl, World.ownsRow_nil _ _ _ _, HB0.out⟩

end

end Go.Proofs.Ytidkahmjjknkmaa
