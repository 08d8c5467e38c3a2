/- The writer's id, name, dep. -/
import Derived.Test.YtfdncdejjlcgpaaUa
import Derived.Test.YtfdncdejjlcgpaaTa
namespace Go.Proofs.Ytfdncdejjlcgpaa
open Go.RowKit

/-- How a name is laid. -/
def nmB (ver : Int) (tl : List (List UInt8)) (s : List UInt8) : List UInt8 := if ver < 2 then blob s else vb (tnum tl s)
/-- How a dep's name is laid, and whether it is Order. -/
def depB (ver : Int) (tl : List (List UInt8)) (d : Dp) : List UInt8 := if ver < 3 then nmB ver tl d.name else vb (2 * tnum tl d.name + if d.order then 1 else 0)

theorem tnum_le {tl : List (List UInt8)} {s : List UInt8} (h : tl.length ≤ 1073741824) : tnum tl s ≤ 1073741824 := by
  by_cases hs : s ∈ tl
  · have := tnum_lt hs; omega
  · unfold tnum; rw [if_neg hs]; omega
theorem small_vb {n : Nat} (h : n ≤ 4000000000) : n < top := by unfold top; omega
theorem blob64 {s : List UInt8} (h : s.length ≤ 64) : (blob s).length ≤ 74 := by
  rw [blob_len]
  have := vb_len s.length (small_vb (by omega))
  omega
theorem nmB_len {ver : Int} {tl : List (List UInt8)} {s : List UInt8} (h : s.length ≤ 64) (ht : tl.length ≤ 1073741824) : (nmB ver tl s).length ≤ 74 := by
  unfold nmB
  split
  · exact blob64 h
  · have := vb_len (tnum tl s) (small_vb (by have := tnum_le (s := s) ht; omega)); omega
theorem depB_len {ver : Int} {tl : List (List UInt8)} {d : Dp} (h : d.name.length ≤ 64) (ht : tl.length ≤ 1073741824) : (depB ver tl d).length ≤ 74 := by
  unfold depB
  split
  · exact nmB_len h ht
  · have := vb_len (2 * tnum tl d.name + if d.order then 1 else 0) (small_vb (by have := tnum_le (s := d.name) ht; split <;> omega)); omega

set_option maxRecDepth 100000 in
set_option maxHeartbeats 400000 in
theorem wid_any (S T : Nat → Prop) (bw bt N : Nat) (ver : Int) (out s : List UInt8) (tl : List (List UInt8)) (hs : s.length ≤ 64) (w : World) (h : Wr w S bw ver bt out) (hT : Tab w T bt N tl) :
    Calls Try.prog 75 #[.pointer (some ⟨bw, 0, none⟩), .string (tx s)] w fun e w' => e = .returned (.int .u64 (tnum tl s : Int)) ∧ w = w' := by
  obtain ⟨_, va, hh, _, _⟩ := h
  have q1 := at_cell (i := 1) hh rfl
  have HF := Lib.hid (Find_any T bt N tl s (by unfold maxLen; omega) w hT)
  unfold tsv at HF
  clear hh hT
  go_enter Try.func75, Try.ntmps75
  go_wp2_with (go_at_call 88; refine HF.out.mono ?_; rintro e w2 ⟨rfl, rfl⟩)
  go_ret
  exact ⟨rfl, rfl⟩

set_option maxRecDepth 100000 in
set_option maxHeartbeats 400000 in
theorem name_two (S T : Nat → Prop) (bw bt N : Nat) (ver : Int) (hv : ¬ ver < 2) (out s : List UInt8) (tl : List (List UInt8)) (hs : s.length ≤ 64) (ht : tl.length ≤ 1073741824) (hbig : out.length ≤ 1000000000) (w : World) (hS : ∀ k, w.heap.size ≤ k → S k) (h : Wr w S bw ver bt out) (hT : Tab w T bt N tl) :
    Calls Try.prog 72 #[.pointer (some ⟨bw, 0, none⟩), .string (tx s)] w fun e w' => e = .returned (.tuple #[]) ∧ Wr w' S bw ver bt (out ++ vb (tnum tl s)) ∧ Turn S w w' := by
  have HI := Lib.hid (wid_any S T bw bt N ver out s tl hs w h hT)
  have HN := Lib.hid (number_w S bw bt (tnum tl s) ver out (small_vb (by have := tnum_le (s := s) ht; omega)) hbig w hS h)
  obtain ⟨_, va, hh, _, _⟩ := h
  have q0 := at_cell (i := 0) hh rfl
  have d1 : decide (ver < 2) = false := decide_eq_false hv
  clear hh hT hS hv
  go_enter Try.func72, Try.ntmps72
  go_wp2_with (first
    | (go_at_call 73; refine HN.out.mono ?_; rintro e w3 ⟨rfl, hw3, ht3⟩)
    | (go_at_call 75; refine HI.out.mono ?_; rintro e w2 ⟨rfl, rfl⟩))
  go_end0
  exact ⟨rfl, hw3, ht3⟩

theorem wname_any (S T : Nat → Prop) (bw bt N : Nat) (ver : Int) (out s : List UInt8) (tl : List (List UInt8)) (hs : s.length ≤ 64) (ht : tl.length ≤ 1073741824) (hbig : out.length ≤ 1000000000) (w : World) (hS : ∀ k, w.heap.size ≤ k → S k) (h : Wr w S bw ver bt out) (hT : Tab w T bt N tl) :
    Calls Try.prog 72 #[.pointer (some ⟨bw, 0, none⟩), .string (tx s)] w fun e w' => e = .returned (.tuple #[]) ∧ Wr w' S bw ver bt (out ++ nmB ver tl s) ∧ Turn S w w' := by
  unfold nmB
  by_cases hv : ver < 2
  · rw [if_pos hv]
    exact name_one S bw bt s ver hv out (by have := blob64 hs; omega) hbig w hS h
  · rw [if_neg hv]
    exact name_two S T bw bt N ver hv out s tl hs ht hbig w hS h hT

/-- A world in which a block has been laid. -/
theorem wr_alloc {w : World} {S : Nat → Prop} {bw bt : Nat} {ver : Int} {out : List UInt8} (h : Wr w S bw ver bt out) (o : Obj) : Wr (w.alloc o) S bw ver bt out := by
  obtain ⟨h1, va, h2, h3, h4⟩ := h
  refine ⟨h1, va, (Below.heap_alloc w o bw ?_).trans h2, World.ownsRow.alloc h3 o, h4⟩
  rcases Nat.lt_or_ge bw w.heap.size with h | h
  · exact h
  · rw [Array.getElem?_eq_none h] at h2; cases h2
theorem tab_alloc {w : World} {T : Nat → Prop} {b N : Nat} {l : List (List UInt8)} (h : Tab w T b N l) (o : Obj) : Tab (w.alloc o) T b N l := h.keep fun k _ hk => Below.heap_alloc w o k hk

set_option maxRecDepth 100000 in
set_option maxHeartbeats 400000 in
theorem dep_less (S T : Nat → Prop) (bw bt N : Nat) (ver : Int) (hv : ver < 3) (out : List UInt8) (d : Dp) (tl : List (List UInt8)) (hs : d.name.length ≤ 64) (ht : tl.length ≤ 1073741824) (hbig : out.length ≤ 1000000000) (w : World) (hS : ∀ k, w.heap.size ≤ k → S k) (h : Wr w S bw ver bt out) (hT : Tab w T bt N tl) :
    Calls Try.prog 74 #[.pointer (some ⟨bw, 0, none⟩), .agg #[.string (tx d.name), .int .u64 d.hash, .bool d.order]] w fun e w' => e = .returned (.tuple #[]) ∧ Wr w' S bw ver bt (out ++ nmB ver tl d.name) ∧ Turn S w w' := by
  have hS2 : ∀ k, (w.alloc (.cells #[.string (tx d.name), .int .u64 d.hash, .bool d.order] 56)).heap.size ≤ k → S k := fun k hk => hS k (by simp at hk; omega)
  have HA := Lib.hid (one_new w (.cells #[.string (tx d.name), .int .u64 d.hash, .bool d.order] 56))
  have HTU : Hid (Turn S w (w.alloc (.cells #[.string (tx d.name), .int .u64 d.hash, .bool d.order] 56))) := Turn.of_below ((Below.refl _ w).alloc (Nat.le_refl _) _)
  have hw2 := wr_alloc h (.cells #[.string (tx d.name), .int .u64 d.hash, .bool d.order] 56)
  have HN := Lib.hid (wname_any S T bw bt N ver out d.name tl hs ht hbig _ hS2 hw2 (tab_alloc hT _))
  have d1 : decide (ver < 3) = true := decide_eq_true hv
  obtain ⟨_, va, hh, _, _⟩ := hw2
  have q0 := at_cell (i := 0) hh rfl
  have e0 := at_cell (i := 0) HA.out rfl
  have e1 := at_cell (i := 1) HA.out rfl
  have e2 := at_cell (i := 2) HA.out rfl
  clear hh hT hS hS2 h
  go_enter Try.func74, Try.ntmps74
  go_wp2_with (go_at_call 72; refine HN.out.mono ?_; rintro e w3 ⟨rfl, hw3, ht3⟩)
  first | go_end0 | (refine bodyPost_ret (results_none rfl _ _ _) rfl ?_)
  exact ⟨rfl, hw3, HTU.out.trans ht3 (fun _ _ h => h)⟩

set_option maxRecDepth 100000 in
set_option maxHeartbeats 400000 in
theorem dep_true (S T : Nat → Prop) (bw bt N : Nat) (ver : Int) (hv : ¬ ver < 3) (out : List UInt8) (dn : List UInt8) (dh : Int) (tl : List (List UInt8)) (hs : dn.length ≤ 64) (ht : tl.length ≤ 1073741824) (hbig : out.length ≤ 1000000000) (w : World) (hS : ∀ k, w.heap.size ≤ k → S k) (h : Wr w S bw ver bt out) (hT : Tab w T bt N tl) :
    Calls Try.prog 74 #[.pointer (some ⟨bw, 0, none⟩), .agg #[.string (tx dn), .int .u64 dh, .bool true]] w fun e w' => e = .returned (.tuple #[]) ∧ Wr w' S bw ver bt (out ++ vb (2 * tnum tl dn + 1)) ∧ Turn S w w' := by
  have hS2 : ∀ k, (w.alloc (.cells #[.string (tx dn), .int .u64 dh, .bool true] 56)).heap.size ≤ k → S k := fun k hk => hS k (by simp at hk; omega)
  have HA := Lib.hid (one_new w (.cells #[.string (tx dn), .int .u64 dh, .bool true] 56))
  have HTU : Hid (Turn S w (w.alloc (.cells #[.string (tx dn), .int .u64 dh, .bool true] 56))) := Turn.of_below ((Below.refl _ w).alloc (Nat.le_refl _) _)
  have hw2 := wr_alloc h (.cells #[.string (tx dn), .int .u64 dh, .bool true] 56)
  have HI := Lib.hid (wid_any S T bw bt N ver out dn tl hs _ hw2 (tab_alloc hT _))
  have hle := tnum_le (s := dn) ht
  have HN := Lib.hid (number_w S bw bt (2 * tnum tl dn + 1) ver out (small_vb (by omega)) hbig _ hS2 hw2)
  obtain ⟨m, hm⟩ : ∃ m, m = tnum tl dn := ⟨_, rfl⟩
  rw [← hm] at HI HN hle ⊢
  clear hm
  have d1 : decide (ver < 3) = false := decide_eq_false hv
  push_cast at HN
  obtain ⟨_, va, hh, _, _⟩ := hw2
  have q0 := at_cell (i := 0) hh rfl
  have e0 := at_cell (i := 0) HA.out rfl
  have e1 := at_cell (i := 1) HA.out rfl
  have e2 := at_cell (i := 2) HA.out rfl
  clear hh hT hS hS2 h
  go_enter Try.func74, Try.ntmps74
  go_wp2_with (first
    | (go_at_call 73; refine HN.out.mono ?_; rintro e w3 ⟨rfl, hw3, ht3⟩)
    | (go_at_call 75; refine HI.out.mono ?_; rintro e w2 ⟨rfl, rfl⟩))
  first | go_end0 | (refine bodyPost_ret (results_none rfl _ _ _) rfl ?_)
  exact ⟨rfl, hw3, HTU.out.trans ht3 (fun _ _ h => h)⟩

set_option maxRecDepth 100000 in
set_option maxHeartbeats 400000 in
theorem dep_false (S T : Nat → Prop) (bw bt N : Nat) (ver : Int) (hv : ¬ ver < 3) (out : List UInt8) (dn : List UInt8) (dh : Int) (tl : List (List UInt8)) (hs : dn.length ≤ 64) (ht : tl.length ≤ 1073741824) (hbig : out.length ≤ 1000000000) (w : World) (hS : ∀ k, w.heap.size ≤ k → S k) (h : Wr w S bw ver bt out) (hT : Tab w T bt N tl) :
    Calls Try.prog 74 #[.pointer (some ⟨bw, 0, none⟩), .agg #[.string (tx dn), .int .u64 dh, .bool false]] w fun e w' => e = .returned (.tuple #[]) ∧ Wr w' S bw ver bt (out ++ vb (2 * tnum tl dn)) ∧ Turn S w w' := by
  have hS2 : ∀ k, (w.alloc (.cells #[.string (tx dn), .int .u64 dh, .bool false] 56)).heap.size ≤ k → S k := fun k hk => hS k (by simp at hk; omega)
  have HA := Lib.hid (one_new w (.cells #[.string (tx dn), .int .u64 dh, .bool false] 56))
  have HTU : Hid (Turn S w (w.alloc (.cells #[.string (tx dn), .int .u64 dh, .bool false] 56))) := Turn.of_below ((Below.refl _ w).alloc (Nat.le_refl _) _)
  have hw2 := wr_alloc h (.cells #[.string (tx dn), .int .u64 dh, .bool false] 56)
  have HI := Lib.hid (wid_any S T bw bt N ver out dn tl hs _ hw2 (tab_alloc hT _))
  have hle := tnum_le (s := dn) ht
  have HN := Lib.hid (number_w S bw bt (2 * tnum tl dn) ver out (small_vb (by omega)) hbig _ hS2 hw2)
  obtain ⟨m, hm⟩ : ∃ m, m = tnum tl dn := ⟨_, rfl⟩
  rw [← hm] at HI HN hle ⊢
  clear hm
  have d1 : decide (ver < 3) = false := decide_eq_false hv
  push_cast at HN
  obtain ⟨_, va, hh, _, _⟩ := hw2
  have q0 := at_cell (i := 0) hh rfl
  have e0 := at_cell (i := 0) HA.out rfl
  have e1 := at_cell (i := 1) HA.out rfl
  have e2 := at_cell (i := 2) HA.out rfl
  clear hh hT hS hS2 h
  go_enter Try.func74, Try.ntmps74
  go_wp2_with (first
    | (go_at_call 73; refine HN.out.mono ?_; rintro e w3 ⟨rfl, hw3, ht3⟩)
    | (go_at_call 75; refine HI.out.mono ?_; rintro e w2 ⟨rfl, rfl⟩))
  first | go_end0 | (refine bodyPost_ret (results_none rfl _ _ _) rfl ?_)
  exact ⟨rfl, hw3, HTU.out.trans ht3 (fun _ _ h => h)⟩

theorem dep_any (S T : Nat → Prop) (bw bt N : Nat) (ver : Int) (out : List UInt8) (d : Dp) (tl : List (List UInt8)) (hs : d.name.length ≤ 64) (ht : tl.length ≤ 1073741824) (hbig : out.length ≤ 1000000000) (w : World) (hS : ∀ k, w.heap.size ≤ k → S k) (h : Wr w S bw ver bt out) (hT : Tab w T bt N tl) :
    Calls Try.prog 74 #[.pointer (some ⟨bw, 0, none⟩), .agg #[.string (tx d.name), .int .u64 d.hash, .bool d.order]] w fun e w' => e = .returned (.tuple #[]) ∧ Wr w' S bw ver bt (out ++ depB ver tl d) ∧ Turn S w w' := by
  unfold depB
  by_cases hv : ver < 3
  · rw [if_pos hv]
    exact dep_less S T bw bt N ver hv out d tl hs ht hbig w hS h hT
  · rw [if_neg hv]
    obtain ⟨dn, dh, dor⟩ := d
    cases dor
    · exact dep_false S T bw bt N ver hv out dn dh tl hs ht hbig w hS h hT
    · exact dep_true S T bw bt N ver hv out dn dh tl hs ht hbig w hS h hT

end Go.Proofs.Ytfdncdejjlcgpaa
