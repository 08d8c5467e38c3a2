/- The example of layer 23. -/
import Derived.Test.YtbaokcigfgfoaaaZh
import Derived.Test.YtbaokcigfgfoaaaZd
namespace Go.Proofs.Ytbaokcigfgfoaaa
open Go.RowKit

theorem empty_in (w : World) (B : Nat) (x : Nw) (h1 : x.A = none) (h2 : x.n = 0) (h3 : x.d.deps = []) : NIn w B x := by
  unfold NIn
  rw [h1, h2, h3]
  exact Reads.none_
theorem recs_one (w : World) (x : Rw) (h : Reads w w.heap.size 3 x.A x.n (dps x.l) ∧ (x.A = none → x.c = 0)) : Recs (w.alloc (.cells #[.int .i64 x.r.kind, .string (tx x.r.target), .int .u64 x.r.rule, .slice x.A x.n x.c, .int .u64 x.r.out, .int .u64 x.r.time, .string (tx x.r.tag)] 36)) (w.alloc (.cells #[.int .i64 x.r.kind, .string (tx x.r.target), .int .u64 x.r.rule, .slice x.A x.n x.c, .int .u64 x.r.out, .int .u64 x.r.time, .string (tx x.r.tag)] 36)).heap.size (some ⟨w.heap.size, 0, none⟩) 1 [x] :=
  ⟨(reads_rec w x).more (by simp), fun y hy => by
    obtain rfl := List.mem_singleton.1 hy
    exact ⟨(h.1.alloc (Nat.le_refl _) _).more (by simp), h.2⟩⟩
def Tr3 (a b c : Nat) (Na Nb Nc : Obj) (W : World) : Prop := W.heap[a]? = some Na ∧ W.heap[b]? = some Nb ∧ W.heap[c]? = some Nc
theorem lt_of_heap {W : World} {a : Nat} {o : Obj} (h : W.heap[a]? = some o) : a < W.heap.size := (Array.getElem?_eq_some_iff.1 h).1
theorem Tr3.below {a b c : Nat} {Na Nb Nc : Obj} {W V : World} (h : Tr3 a b c Na Nb Nc W) (hb : Below W.heap.size W V) : Tr3 a b c Na Nb Nc V :=
  ⟨(hb.block a (lt_of_heap h.1)).trans h.1, (hb.block b (lt_of_heap h.2.1)).trans h.2.1, (hb.block c (lt_of_heap h.2.2)).trans h.2.2⟩
theorem Tr3.alloc {a b c : Nat} {Na Nb Nc : Obj} {W : World} (h : Tr3 a b c Na Nb Nc W) (o : Obj) : Tr3 a b c Na Nb Nc (W.alloc o) := h.below ((Below.refl _ W).alloc (Nat.le_refl _) o)
theorem oth_nil (hs : List Int) : ¬ OthH [] hs := fun ⟨i, e, h, _⟩ => by simp at h
theorem nil_hashes (w : World) : Reads w w.heap.size 1 none 0 (([] : List Int).map (Value.int .u64)) := Reads.none_

set_option maxRecDepth 100000 in
set_option maxHeartbeats 2000000 in
theorem dfixed_any (w : World) : Calls Try.prog 8 #[] w fun e w' => e = .returned (.bool true) ∧ Below w.heap.size w w' := by
  have HT0 := Lib.hid (fun W => trace_any (⟨⟨[97], false, 1, []⟩, none, 0, 0⟩ : Nw) none 0 0 [] 5#64 6 (by omega) (by show 0 ≤ _; omega) W (empty_in W _ _ rfl rfl rfl) (nil_hashes W))
  have HTR : Hid (∀ W, Calls Try.prog 11 #[.agg #[.string { data := #[97] }, .bool false, .int .u64 1, .slice none 0 0], .slice none 0 0, .int .u64 5, .int .u64 6] W fun e w' => ∃ (z : Int) (A1 : Option Addr) (c1 : Nat), e = .returned (.tuple #[.agg #[.int .i64 1, .string { data := #[97] }, .int .u64 1, .slice A1 0 c1, .int .u64 z, .int .u64 6, .string { data := #[] }], .int .i64 0]) ∧ Reads w' w'.heap.size 3 A1 0 (dps []) ∧ (A1 = none → c1 = 0) ∧ Below W.heap.size W w') := fun W => (HT0.out W).mono fun e w' h => by
    rcases h with ⟨h1, _⟩ | ⟨_, _, A1, n1, c1, h1, h2, h3, h4, h5⟩
    · rcases h1 with h1 | h1
      · cases h1
      · exact absurd rfl h1
    · obtain rfl : n1 = 0 := h3
      exact ⟨_, A1, c1, h1, h4, h2, h5⟩
  have HW0 : Hid (∀ W, Calls Try.prog 9 #[.agg #[.string { data := #[97] }, .bool false, .int .u64 1, .slice none 0 0], .slice none 0 0, .slice none 0 0] W fun e w' => e = .returned (.int .i64 1) ∧ Below W.heap.size W w') := fun W =>
    (why_any (⟨⟨[97], false, 1, []⟩, none, 0, 0⟩ : Nw) none 0 0 [] none 0 0 [] (by omega) (by show 0 ≤ _; omega) (by simp) W (empty_in W _ _ rfl rfl rfl) (Recs.nil _ _ _) (nil_hashes W)).mono fun e w' ⟨z, h1, h2, h3⟩ => by
      obtain rfl : z = 1 := whyN_one h1 (.inr ⟨rfl, zeroR, [], false, ⟨rfl, rfl⟩, .inl ⟨rfl, rfl⟩⟩)
      exact ⟨h2, h3⟩
  have HW1 : Hid (∀ (z : Int) (A1 : Option Addr) (c1 : Nat) (W : World), Reads W W.heap.size 3 A1 0 (dps []) → (A1 = none → c1 = 0) → Calls Try.prog 9 #[.agg #[.string { data := #[97] }, .bool false, .int .u64 1, .slice none 0 0], .slice (some ⟨W.heap.size, 0, none⟩) 1 1, .slice none 0 0] (W.alloc (.cells #[.int .i64 1, .string { data := #[97] }, .int .u64 1, .slice A1 0 c1, .int .u64 z, .int .u64 6, .string { data := #[] }] 36)) fun e w' => e = .returned (.int .i64 0) ∧ Below (W.alloc (.cells #[.int .i64 1, .string { data := #[97] }, .int .u64 1, .slice A1 0 c1, .int .u64 z, .int .u64 6, .string { data := #[] }] 36)).heap.size (W.alloc (.cells #[.int .i64 1, .string { data := #[97] }, .int .u64 1, .slice A1 0 c1, .int .u64 z, .int .u64 6, .string { data := #[] }] 36)) w') := fun z A1 c1 W hr hac =>
    (why_any (⟨⟨[97], false, 1, []⟩, none, 0, 0⟩ : Nw) _ 1 1 [(⟨⟨1, [97], 1, z, 6, []⟩, A1, 0, c1, []⟩ : Rw)] none 0 0 [] (by omega) (by show 0 ≤ _; omega) (fun y hy => by obtain rfl := List.mem_singleton.1 hy; show 0 ≤ _; omega) _ (empty_in _ _ _ rfl rfl rfl) (recs_one W (⟨⟨1, [97], 1, z, 6, []⟩, A1, 0, c1, []⟩ : Rw) ⟨hr, hac⟩) (nil_hashes _)).mono fun e w' ⟨y, h1, h2, h3⟩ => by
      obtain rfl : y = 0 := whyN_one h1 (.inr ⟨rfl, _, _, true, ⟨rfl, rfl⟩, .inr ⟨rfl, .inr (.inr (.inr ⟨rfl, ⟨rfl, rfl⟩, oth_nil _, rfl⟩))⟩⟩)
      exact ⟨h2, h3⟩
  have HW2 : Hid (∀ (z : Int) (A1 : Option Addr) (c1 : Nat) (W : World), Reads W W.heap.size 3 A1 0 (dps []) → (A1 = none → c1 = 0) → Calls Try.prog 9 #[.agg #[.string { data := #[97] }, .bool false, .int .u64 2, .slice none 0 0], .slice (some ⟨W.heap.size, 0, none⟩) 1 1, .slice none 0 0] (W.alloc (.cells #[.int .i64 1, .string { data := #[97] }, .int .u64 1, .slice A1 0 c1, .int .u64 z, .int .u64 6, .string { data := #[] }] 36)) fun e w' => e = .returned (.int .i64 2) ∧ Below (W.alloc (.cells #[.int .i64 1, .string { data := #[97] }, .int .u64 1, .slice A1 0 c1, .int .u64 z, .int .u64 6, .string { data := #[] }] 36)).heap.size (W.alloc (.cells #[.int .i64 1, .string { data := #[97] }, .int .u64 1, .slice A1 0 c1, .int .u64 z, .int .u64 6, .string { data := #[] }] 36)) w') := fun z A1 c1 W hr hac =>
    (why_any (⟨⟨[97], false, 2, []⟩, none, 0, 0⟩ : Nw) _ 1 1 [(⟨⟨1, [97], 1, z, 6, []⟩, A1, 0, c1, []⟩ : Rw)] none 0 0 [] (by omega) (by show 0 ≤ _; omega) (fun y hy => by obtain rfl := List.mem_singleton.1 hy; show 0 ≤ _; omega) _ (empty_in _ _ _ rfl rfl rfl) (recs_one W (⟨⟨1, [97], 1, z, 6, []⟩, A1, 0, c1, []⟩ : Rw) ⟨hr, hac⟩) (nil_hashes _)).mono fun e w' ⟨y, h1, h2, h3⟩ => by
      obtain rfl : y = 2 := whyN_one h1 (.inr ⟨rfl, _, _, true, ⟨rfl, rfl⟩, .inr ⟨rfl, .inl ⟨by show (1 : Int) ≠ 2; decide, rfl⟩⟩⟩)
      exact ⟨h2, h3⟩
  clear HT0
  have h0 := one_new w (.cells #[.string { data := #[97] }, .bool false, .int .u64 1, .slice none 0 0] 25)
  have H0 := Lib.hid h0
  have HB0 := Lib.hid ((Below.refl w.heap.size w).alloc (Nat.le_refl _) (.cells #[.string { data := #[97] }, .bool false, .int .u64 1, .slice none 0 0] 25))
  have q0 := at_cell (i := 0) h0 rfl
  have q1 := at_cell (i := 1) h0 rfl
  have q2 := at_cell (i := 2) h0 rfl
  have q3 := at_cell (i := 3) h0 rfl
  have HS0 : Hid (w.heap.size < (w.alloc (.cells #[.string { data := #[97] }, .bool false, .int .u64 1, .slice none 0 0] 25)).heap.size) := by show w.heap.size < _; simp
  clear h0
  go_enter Try.func8, Try.ntmps8
  go_wp2_with fail
  refine (HTR.out _).mono ?_
  rintro e w1 ⟨z, A1, c1, rfl, hr1, hac, hb1⟩
  have HAC := Lib.hid hac
  have hN1 := (hb1.block w.heap.size HS0.out).trans H0.out
  have HB1 := Lib.hid (HB0.out.trans (hb1.mono HB0.out.size))
  have hS1 : w.heap.size < w1.heap.size := Nat.lt_of_lt_of_le HS0.out hb1.size
  -- the trace's box, the other node's box
  have hR := one_new w1 (.cells #[.int .i64 1, .string { data := #[97] }, .int .u64 1, .slice A1 0 c1, .int .u64 z, .int .u64 6, .string { data := #[] }] 36)
  have hN2 := (Below.heap_alloc w1 (.cells #[.int .i64 1, .string { data := #[97] }, .int .u64 1, .slice A1 0 c1, .int .u64 z, .int .u64 6, .string { data := #[] }] 36) w.heap.size hS1).trans hN1
  have hS2 : w.heap.size < (w1.alloc (.cells #[.int .i64 1, .string { data := #[97] }, .int .u64 1, .slice A1 0 c1, .int .u64 z, .int .u64 6, .string { data := #[] }] 36)).heap.size := by simp; omega
  have HB2 := Lib.hid (HB1.out.alloc HB1.out.size (.cells #[.int .i64 1, .string { data := #[97] }, .int .u64 1, .slice A1 0 c1, .int .u64 z, .int .u64 6, .string { data := #[] }] 36))
  have HR2 := Lib.hid ((hr1.alloc (Nat.le_refl _) (.cells #[.int .i64 1, .string { data := #[97] }, .int .u64 1, .slice A1 0 c1, .int .u64 z, .int .u64 6, .string { data := #[] }] 36)).more (show w1.heap.size ≤ (w1.alloc (.cells #[.int .i64 1, .string { data := #[97] }, .int .u64 1, .slice A1 0 c1, .int .u64 z, .int .u64 6, .string { data := #[] }] 36)).heap.size by simp))
  have n0 := at_cell (i := 0) hN2 rfl
  have n1 := at_cell (i := 1) hN2 rfl
  have n2 := at_cell (i := 2) hN2 rfl
  have n3 := at_cell (i := 3) hN2 rfl
  have HX2 := Lib.hid hR
  have HN2 := Lib.hid hN2
  clear hr1 hac hN1 hb1 hR hN2 q0 q1 q2 q3
  have hw1 : w1.heap.size < (w1.alloc (.cells #[.int .i64 1, .string { data := #[97] }, .int .u64 1, .slice A1 0 c1, .int .u64 z, .int .u64 6, .string { data := #[] }] 36)).heap.size := by simp
  have HW1S := Lib.hid hw1
  have hO := one_new (w1.alloc (.cells #[.int .i64 1, .string { data := #[97] }, .int .u64 1, .slice A1 0 c1, .int .u64 z, .int .u64 6, .string { data := #[] }] 36)) (.cells #[.string { data := #[97] }, .bool false, .int .u64 1, .slice none 0 0] 25)
  have o2 := at_cell (i := 2) hO rfl
  have f2 := at_frozen (i := 2) hO
  have hsz : (w1.alloc (.cells #[.int .i64 1, .string { data := #[97] }, .int .u64 1, .slice A1 0 c1, .int .u64 z, .int .u64 6, .string { data := #[] }] 36)).heap.size = w1.heap.size + 1 := by simp
  have hO3 := one_new (w1.alloc (.cells #[.int .i64 1, .string { data := #[97] }, .int .u64 1, .slice A1 0 c1, .int .u64 z, .int .u64 6, .string { data := #[] }] 36)) (.cells #[.string { data := #[97] }, .bool false, .int .u64 2, .slice none 0 0] 25)
  have hN3 := (Below.heap_alloc (w1.alloc (.cells #[.int .i64 1, .string { data := #[97] }, .int .u64 1, .slice A1 0 c1, .int .u64 z, .int .u64 6, .string { data := #[] }] 36)) (.cells #[.string { data := #[97] }, .bool false, .int .u64 2, .slice none 0 0] 25) w.heap.size hS2).trans HN2.out
  have hR3 := (Below.heap_alloc (w1.alloc (.cells #[.int .i64 1, .string { data := #[97] }, .int .u64 1, .slice A1 0 c1, .int .u64 z, .int .u64 6, .string { data := #[] }] 36)) (.cells #[.string { data := #[97] }, .bool false, .int .u64 2, .slice none 0 0] 25) w1.heap.size hw1).trans HX2.out
  have HB3 := Lib.hid (HB2.out.alloc HB2.out.size (.cells #[.string { data := #[97] }, .bool false, .int .u64 2, .slice none 0 0] 25))
  have HR3 := Lib.hid ((HR2.out.alloc (Nat.le_refl _) (.cells #[.string { data := #[97] }, .bool false, .int .u64 2, .slice none 0 0] 25)).more (show (w1.alloc (.cells #[.int .i64 1, .string { data := #[97] }, .int .u64 1, .slice A1 0 c1, .int .u64 z, .int .u64 6, .string { data := #[] }] 36)).heap.size ≤ ((w1.alloc (.cells #[.int .i64 1, .string { data := #[97] }, .int .u64 1, .slice A1 0 c1, .int .u64 z, .int .u64 6, .string { data := #[] }] 36)).alloc (.cells #[.string { data := #[97] }, .bool false, .int .u64 2, .slice none 0 0] 25)).heap.size by simp))
  rw [hsz] at hO3
  have HT3 : Hid (Tr3 w.heap.size w1.heap.size (w1.heap.size + 1) (.cells #[.string { data := #[97] }, .bool false, .int .u64 1, .slice none 0 0] 25) (.cells #[.int .i64 1, .string { data := #[97] }, .int .u64 1, .slice A1 0 c1, .int .u64 z, .int .u64 6, .string { data := #[] }] 36) (.cells #[.string { data := #[97] }, .bool false, .int .u64 2, .slice none 0 0] 25) ((w1.alloc (.cells #[.int .i64 1, .string { data := #[97] }, .int .u64 1, .slice A1 0 c1, .int .u64 z, .int .u64 6, .string { data := #[] }] 36)).alloc (.cells #[.string { data := #[97] }, .bool false, .int .u64 2, .slice none 0 0] 25))) := ⟨hN3, hR3, hO3⟩
  have y0 := at_cell (i := 0) hN3 rfl
  have y1 := at_cell (i := 1) hN3 rfl
  have y2 := at_cell (i := 2) hN3 rfl
  have y3 := at_cell (i := 3) hN3 rfl
  clear hw1 hS1 hO hsz hO3 hN3 hR3
  go_wp2_with (first
    | (go_at_call 9; refine (HW2.out z A1 c1 w5 HR5.out HAC.out).mono ?_; rintro e w6 ⟨rfl, hb6⟩; have HB6 := Lib.hid ((HB5.out.alloc HB5.out.size (.cells #[.int .i64 1, .string { data := #[97] }, .int .u64 1, .slice A1 0 c1, .int .u64 z, .int .u64 6, .string { data := #[] }] 36)).trans (hb6.mono (HB5.out.alloc HB5.out.size (.cells #[.int .i64 1, .string { data := #[97] }, .int .u64 1, .slice A1 0 c1, .int .u64 z, .int .u64 6, .string { data := #[] }] 36)).size)); clear hb6)
    | (go_at_call 9; refine (HW1.out z A1 c1 w4 HR4.out HAC.out).mono ?_; rintro e w5 ⟨rfl, hb5⟩; have HB5 := Lib.hid ((HB4.out.alloc HB4.out.size (.cells #[.int .i64 1, .string { data := #[97] }, .int .u64 1, .slice A1 0 c1, .int .u64 z, .int .u64 6, .string { data := #[] }] 36)).trans (hb5.mono (HB4.out.alloc HB4.out.size (.cells #[.int .i64 1, .string { data := #[97] }, .int .u64 1, .slice A1 0 c1, .int .u64 z, .int .u64 6, .string { data := #[] }] 36)).size)); have HT5 := Lib.hid ((HT4.out.alloc (.cells #[.int .i64 1, .string { data := #[97] }, .int .u64 1, .slice A1 0 c1, .int .u64 z, .int .u64 6, .string { data := #[] }] 36)).below hb5); have HR5 := Lib.hid ((((HR4.out.alloc (Nat.le_refl _) (.cells #[.int .i64 1, .string { data := #[97] }, .int .u64 1, .slice A1 0 c1, .int .u64 z, .int .u64 6, .string { data := #[] }] 36)).more (show w4.heap.size ≤ (w4.alloc (.cells #[.int .i64 1, .string { data := #[97] }, .int .u64 1, .slice A1 0 c1, .int .u64 z, .int .u64 6, .string { data := #[] }] 36)).heap.size by simp)).below hb5).more hb5.size); have x0 := at_cell (i := 0) HT5.out.2.1 rfl; have x1 := at_cell (i := 1) HT5.out.2.1 rfl; have x2 := at_cell (i := 2) HT5.out.2.1 rfl; have x3 := at_cell (i := 3) HT5.out.2.1 rfl; have x4 := at_cell (i := 4) HT5.out.2.1 rfl; have x5 := at_cell (i := 5) HT5.out.2.1 rfl; have x6 := at_cell (i := 6) HT5.out.2.1 rfl; have o0 := at_cell (i := 0) HT5.out.2.2 rfl; have o1 := at_cell (i := 1) HT5.out.2.2 rfl; have o2 := at_cell (i := 2) HT5.out.2.2 rfl; have o3 := at_cell (i := 3) HT5.out.2.2 rfl; clear hb5)
    | (go_at_call 9; refine (HW0.out _).mono ?_; rintro e w4 ⟨rfl, hb4⟩; have HB4 := Lib.hid (HB3.out.trans (hb4.mono HB3.out.size)); have HT4 := Lib.hid (HT3.out.below hb4); have HR4 := Lib.hid ((HR3.out.below hb4).more hb4.size); have n0 := at_cell (i := 0) HT4.out.1 rfl; have n1 := at_cell (i := 1) HT4.out.1 rfl; have n2 := at_cell (i := 2) HT4.out.1 rfl; have n3 := at_cell (i := 3) HT4.out.1 rfl; have x0 := at_cell (i := 0) HT4.out.2.1 rfl; have x1 := at_cell (i := 1) HT4.out.2.1 rfl; have x2 := at_cell (i := 2) HT4.out.2.1 rfl; have x3 := at_cell (i := 3) HT4.out.2.1 rfl; have x4 := at_cell (i := 4) HT4.out.2.1 rfl; have x5 := at_cell (i := 5) HT4.out.2.1 rfl; have x6 := at_cell (i := 6) HT4.out.2.1 rfl; clear hb4))
  go_ret
  exact ⟨rfl, HB6.out⟩

end Go.Proofs.Ytbaokcigfgfoaaa
