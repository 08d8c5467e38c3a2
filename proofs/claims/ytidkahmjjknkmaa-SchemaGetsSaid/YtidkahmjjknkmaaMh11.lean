/- Texts of one proof, one behind the other. -/
import Derived.Test.YtidkahmjjknkmaaMh10
import Derived.Lib.ConvBytes
import Derived.WalkKit
import Derived.RegionTactic
import Derived.ChangeAlike
import Derived.Test.YtidkahmjjknkmaaProg
import Derived.Test.YtidkahmjjknkmaaMh3
import Derived.Test.YtidkahmjjknkmaaMh2

/- schema.Put. -/
namespace Go.Proofs.Ytidkahmjjknkmaa
open Go.RowKit

theorem cell_block {w w' : World} {p : Addr} (h : w'.heap[p.block]? = w.heap[p.block]?) : w'.cell? p = w.cell? p := by simp [World.cell?, h]
theorem reads_turn {w w' : World} {S : Nat → Prop} {B size n : Nat} {A : Option Addr} {xs : List Value} (h : Reads w B size A n xs) (ha : ∀ ad, A = some ad → 0 < n → ¬ S ad.block) (ht : Turn S w w') (hB : B ≤ w.heap.size) : Reads w' B size A n xs :=
  ⟨h.1, fun hn => by
    obtain ⟨ad, e, h1, h2⟩ := h.2 hn
    refine ⟨ad, e, h1, fun j u hu => (cell_block ?_).trans (h2 j u hu)⟩
    rw [block_of_add]
    exact ht.2.2.2.2 _ (Nat.lt_of_lt_of_le h1 hB) (ha ad e hn)⟩
theorem RowsV.less {w : World} {base base' : Nat} {S : Nat → Prop} {va : Value} {ps : List (List UInt8)} {vs : List Value} (h : RowsV w base S va ps vs) (hb : base' ≤ base) : RowsV w base' S va ps vs := by
  obtain ⟨h1, h2, h3, h4⟩ := h
  refine ⟨own_less h1 hb, h2, h3, fun i p hp => ?_⟩
  obtain ⟨v, h5, h6, h7⟩ := h4 i p hp
  exact ⟨v, h5, own_less h6 hb, h7⟩

/-- What Put answers where it lays something. -/
def PutPost (S : Nat → Prop) (bt N : Nat) (tl' : List (List UInt8)) (ps : List (List UInt8)) (w : World) (e : Ending) (w' : World) : Prop :=
  ∃ (va : Value) (S' : Nat → Prop), e = .returned (.tuple #[va, .int .i64 0]) ∧ Tab w' S' bt (N + 18) tl' ∧ (∀ k, S' k → k < w'.heap.size ∧ (S k ∨ w.heap.size ≤ k)) ∧ Rows w' w.heap.size S' va ps ∧ Turn S w w'

theorem fresh_one (bt n c : Nat) (ver : Int) (hv : ver < 2) (r : Rc) (A : Option Addr) (w : World) :
    Calls Try.prog 22 #[.int .i64 ver, .pointer (some ⟨bt, 0, none⟩), .agg #[.int .i64 r.kind, .string (tx r.target), .int .u64 r.rule, .slice A n c, .int .u64 r.out, .int .u64 r.time, .string (tx r.tag)]] w fun e w' => e = .returned (.slice none 0 0) ∧ Below w.heap.size w w' := by
  have HB := Lib.hid ((Below.refl w.heap.size w).alloc (Nat.le_refl _) (.cells #[.int .i64 r.kind, .string (tx r.target), .int .u64 r.rule, .slice A n c, .int .u64 r.out, .int .u64 r.time, .string (tx r.tag)] 26))
  have d1 : decide (ver < 2) = true := decide_eq_true hv
  clear hv
  go_enter Try.func22, Try.ntmps22
  go_wp2
  go_ret
  exact ⟨rfl, HB.out⟩

theorem tfold_tnew_len (ts l : List (List UInt8)) : (ts.foldl tput l).length ≤ l.length + ts.length := tfold_len ts l
theorem payL_len {ver : Int} {tl : List (List UInt8)} {r : Rc} {l : List Dp} (h : MayP ver r l) : (payL ver tl r l).length ≤ 19 := by
  unfold payL freT
  rw [List.length_append]
  split
  · simp
  · have h1 := freshL_len (rnames r l) tl
    have h2 := (rnames_le h).2
    simp; omega

/-- freshTexts, at whichever version. -/
theorem fresh_any (S : Nat → Prop) (bt N n c : Nat) (ver : Int) (tl : List (List UInt8)) (r : Rc) (A : Option Addr) (l : List Dp) (hm : MayP ver r l) (hfit : Fits r l) (htl : tl.length ≤ 1000000000) (hN : N ≤ 1000000000) (w : World) (hT : Tab w S bt N tl) (hr : Reads w w.heap.size 3 A n (dps l)) :
    Calls Try.prog 22 #[.int .i64 ver, .pointer (some ⟨bt, 0, none⟩), .agg #[.int .i64 r.kind, .string (tx r.target), .int .u64 r.rule, .slice A n c, .int .u64 r.out, .int .u64 r.time, .string (tx r.tag)]] w fun e w' => ∃ (va : Value) (S' : Nat → Prop), e = .returned va ∧ Tab w' S' bt (N + 18) (tabT ver tl r l) ∧ (∀ k, S' k → k < w'.heap.size ∧ (S k ∨ w.heap.size ≤ k)) ∧ Rows w' w.heap.size S' va (freT ver tl r l) ∧ Turn S w w' := by
  obtain ⟨h1, h2, h3, h4⟩ := may_names hm
  have hn : n ≤ 1000 := by have := hr.1; rw [dps_len] at this; omega
  unfold tabT freT
  by_cases hv : ver < 2
  · rw [if_pos hv, if_pos hv]
    refine (fresh_one bt n c ver hv r A w).mono ?_
    rintro e w' ⟨rfl, hb⟩
    have h5 := hT.keep (fun k _ hk => hb.block k hk)
    exact ⟨_, fun k => S k ∧ k < w.heap.size, rfl, ((hT.wide (S2 := fun k => S k ∧ k < w.heap.size) (fun k a b => ⟨a, b⟩)).keep (fun k _ hk => hb.block k hk)).more (by omega), fun k hk => ⟨Nat.lt_of_lt_of_le hk.2 hb.size, .inl hk.1⟩, ⟨[], rows_nil _ _ _⟩, Turn.of_below hb⟩
  · rw [if_neg hv, if_neg hv]
    have hle := rnames_le hm
    refine (fresh_two S bt N n c ver hv tl r A l hn hfit hle.1 htl hN (by omega) w hT hr).mono ?_
    rintro e w' ⟨va, S', rfl, h5, h6, h7, h8⟩
    exact ⟨va, S', rfl, h5.more (by omega), h6, h7, h8⟩

theorem tabT_len {ver : Int} {tl : List (List UInt8)} {r : Rc} {l : List Dp} (h : MayP ver r l) : (tabT ver tl r l).length ≤ tl.length + 18 := by
  unfold tabT
  split
  · omega
  · have h1 := tfold_len (rnames r l) tl
    have h2 := (rnames_le h).2
    omega

set_option maxRecDepth 100000 in
set_option maxHeartbeats 4000000 in
theorem put_ok (S : Nat → Prop) (bt N n c : Nat) (ver : Int) (tl : List (List UInt8)) (r : Rc) (A : Option Addr) (l : List Dp) (hm : MayP ver r l) (hfit : Fits r l) (hnu : Nums r l) (htl : tl.length ≤ 1000000000) (hN : N ≤ 1000000000) (w : World) (hT : Tab w S bt N tl) (hap : ∀ ad, A = some ad → 0 < n → ¬ S ad.block) (hr : Reads w w.heap.size 3 A n (dps l)) :
    Calls Try.prog 10 #[.int .i64 ver, .pointer (some ⟨bt, 0, none⟩), .agg #[.int .i64 r.kind, .string (tx r.target), .int .u64 r.rule, .slice A n c, .int .u64 r.out, .int .u64 r.time, .string (tx r.tag)]] w fun e w' => PutPost S bt N (tabT ver tl r l) (payL ver tl r l) w e w' := by
  obtain ⟨i0, ii0, iz0, iz1, iz2⟩ := info_parts (show (Try.prog.info? 44).map (fun i => (i.zero, i.size, i.bytes)) = some (some (.slice none 0 0), 1, 24) from by kernel_rfl)
  have hn : n ≤ 1000 := by obtain ⟨_, _, h3, _⟩ := may_names hm; have := hr.1; rw [dps_len] at this; omega
  have h0 := one_new w (.cells #[.int .i64 r.kind, .string (tx r.target), .int .u64 r.rule, .slice A n c, .int .u64 r.out, .int .u64 r.time, .string (tx r.tag)] 26)
  have hz : (w.alloc (.cells #[.int .i64 r.kind, .string (tx r.target), .int .u64 r.rule, .slice A n c, .int .u64 r.out, .int .u64 r.time, .string (tx r.tag)] 26)).heap.size = w.heap.size + 1 := by simp
  have hb0 := (Below.refl w.heap.size w).alloc (Nat.le_refl _) (.cells #[.int .i64 r.kind, .string (tx r.target), .int .u64 r.rule, .slice A n c, .int .u64 r.out, .int .u64 r.time, .string (tx r.tag)] 26)
  have HMAY : Hid (∀ W, Below w.heap.size w W → Calls Try.prog 21 #[.int .i64 ver, .agg #[.int .i64 r.kind, .string (tx r.target), .int .u64 r.rule, .slice A n c, .int .u64 r.out, .int .u64 r.time, .string (tx r.tag)]] W fun e w' => e = .returned (.bool true) ∧ Below W.heap.size W w') := fun W hb => (may_any ver r A n c l hn hfit W ((hr.below hb).more hb.size)).mono fun e w' ⟨h1, h2⟩ => ⟨h1.yes hm, h2⟩
  have HFR : Hid (∀ W, Below w.heap.size w W → Calls Try.prog 22 #[.int .i64 ver, .pointer (some ⟨bt, 0, none⟩), .agg #[.int .i64 r.kind, .string (tx r.target), .int .u64 r.rule, .slice A n c, .int .u64 r.out, .int .u64 r.time, .string (tx r.tag)]] W fun e w' => ∃ (va : Value) (S' : Nat → Prop), e = .returned va ∧ Tab w' S' bt (N + 18) (tabT ver tl r l) ∧ (∀ k, S' k → k < w'.heap.size ∧ ((S k ∧ k < w.heap.size) ∨ W.heap.size ≤ k)) ∧ Rows w' W.heap.size S' va (freT ver tl r l) ∧ Turn (fun k => S k ∧ k < w.heap.size) W w') := fun W hb => fresh_any (fun k => S k ∧ k < w.heap.size) bt N n c ver tl r A l hm hfit htl hN W ((hT.wide (fun k a b => ⟨a, b⟩)).keep (fun k hk _ => hb.block k hk.2)) ((hr.below hb).more hb.size)
  have HWR : Hid (∀ (T : Nat → Prop) (W : World), Tab W T bt (N + 18) (tabT ver tl r l) → Reads W W.heap.size 3 A n (dps l) → Calls Try.prog 23 #[.int .i64 ver, .pointer (some ⟨bt, 0, none⟩), .agg #[.int .i64 r.kind, .string (tx r.target), .int .u64 r.rule, .slice A n c, .int .u64 r.out, .int .u64 r.time, .string (tx r.tag)]] W fun e w' => ∃ v, e = .returned v ∧ w'.ownsRow W.heap.size 5 1 v (payB ver (tabT ver tl r l) r l).length ((payB ver (tabT ver tl r l) r l).map bv) ∧ Below W.heap.size W w') := fun T W h1 h2 => written_any T bt (N + 18) n c ver (tabT ver tl r l) r A l hm hnu (by have := tabT_len (tl := tl) hm; omega) W h1 h2
  have HLEN : Hid ((freT ver tl r l).length ≤ 18) := by have h1 := payL_len (tl := tl) hm; unfold payL at h1; rw [List.length_append] at h1; show _ ≤ _; simp at h1; omega
  have d1 : decide (ver < 1) = false := decide_eq_false (by have := hm.1; omega)
  have d2 : decide (ver > 3) = false := decide_eq_false (by have := hm.2.1; omega)
  have HA0 := Lib.hid h0
  have HZ := Lib.hid hz
  have HB0 := Lib.hid hb0
  have HR := Lib.hid hr
  have HAP := Lib.hid hap
  have HCELL : Hid (∀ {i : Nat} {x : Value}, (#[.int .i64 r.kind, .string (tx r.target), .int .u64 r.rule, .slice A n c, .int .u64 r.out, .int .u64 r.time, .string (tx r.tag)] : Array Value)[i]? = some x → ∀ {W : World}, W.heap[w.heap.size]? = some (.cells #[.int .i64 r.kind, .string (tx r.target), .int .u64 r.rule, .slice A n c, .int .u64 r.out, .int .u64 r.time, .string (tx r.tag)] 26 (0, 0)) → W.cell? ⟨w.heap.size, i, none⟩ = some x) := fun hi W hb => at_cell hb hi
  have q0 := at_cell (i := 0) h0 rfl
  have q1 := at_cell (i := 1) h0 rfl
  have q2 := at_cell (i := 2) h0 rfl
  have q3 := at_cell (i := 3) h0 rfl
  have q4 := at_cell (i := 4) h0 rfl
  have q5 := at_cell (i := 5) h0 rfl
  have q6 := at_cell (i := 6) h0 rfl
  clear h0 hz hb0 hm hfit hnu hT hr hn htl hN hap
  go_enter Try.func10, Try.ntmps10
  go_wp2_with (go_at_call 21; refine (HMAY.out _ HB0.out).mono ?_; rintro e w5 ⟨rfl, hb5⟩; have HB5 := Lib.hid (HB0.out.trans (hb5.mono HB0.out.size)); have HH5 := Lib.hid ((hb5.block w.heap.size (by rw [HZ.out]; omega)).trans HA0.out); have HZ5 : Hid (w.heap.size + 1 ≤ w5.heap.size) := (by have h1 := hb5.size; rw [HZ.out] at h1; exact h1); clear hb5)
  refine wp_region_held (S := fun v1 => v1.heap[w.heap.size]? = some (.cells #[.int .i64 r.kind, .string (tx r.target), .int .u64 r.rule, .slice A n c, .int .u64 r.out, .int .u64 r.time, .string (tx r.tag)] 26 (0, 0))) (by kernel_rfl) ?_
  have hS : w5.drew.heap[w.heap.size]? = some (.cells #[.int .i64 r.kind, .string (tx r.target), .int .u64 r.rule, .slice A n c, .int .u64 r.out, .int .u64 r.time, .string (tx r.tag)] 26 (0, 0)) := HH5.out
  refine h_take 0 (.int .i64 ver) rfl (by kernel_rfl) (by kernel_rfl) (by kernel_rfl) (fun _ _ _ h => h) (by kernel_rfl) hS (fun _ _ => by kernel_rfl) ?_
  refine h_take 1 (.pointer (some ⟨bt, 0, none⟩)) rfl (by kernel_rfl) (by kernel_rfl) (by kernel_rfl) (fun _ _ _ h => h) (by kernel_rfl) hS (fun _ _ => by kernel_rfl) ?_
  refine h_take 2 (.agg #[.int .i64 r.kind, .string (tx r.target), .int .u64 r.rule, .slice A n c, .int .u64 r.out, .int .u64 r.time, .string (tx r.tag)]) rfl (by kernel_rfl) (by kernel_rfl) (by kernel_rfl) (fun _ _ _ h => h) (by kernel_rfl) hS (by intro v1 hv; have q0 := HCELL.out (i := 0) rfl hv; have q1 := HCELL.out (i := 1) rfl hv; have q2 := HCELL.out (i := 2) rfl hv; have q3 := HCELL.out (i := 3) rfl hv; have q4 := HCELL.out (i := 4) rfl hv; have q5 := HCELL.out (i := 5) rfl hv; have q6 := HCELL.out (i := 6) rfl hv; go_simp; try rfl) ?_
  refine h_take 4 (.int .i64 ver) rfl (by kernel_rfl) (by kernel_rfl) (by kernel_rfl) (fun _ _ _ h => h) (by kernel_rfl) hS (fun _ _ => by kernel_rfl) ?_
  refine h_take 5 (.pointer (some ⟨bt, 0, none⟩)) rfl (by kernel_rfl) (by kernel_rfl) (by kernel_rfl) (fun _ _ _ h => h) (by kernel_rfl) hS (fun _ _ => by kernel_rfl) ?_
  refine h_take 6 (.agg #[.int .i64 r.kind, .string (tx r.target), .int .u64 r.rule, .slice A n c, .int .u64 r.out, .int .u64 r.time, .string (tx r.tag)]) rfl (by kernel_rfl) (by kernel_rfl) (by kernel_rfl) (fun _ _ _ h => h) (by kernel_rfl) hS (by intro v1 hv; have q0 := HCELL.out (i := 0) rfl hv; have q1 := HCELL.out (i := 1) rfl hv; have q2 := HCELL.out (i := 2) rfl hv; have q3 := HCELL.out (i := 3) rfl hv; have q4 := HCELL.out (i := 4) rfl hv; have q5 := HCELL.out (i := 5) rfl hv; have q6 := HCELL.out (i := 6) rfl hv; go_simp; try rfl) ?_
  refine h_one 3 rfl (by kernel_rfl) (by kernel_rfl) (fun K hK => ?_)
  go_simp
  refine (HFR.out _ HB5.out.drew).mono ?_
  rintro e w6 ⟨va, S', rfl, ht6, hs6, ⟨vs, hv6⟩, htu6⟩
  have hS6 : w6.heap[w.heap.size]? = some (.cells #[.int .i64 r.kind, .string (tx r.target), .int .u64 r.rule, .slice A n c, .int .u64 r.out, .int .u64 r.time, .string (tx r.tag)] 26 (0, 0)) := (htu6.2.2.2.2 w.heap.size (by have := HZ5.out; show _ < w5.heap.size; omega) (fun h => by omega)).trans HH5.out
  have htw6 : Turn S w w6 := (Turn.of_below HB5.out).trans (b := w5) (c := w6) htu6 (fun k h1 h2 => h2.1)
  have hsz6 : w.heap.size + 1 ≤ w6.heap.size := Nat.le_trans HZ5.out htu6.2.2.2.1
  have hr6 : Reads w6 w6.heap.size 3 A n (dps l) := (reads_turn (HR.out.below HB5.out) (fun ad h1 h2 h3 => HAP.out ad h1 h2 h3.1) (Turn.trans (S := fun k => S k ∧ k < w.heap.size) (a := w5) (b := w5) (Turn.refl _ _) htu6 (fun _ _ h => h)) HB5.out.size).more (by have := htu6.2.2.2.1; have := HB5.out.size; omega)
  refine hK _ _ hS6 ?_
  clear hK K
  refine h_one 7 rfl (by kernel_rfl) (by kernel_rfl) (fun K hK => ?_)
  go_simp
  refine (HWR.out S' w6 ht6 hr6).mono ?_
  rintro e w9 ⟨v9, rfl, ho9, hb9⟩
  obtain ⟨A9, c9, rfl, hc9⟩ := own_slice ho9
  have hS9 : w9.heap[w.heap.size]? = some (.cells #[.int .i64 r.kind, .string (tx r.target), .int .u64 r.rule, .slice A n c, .int .u64 r.out, .int .u64 r.time, .string (tx r.tag)] 26 (0, 0)) := (hb9.block w.heap.size (by omega)).trans hS6
  have hv9 := hv6.below hb9
  refine hK _ _ hS9 ?_
  clear hK K
  refine h_one 8 rfl (by kernel_rfl) (by kernel_rfl) (fun K hK => ?_)
  go_simp
  have hz10 : (w9.alloc (.cells #[.slice A9 (payB ver (tabT ver tl r l) r l).length c9] 44)).heap.size = w9.heap.size + 1 := by simp
  have hS10 : (w9.alloc (.cells #[.slice A9 (payB ver (tabT ver tl r l) r l).length c9] 44)).heap[w.heap.size]? = some (.cells #[.int .i64 r.kind, .string (tx r.target), .int .u64 r.rule, .slice A n c, .int .u64 r.out, .int .u64 r.time, .string (tx r.tag)] 26 (0, 0)) := (Below.heap_alloc w9 _ _ (by have := hb9.size; omega)).trans hS9
  have hv10 := hv9.below ((Below.refl _ w9).alloc (Nat.le_refl _) (.cells #[.slice A9 (payB ver (tabT ver tl r l) r l).length c9] 44))
  have ho10 := World.ownsRow.alloc ho9 (.cells #[.slice A9 (payB ver (tabT ver tl r l) r l).length c9] 44)
  have hr10 := reads_one_row w9 44 (.slice A9 (payB ver (tabT ver tl r l) r l).length c9)
  refine hK _ _ hS10 ?_
  clear hK K
  refine h_one 9 rfl (by kernel_rfl) (by kernel_rfl) (fun K hK => ?_)
  refine wp_append_many (.tmp 25) (.tmp 30) 32 rfl w5.heap.size 44 i0 _ 1 24 Try.underlying32 ii0 iz0 iz1 iz2 rfl (by decide) va (freT ver tl r l).length vs rfl hv10.1 (some ⟨w9.heap.size, 0, none⟩) 1 1 (w9.heap.size + 1) [.slice A9 (payB ver (tabT ver tl r l) r l).length c9] rfl (by simp) hr10 (fun u hu => by obtain rfl := List.mem_singleton.1 hu; rfl) (by have := HLEN.out; unfold maxLen; omega) (by have := HLEN.out; omega) (by have h1 := htu6.2.2.2.1; have h2 := hb9.size; have h3 : w5.drew.heap.size = w5.heap.size := rfl; omega) ?_
  intro v11 w11 ho11 hg11 hv11
  have hS11 : w11.heap[w.heap.size]? = some (.cells #[.int .i64 r.kind, .string (tx r.target), .int .u64 r.rule, .slice A n c, .int .u64 r.out, .int .u64 r.time, .string (tx r.tag)] 26 (0, 0)) := (hg11.block w.heap.size (by have := hb9.size; omega) (fun h => by have h1 := own_block hv10.1 _ h.symm; have h2 := HZ5.out; have h3 : w5.drew.heap.size = w5.heap.size := rfl; omega)).trans hS10
  have hfin := (hv10.push (p := payB ver (tabT ver tl r l) r l) (own_less ho10 (show w5.drew.heap.size ≤ w6.heap.size from htu6.2.2.2.1)) (own_set ho10 (fun k hk => (hs6 k hk).1)) ho11 hg11 hv11 (fun h => by have h1 := (hs6 _ h).1; have := hb9.size; omega)).less (show w.heap.size ≤ w5.drew.heap.size from HB5.out.size)
  have hb10 : Below w6.heap.size w6 (w9.alloc (.cells #[.slice A9 (payB ver (tabT ver tl r l) r l).length c9] 44)) := hb9.alloc hb9.size _
  have htu11 : Turn (fun k => va.ownBlock = some k) w6 w11 := (Turn.of_below hb10).grown hg11 (fun k hk _ => hk)
  have ht11 := ht6.turn htu11 (fun k h1 _ h2 => hv6.2.1 k h2 h1)
  have htw11 : Turn S w w11 := htw6.trans htu11 (fun k h1 h2 => by have h3 := own_block hv6.1 k h2; have h4 := HB5.out.size; have h5 : w5.drew.heap.size = w5.heap.size := rfl; omega)
  have hs11 : ∀ k, S' k → k < w11.heap.size ∧ (S k ∨ w.heap.size ≤ k) := fun k hk => ⟨Nat.lt_of_lt_of_le (hs6 k hk).1 htu11.2.2.2.1, by rcases (hs6 k hk).2 with h | h; exact .inl h.1; exact .inr (Nat.le_trans HB5.out.size h)⟩
  have FIN := Lib.hid (show PutPost S bt N (tabT ver tl r l) (payL ver tl r l) w (.returned (.tuple #[v11, .int .i64 0])) w11 from ⟨v11, S', rfl, ht11, hs11, ⟨_, hfin⟩, htw11⟩)
  refine hK _ _ hS11 ?_
  clear hK K
  refine h_take 10 (v11) rfl (by kernel_rfl) (by kernel_rfl) (by kernel_rfl) (fun _ _ _ h => h) (by kernel_rfl) hS11 (fun _ _ => by kernel_rfl) ?_
  refine h_take 11 (.int .i64 0) rfl (by kernel_rfl) (by kernel_rfl) (by kernel_rfl) (fun _ _ _ h => h) (by kernel_rfl) hS11 (fun _ _ => by kernel_rfl) ?_
  refine wpAnyH_done (by kernel_rfl) ?_ _
  go_simp

  go_wp2
  go_ret2
  exact FIN.out

end Go.Proofs.Ytidkahmjjknkmaa

/- Payloads that are read; the law's strings, bytes and few. -/
namespace Go.Proofs.Ytidkahmjjknkmaa
open Go.RowKit

/-- Payloads as they lie in memory. -/
def PlsV (w : World) (B : Nat) (A : Option Addr) (n : Nat) (ps : List (List UInt8)) (vs : List Value) : Prop :=
  Reads w B 1 A n vs ∧ ps.length = n ∧ ∀ (i : Nat) (p : List UInt8), ps[i]? = some p → ∃ (A' : Option Addr) (c' : Nat), vs[i]? = some (.slice A' p.length c') ∧ Reads w B 1 A' p.length (p.map bv)
def Pls (w : World) (B : Nat) (A : Option Addr) (n : Nat) (ps : List (List UInt8)) : Prop := ∃ vs, PlsV w B A n ps vs
theorem Pls.below {w w' : World} {B : Nat} {A : Option Addr} {n : Nat} {ps : List (List UInt8)} (h : Pls w B A n ps) (hb : Below B w w') : Pls w' B A n ps := by
  obtain ⟨vs, h1, h2, h3⟩ := h
  refine ⟨vs, h1.below hb, h2, fun i p hp => ?_⟩
  obtain ⟨A', c', h4, h5⟩ := h3 i p hp
  exact ⟨A', c', h4, h5.below hb⟩
theorem Pls.more {w : World} {B B' : Nat} {A : Option Addr} {n : Nat} {ps : List (List UInt8)} (h : Pls w B A n ps) (hB : B ≤ B') : Pls w B' A n ps := by
  obtain ⟨vs, h1, h2, h3⟩ := h
  refine ⟨vs, h1.more hB, h2, fun i p hp => ?_⟩
  obtain ⟨A', c', h4, h5⟩ := h3 i p hp
  exact ⟨A', c', h4, h5.more hB⟩
theorem Pls.of_rows {w : World} {base : Nat} {S : Nat → Prop} {va : Value} {ps : List (List UInt8)} (h : Rows w base S va ps) : ∃ A c, va = .slice A ps.length c ∧ (A = none → c = 0) ∧ Pls w w.heap.size A ps.length ps := by
  obtain ⟨vs, h1, h2, h3, h4⟩ := h
  obtain ⟨A, c, rfl, hc⟩ := own_slice h1
  refine ⟨A, c, rfl, hc, vs, Reads.of_own h1, rfl, fun i p hp => ?_⟩
  obtain ⟨v, h5, h6, h7⟩ := h4 i p hp
  obtain ⟨A', c', rfl, _⟩ := own_slice h6
  exact ⟨A', c', h5, Reads.of_own h6⟩

def StRel (w : World) (ps : List (List UInt8)) (va idx : Value) (wr : World) : Prop :=
  ∃ i : Nat, i ≤ ps.length ∧ idx = .int .i64 (i : Int) ∧ wr.ownsRow w.heap.size 9 1 va i ((ps.take i).map tsv) ∧ Below w.heap.size w wr

set_option maxRecDepth 100000 in
set_option maxHeartbeats 1000000 in
theorem strings_any (A : Option Addr) (n c : Nat) (ps : List (List UInt8)) (hn : n ≤ 1000000) (w : World) (h : Pls w w.heap.size A n ps) :
    Calls Try.prog 14 #[.slice A n c] w fun e w' => ∃ A' c', e = .returned (.slice A' n c') ∧ Reads w' w'.heap.size 1 A' n (ps.map tsv) ∧ Below w.heap.size w w' := by
  obtain ⟨i0, ii0, iz0, iz1, iz2⟩ := info_parts tinfo
  obtain ⟨vs, h1, h2, h3⟩ := h
  have H1 := Lib.hid h1
  have HL := Lib.hid h2
  have H3 := Lib.hid h3
  clear h1 h2 h3
  go_enter Try.func14, Try.ntmps14
  go_wp2
  go_loopw [3, 9] (fun va idx wr => StRel w ps va idx wr) (fun va idx wr => n - (intOf idx).toNat)
  case atStart => exact ⟨0, by omega, rfl, own_empty w _, (Below.refl _ _).alloc (Nat.le_refl _) _⟩
  case round =>
    obtain ⟨i, hi, rfl, hown, hb⟩ := hrel
    rw [HL.out] at hi
    have HO := Lib.hid hown
    have HBR := Lib.hid hb
    by_cases hlt : i < n
    · obtain ⟨p, hp⟩ : ∃ p, ps[i]? = some p := ⟨_, List.getElem?_eq_getElem (by rw [HL.out]; exact hlt)⟩
      obtain ⟨A4, c4, hv, hr4⟩ := H3.out i p hp
      obtain ⟨ad, rfl, _, hcx⟩ := (H1.out.below hb).2 (by omega)
      have k0 := hcx i _ hv
      have hr5 : Reads wr w.heap.size 1 A4 p.length (p.map bv) := hr4.below hb
      have hcv : (convert 44 9 (.slice A4 p.length c4)).run Try.prog wr = .ok (.string (tx p)) wr := conv_reads Try.underlying44 Try.underlying5 Try.underlying9 hr5
      have htk : (ps.take (i + 1)).map tsv = (ps.take i).map tsv ++ [.string (tx p)] := by rw [List.take_add_one, hp, List.map_append]; rfl
      have HTK := Lib.hid htk
      have HO2 := Lib.hid (World.ownsRow.alloc hown (.cells #[.string (tx p)] 9))
      have HB2 := Lib.hid (hb.alloc hb.size (.cells #[.string (tx p)] 9))
      have HR2 := Lib.hid (reads_one_row wr 9 (.string (tx p)))
      have hi0 : (0 : Int) ≤ (i : Int) := by omega
      have hi1 : (i : Int) < (n : Int) := by omega
      obtain ⟨m, hm⟩ : ∃ m, m = p.length := ⟨_, rfl⟩
      rw [← hm] at k0 hcv
      clear hp hv hr4 hcx hr5 htk hown hb hm
      go_wp2_with (at_builtin; refine wpList_append_told _ rfl (.tmp 13) (.tmp 16) 22 rfl w.heap.size 9 i0 _ 1 16 Try.underlying22 ii0 iz0 iz1 iz2 rfl (by decide) _ i _ rfl HO2.out (some ⟨wr.heap.size, 0, none⟩) 1 1 (wr.heap.size + 1) [.string (tx p)] rfl (by simp) HR2.out (fun u hu => by obtain rfl := List.mem_singleton.1 hu; rfl) (by unfold maxLen; omega) (by omega) HB2.out.size ?_; intro v6 w6 ho6 hg6 hv6; rw [← HTK.out] at ho6; have HO6 := Lib.hid ho6; have HB6 := Lib.hid (HB2.out.grown hg6 HB2.out.size (own_block HO2.out)); clear ho6 hg6 hv6)
      exact ⟨⟨i + 1, by rw [HL.out]; omega, by go_num, HO6.out, HB6.out⟩, by simp [intOf]; omega⟩
    · obtain rfl : i = n := by omega
      rw [List.take_of_length_le (by rw [HL.out]; omega)] at HO
      obtain ⟨A', c', rfl, _⟩ := own_slice HO.out
      clear hown hb
      go_wp2
      go_ret
      exact ⟨A', c', rfl, Reads.of_own HO.out, HBR.out⟩

/-- What stands at a round of bytes: rows that are read, each in a block of its own. -/
def ByRel (w : World) (ps : List (List UInt8)) (va idx : Value) (wr : World) : Prop :=
  ∃ (i : Nat) (vs : List Value) (va' : Value), va' = va ∧ i ≤ ps.length ∧ idx = .int .i64 (i : Int) ∧ wr.ownsRow w.heap.size 44 1 va' i vs ∧ Below w.heap.size w wr ∧ ∀ (j : Nat) (p : List UInt8), j < i → ps[j]? = some p → ∃ (b c' : Nat) (cs : Array Value) (f : Nat × Nat), vs[j]? = some (.slice (some ⟨b, 0, none⟩) p.length c') ∧ wr.heap[b]? = some (.cells cs 5 f) ∧ ∀ (k : Nat) (u : Value), (p.map bv)[k]? = some u → cs[k]? = some u

set_option maxRecDepth 100000 in
set_option maxHeartbeats 1000000 in
theorem bytes_any (L : Option Addr) (n c : Nat) (ps : List (List UInt8)) (hn : n ≤ 1000000) (hps : ∀ p ∈ ps, p.length ≤ 1000000) (w : World) (h : Reads w w.heap.size 1 L n (ps.map tsv)) :
    Calls Try.prog 18 #[.slice L n c] w fun e w' => ∃ A' c', e = .returned (.slice A' n c') ∧ (A' = none → c' = 0) ∧ Pls w' w'.heap.size A' n ps ∧ Below w.heap.size w w' := by
  obtain ⟨i0, ii0, iz0, iz1, iz2⟩ := info_parts (show (Try.prog.info? 44).map (fun i => (i.zero, i.size, i.bytes)) = some (some (.slice none 0 0), 1, 24) from by kernel_rfl)
  have HL : Hid (ps.length = n) := by have := h.1; show _ = _; simpa using this
  have H1 := Lib.hid h
  have HP := Lib.hid hps
  clear h hps
  go_enter Try.func18, Try.ntmps18
  go_wp2
  go_loopw [3, 8] (fun va idx wr => ByRel w ps va idx wr) (fun va idx wr => n - (intOf idx).toNat)
  case atStart => exact ⟨0, [], _, rfl, by omega, rfl, World.ownsRow_nil _ _ _ _, Below.refl _ _, fun j p hj => by omega⟩
  case round =>
    obtain ⟨i, vs, va, rfl, hi, rfl, hown, hb, hall⟩ := hrel
    rw [HL.out] at hi
    have HO := Lib.hid hown
    have HBR := Lib.hid hb
    have HALL := Lib.hid hall
    by_cases hlt : i < n
    · obtain ⟨p, hp⟩ : ∃ p, ps[i]? = some p := ⟨_, List.getElem?_eq_getElem (by rw [HL.out]; exact hlt)⟩
      obtain ⟨ad, rfl, _, hcx⟩ := (H1.out.below hb).2 (by omega)
      have k0 := hcx i (tsv p) (by rw [List.getElem?_map, hp]; rfl)
      unfold tsv at k0
      have hpl := HP.out p (List.mem_of_getElem? hp)
      have hcv : (convert 9 44 (.string (tx p))).run Try.prog wr = .ok (.slice (some ⟨wr.heap.size, 0, none⟩) (tx p).size (grownCap wr (tx p).size 0 5)) (Lib.bytesWorld wr 5 (tx p)) := Lib.run_convert_string_bytes wr 9 44 5 (tx p) Try.underlying9 Try.underlying44 Try.underlying5
      obtain ⟨X, hX⟩ : ∃ X, X = Lib.bytesWorld wr 5 (tx p) := ⟨_, rfl⟩
      obtain ⟨cap, hcap⟩ : ∃ cap, cap = grownCap wr (tx p).size 0 5 := ⟨_, rfl⟩
      have hbX : Below wr.heap.size wr X := by
        rw [hX]
        exact ⟨rfl, rfl, rfl, by rw [Lib.bytesWorld_size]; omega, fun k hk => Lib.bytesWorld_at_old wr _ _ k hk⟩
      have hXs : X.heap.size = wr.heap.size + 1 := by rw [hX]; exact Lib.bytesWorld_size _ _ _
      have hXn : X.heap[wr.heap.size]? = some (.cells (Lib.bytesCells wr 5 (tx p)) 5 ((Lib.bytesCells wr 5 (tx p)).size, (Lib.bytesCells wr 5 (tx p)).size + 1)) := by rw [hX]; exact Lib.bytesWorld_at_new _ _ _
      have hcs : ∀ (k : Nat) (u : Value), (p.map bv)[k]? = some u → (Lib.bytesCells wr 5 (tx p))[k]? = some u := fun k u hu => by
        have hk : k < p.length := by simpa using (List.getElem?_eq_some_iff.1 hu).1
        unfold Lib.bytesCells
        rw [Array.getElem?_append_left (by simp [tx]; exact hk)]
        simp [tx, hk] at hu ⊢
        exact hu
      rw [← hX, ← hcap, tx_size] at hcv
      have HBX := Lib.hid hbX
      have HXS := Lib.hid hXs
      have HXN := Lib.hid hXn
      have HCS := Lib.hid hcs
      have hp5 := Lib.hid hp
      have HOX := Lib.hid (World.ownsRow.alloc (own_below hown hbX) (.cells #[.slice (some ⟨wr.heap.size, 0, none⟩) p.length cap] 44))
      have HB2 := Lib.hid ((hb.trans (hbX.mono hb.size)).alloc (by have := hb.size; omega) (.cells #[.slice (some ⟨wr.heap.size, 0, none⟩) p.length cap] 44))
      have HR2 := Lib.hid (reads_one_row X 44 (.slice (some ⟨wr.heap.size, 0, none⟩) p.length cap))
      have hi0 : (0 : Int) ≤ (i : Int) := by omega
      have hi1 : (i : Int) < (n : Int) := by omega
      obtain ⟨m, hm⟩ : ∃ m, m = p.length := ⟨_, rfl⟩
      rw [← hm] at hcv HOX HB2 HR2
      have HM := Lib.hid hm
      clear hp hcx hown hb hall hX hcap hbX hXs hXn hcs hpl hm
      go_wp2_with (at_builtin; refine wpList_append_told _ rfl (.tmp 12) (.tmp 15) 32 rfl w.heap.size 44 i0 _ 1 24 Try.underlying32 ii0 iz0 iz1 iz2 rfl (by decide) _ i _ rfl HOX.out (some ⟨X.heap.size, 0, none⟩) 1 1 (X.heap.size + 1) [.slice (some ⟨wr.heap.size, 0, none⟩) m cap] rfl (by simp) HR2.out (fun u hu => by obtain rfl := List.mem_singleton.1 hu; rfl) (by unfold maxLen; omega) (by omega) HB2.out.size ?_; intro v6 w6 ho6 hg6 hv6; have HO6 := Lib.hid ho6; have HG6 := Lib.hid hg6; have HB6 := Lib.hid (HB2.out.grown hg6 HB2.out.size (own_block HOX.out)); clear ho6 hg6 hv6)
      refine ⟨⟨i + 1, _, _, rfl, by rw [HL.out]; omega, by go_num, HO6.out, HB6.out, fun j q hj hq => ?_⟩, by simp [intOf]; omega⟩
      have keep : ∀ (b : Nat) (cs : Array Value) (f : Nat × Nat), X.heap[b]? = some (.cells cs 5 f) → w6.heap[b]? = some (.cells cs 5 f) := fun b cs f h => by
        have hlt : b < X.heap.size := by
          rcases Nat.lt_or_ge b X.heap.size with h2 | h2
          · exact h2
          · rw [Array.getElem?_eq_none h2] at h; cases h
        have h2 := (Below.heap_alloc X (.cells #[.slice (some ⟨wr.heap.size, 0, none⟩) m cap] 44) b hlt).trans h
        exact (HG6.out.block b (by simp; omega) (fun h3 => own_cells HOX.out h2 (by decide) h3.symm)).trans h2
      have hvl : vs.length = i := by have := HO.out.1; omega
      rcases Nat.lt_or_ge j i with hji | hji
      · obtain ⟨b, c', cs, f, h1, h2, h3⟩ := HALL.out j q hji hq
        refine ⟨b, c', cs, f, by rw [List.getElem?_append_left (by omega)]; exact h1, keep b cs f ?_, h3⟩
        have hblt : b < wr.heap.size := by
          rcases Nat.lt_or_ge b wr.heap.size with h4 | h4
          · exact h4
          · rw [Array.getElem?_eq_none h4] at h2; cases h2
        exact (HBX.out.block b hblt).trans h2
      · obtain rfl : j = i := by omega
        rw [hp5.out] at hq
        obtain rfl : p = q := Option.some.inj hq
        exact ⟨wr.heap.size, cap, _, _, by rw [List.getElem?_append_right (by omega), hvl, Nat.sub_self, ← HM.out]; rfl, keep _ _ _ HXN.out, HCS.out⟩
    · obtain rfl : i = n := by omega
      obtain ⟨A', c', rfl, hc'⟩ := own_slice HO.out
      have FIN : Hid (Pls wr wr.heap.size A' i ps) := by
        refine ⟨vs, Reads.of_own HO.out, HL.out, fun j p hp => ?_⟩
        have hj : j < i := by have := (List.getElem?_eq_some_iff.1 hp).1; rw [HL.out] at this; exact this
        obtain ⟨b, c', cs, f, h1, h2, h3⟩ := HALL.out j p hj hp
        refine ⟨_, c', h1, by simp, fun _ => ⟨_, rfl, ?_, fun k u hu => ?_⟩⟩
        · show b < wr.heap.size
          rcases Nat.lt_or_ge b wr.heap.size with h4 | h4
          · exact h4
          · rw [Array.getElem?_eq_none h4] at h2; cases h2
        · rw [show (⟨b, 0, none⟩ : Addr).add k = ⟨b, k, none⟩ from by unfold Addr.add; split <;> simp_all]
          simp [World.cell?, h2, h3 k u hu]
      clear hown hb hall
      go_wp2
      go_ret
      exact ⟨A', c', rfl, hc', FIN.out, HBR.out⟩

def fewP (ps : List (List UInt8)) : Prop := (∀ p ∈ ps, p.length ≤ 3000) ∧ ps.length ≤ 40

set_option maxRecDepth 100000 in
set_option maxHeartbeats 1000000 in
theorem few_any (L : Option Addr) (n c : Nat) (ps : List (List UInt8)) (hn : n ≤ maxLen) (hps : ∀ p ∈ ps, p.length ≤ maxLen) (w : World) (h : Reads w w.heap.size 1 L n (ps.map tsv)) :
    Calls Try.prog 6 #[.slice L n c] w fun e w' => Tells (fewP ps) e ∧ w = w' := by
  have HL : Hid (ps.length = n) := by have := h.1; show _ = _; simpa using this
  have H1 := Lib.hid h
  have HP := Lib.hid hps
  unfold maxLen at hn
  clear h hps
  go_enter Try.func6, Try.ntmps6
  go_wp2
  go_loopw [7] (fun idx wr => ∃ i : Nat, i ≤ n ∧ idx = .int .i64 (i : Int) ∧ (∀ p ∈ ps.take i, p.length ≤ 3000) ∧ wr = w) (fun idx wr => n - (intOf idx).toNat)
  case atStart => exact ⟨0, by omega, rfl, by simp, by trivial⟩
  case round =>
    obtain ⟨i, hi, rfl, hsm, rfl⟩ := hrel
    have HSM := Lib.hid hsm
    clear hsm
    by_cases hlt : i < n
    · obtain ⟨p, hp⟩ : ∃ p, ps[i]? = some p := ⟨_, List.getElem?_eq_getElem (by rw [HL.out]; exact hlt)⟩
      obtain ⟨ad, rfl, _, hcx⟩ := H1.out.2 (by omega)
      have k0 := hcx i (tsv p) (by rw [List.getElem?_map, hp]; rfl)
      unfold tsv at k0
      have hpl := HP.out p (List.mem_of_getElem? hp)
      have HX : Hid (p.length ≤ 3000 → ∀ q ∈ ps.take (i + 1), q.length ≤ 3000) := fun hle q hq => by
        rw [List.take_add_one, hp, List.mem_append] at hq
        rcases hq with hq | hq
        · exact HSM.out q hq
        · simp at hq; subst hq; exact hle
      have HNS : Hid (¬ p.length ≤ 3000 → ¬ fewP ps) := fun hle h => hle (h.1 p (List.mem_of_getElem? hp))
      have hsz := tx_size0 p
      have hi0 : (0 : Int) ≤ (i : Int) := by omega
      have hi1 : (i : Int) < (n : Int) := by omega
      obtain ⟨m, hm⟩ : ∃ m, m = p.length := ⟨_, rfl⟩
      rw [← hm] at hsz hpl HX HNS
      unfold maxLen at hpl
      clear hp hcx hm
      by_cases h3 : m ≤ 3000
      · have hd1 : decide ((m : Int) > 3000) = false := decide_eq_false (by omega)
        have HX2 := Lib.hid (HX.out h3)
        clear HX HNS
        go_wp2
        exact ⟨⟨i + 1, by omega, by go_num, HX2.out, by trivial⟩, by simp [intOf]; omega⟩
      · have hd1 : decide ((m : Int) > 3000) = true := decide_eq_true (by omega)
        have HN2 := Lib.hid (HNS.out h3)
        clear HX HNS
        go_wp2
        go_ret
        exact ⟨tells_false HN2.out, rfl⟩
    · obtain rfl : i = n := by omega
      rw [List.take_of_length_le (by rw [HL.out]; omega)] at HSM
      by_cases h4 : i ≤ 40
      · have HQ : Hid (fewP ps) := ⟨HSM.out, by rw [HL.out]; exact h4⟩
        have END : Hid (∀ b : Bool, b = true → Tells (fewP ps) (.returned (.bool b))) := fun b h => h ▸ tells_true HQ.out
        go_wp2
        go_ret
        exact ⟨END.out _ (by first | rfl | (simp; omega)), rfl⟩
      · have HQ : Hid (¬ fewP ps) := fun h => h4 (by have := h.2; rw [HL.out] at this; exact this)
        have END : Hid (∀ b : Bool, b = false → Tells (fewP ps) (.returned (.bool b))) := fun b h => h ▸ tells_false HQ.out
        go_wp2
        go_ret
        exact ⟨END.out _ (by first | rfl | (simp; omega)), rfl⟩

end Go.Proofs.Ytidkahmjjknkmaa

/- Same, at the same lists of texts. -/
namespace Go.Proofs.Ytidkahmjjknkmaa
open Go.RowKit

def SRel4 (n : Nat) (w : World) (idx : Value) (wr : World) : Prop := ∃ i : Nat, i ≤ n ∧ idx = .int .i64 (i : Int) ∧ Below w.heap.size w wr

set_option maxRecDepth 100000 in
set_option maxHeartbeats 800000 in
theorem texts_same (A A' : Option Addr) (n c c' B B' : Nat) (xs : List (List UInt8)) (hn : n ≤ 1073741824) (w : World) (hB : B ≤ w.heap.size) (hB' : B' ≤ w.heap.size) (hr : Reads w B 1 A n (xs.map tsv)) (hr' : Reads w B' 1 A' n (xs.map tsv)) :
    Calls Try.prog 13 #[.slice A n c, .slice A' n c'] w fun e w' => e = .returned (.bool true) ∧ Below w.heap.size w w' := by
  have HR := Lib.hid hr
  have HR' := Lib.hid hr'
  clear hr hr'
  go_enter Try.func13, Try.ntmps13
  go_wp2
  go_loopw [5] (fun idx wr => SRel4 n w idx wr) (fun idx _ => n - (intOf idx).toNat)
  case atStart => exact ⟨0, by omega, rfl, Below.refl _ _⟩
  case round =>
    obtain ⟨i, hi, rfl, hb⟩ := hrel
    by_cases hlt : i < n
    · obtain ⟨ad, u, rfl, _, hx, hcell⟩ := (HR.out.below (hb.mono hB)).at_ hlt
      obtain ⟨ad', u', rfl, _, hx', hcell'⟩ := (HR'.out.below (hb.mono hB')).at_ hlt
      obtain rfl : u = u' := by rw [hx] at hx'; exact Option.some.inj hx'
      obtain ⟨x, rfl⟩ : ∃ x, u = .string (tx x) := by
        rw [List.getElem?_map] at hx
        obtain ⟨x, _, rfl⟩ := Option.map_eq_some_iff.1 hx
        exact ⟨x, rfl⟩
      clear hx hx'
      have HB := Lib.hid hb
      clear hb
      go_wp2
      go_region
      all_goals (try go_wp2)
      all_goals exact ⟨⟨i + 1, by omega, by go_num, HB.out.drew⟩, by simp [intOf]; omega⟩
    · obtain rfl : i = n := by omega
      go_wp2
      go_ret
      exact ⟨rfl, hb⟩

end Go.Proofs.Ytidkahmjjknkmaa

/- What Put and Get refuse; the example. -/
namespace Go.Proofs.Ytidkahmjjknkmaa
open Go.RowKit

set_option maxRecDepth 100000 in
set_option maxHeartbeats 1000000 in
theorem put_low (ver : Int) (hv : ver < 1) (t : Option Addr) (n c : Nat) (r : Rc) (A : Option Addr) (w : World) :
    Calls Try.prog 10 #[.int .i64 ver, .pointer t, .agg #[.int .i64 r.kind, .string (tx r.target), .int .u64 r.rule, .slice A n c, .int .u64 r.out, .int .u64 r.time, .string (tx r.tag)]] w fun e w' => e = .returned (.tuple #[.slice none 0 0, .int .i64 11]) ∧ Below w.heap.size w w' := by
  have h0 := one_new w (.cells #[.int .i64 r.kind, .string (tx r.target), .int .u64 r.rule, .slice A n c, .int .u64 r.out, .int .u64 r.time, .string (tx r.tag)] 26)
  have HB0 := Lib.hid ((Below.refl w.heap.size w).alloc (Nat.le_refl _) (.cells #[.int .i64 r.kind, .string (tx r.target), .int .u64 r.rule, .slice A n c, .int .u64 r.out, .int .u64 r.time, .string (tx r.tag)] 26))
  have q0 := at_cell (i := 0) h0 rfl
  have q1 := at_cell (i := 1) h0 rfl
  have q2 := at_cell (i := 2) h0 rfl
  have q3 := at_cell (i := 3) h0 rfl
  have q4 := at_cell (i := 4) h0 rfl
  have q5 := at_cell (i := 5) h0 rfl
  have q6 := at_cell (i := 6) h0 rfl
  clear h0
  have d1 : decide (ver < 1) = true := decide_eq_true hv
  clear hv
  go_enter Try.func10, Try.ntmps10
  go_wp2
  go_ret2
  exact ⟨rfl, HB0.out⟩

set_option maxRecDepth 100000 in
set_option maxHeartbeats 1000000 in
theorem put_high (ver : Int) (hv : 1 ≤ ver ∧ 3 < ver) (t : Option Addr) (n c : Nat) (r : Rc) (A : Option Addr) (w : World) :
    Calls Try.prog 10 #[.int .i64 ver, .pointer t, .agg #[.int .i64 r.kind, .string (tx r.target), .int .u64 r.rule, .slice A n c, .int .u64 r.out, .int .u64 r.time, .string (tx r.tag)]] w fun e w' => e = .returned (.tuple #[.slice none 0 0, .int .i64 11]) ∧ Below w.heap.size w w' := by
  have h0 := one_new w (.cells #[.int .i64 r.kind, .string (tx r.target), .int .u64 r.rule, .slice A n c, .int .u64 r.out, .int .u64 r.time, .string (tx r.tag)] 26)
  have HB0 := Lib.hid ((Below.refl w.heap.size w).alloc (Nat.le_refl _) (.cells #[.int .i64 r.kind, .string (tx r.target), .int .u64 r.rule, .slice A n c, .int .u64 r.out, .int .u64 r.time, .string (tx r.tag)] 26))
  have q0 := at_cell (i := 0) h0 rfl
  have q1 := at_cell (i := 1) h0 rfl
  have q2 := at_cell (i := 2) h0 rfl
  have q3 := at_cell (i := 3) h0 rfl
  have q4 := at_cell (i := 4) h0 rfl
  have q5 := at_cell (i := 5) h0 rfl
  have q6 := at_cell (i := 6) h0 rfl
  clear h0
  have d1 : decide (ver < 1) = false := decide_eq_false (by omega)
  have d2 : decide (ver > 3) = true := decide_eq_true (by omega)
  clear hv
  go_enter Try.func10, Try.ntmps10
  go_wp2
  go_ret2
  exact ⟨rfl, HB0.out⟩

set_option maxRecDepth 100000 in
set_option maxHeartbeats 1000000 in
theorem put_tnil (ver : Int) (hv : 1 ≤ ver ∧ ver ≤ 3) (n c : Nat) (r : Rc) (A : Option Addr) (w : World) :
    Calls Try.prog 10 #[.int .i64 ver, .pointer none, .agg #[.int .i64 r.kind, .string (tx r.target), .int .u64 r.rule, .slice A n c, .int .u64 r.out, .int .u64 r.time, .string (tx r.tag)]] w fun e w' => e = .returned (.tuple #[.slice none 0 0, .int .i64 1]) ∧ Below w.heap.size w w' := by
  have h0 := one_new w (.cells #[.int .i64 r.kind, .string (tx r.target), .int .u64 r.rule, .slice A n c, .int .u64 r.out, .int .u64 r.time, .string (tx r.tag)] 26)
  have HB0 := Lib.hid ((Below.refl w.heap.size w).alloc (Nat.le_refl _) (.cells #[.int .i64 r.kind, .string (tx r.target), .int .u64 r.rule, .slice A n c, .int .u64 r.out, .int .u64 r.time, .string (tx r.tag)] 26))
  have q0 := at_cell (i := 0) h0 rfl
  have q1 := at_cell (i := 1) h0 rfl
  have q2 := at_cell (i := 2) h0 rfl
  have q3 := at_cell (i := 3) h0 rfl
  have q4 := at_cell (i := 4) h0 rfl
  have q5 := at_cell (i := 5) h0 rfl
  have q6 := at_cell (i := 6) h0 rfl
  clear h0
  have d1 : decide (ver < 1) = false := decide_eq_false (by omega)
  have d2 : decide (ver > 3) = false := decide_eq_false (by omega)
  clear hv
  go_enter Try.func10, Try.ntmps10
  go_wp2
  go_ret2
  exact ⟨rfl, HB0.out⟩

set_option maxRecDepth 100000 in
set_option maxHeartbeats 1000000 in
theorem put_arg (ver : Int) (hv : 1 ≤ ver ∧ ver ≤ 3) (bt : Nat) (n c : Nat) (r : Rc) (A : Option Addr) (w : World) (HM : Hid (∀ W, Below w.heap.size w W → Calls Try.prog 21 #[.int .i64 ver, .agg #[.int .i64 r.kind, .string (tx r.target), .int .u64 r.rule, .slice A n c, .int .u64 r.out, .int .u64 r.time, .string (tx r.tag)]] W fun e w' => e = .returned (.bool false) ∧ Below W.heap.size W w')) :
    Calls Try.prog 10 #[.int .i64 ver, .pointer (some ⟨bt, 0, none⟩), .agg #[.int .i64 r.kind, .string (tx r.target), .int .u64 r.rule, .slice A n c, .int .u64 r.out, .int .u64 r.time, .string (tx r.tag)]] w fun e w' => e = .returned (.tuple #[.slice none 0 0, .int .i64 1]) ∧ Below w.heap.size w w' := by
  have h0 := one_new w (.cells #[.int .i64 r.kind, .string (tx r.target), .int .u64 r.rule, .slice A n c, .int .u64 r.out, .int .u64 r.time, .string (tx r.tag)] 26)
  have HB0 := Lib.hid ((Below.refl w.heap.size w).alloc (Nat.le_refl _) (.cells #[.int .i64 r.kind, .string (tx r.target), .int .u64 r.rule, .slice A n c, .int .u64 r.out, .int .u64 r.time, .string (tx r.tag)] 26))
  have q0 := at_cell (i := 0) h0 rfl
  have q1 := at_cell (i := 1) h0 rfl
  have q2 := at_cell (i := 2) h0 rfl
  have q3 := at_cell (i := 3) h0 rfl
  have q4 := at_cell (i := 4) h0 rfl
  have q5 := at_cell (i := 5) h0 rfl
  have q6 := at_cell (i := 6) h0 rfl
  clear h0
  have d1 : decide (ver < 1) = false := decide_eq_false (by omega)
  have d2 : decide (ver > 3) = false := decide_eq_false (by omega)
  clear hv
  go_enter Try.func10, Try.ntmps10
  go_wp2_with (go_at_call 21; refine (HM.out _ HB0.out).mono ?_; rintro e w5 ⟨rfl, hb5⟩; have HB5 := Lib.hid (HB0.out.trans (hb5.mono HB0.out.size)); clear hb5)
  go_ret2
  exact ⟨rfl, HB5.out⟩

theorem put_way (ver : Int) (hv : ¬ (1 ≤ ver ∧ ver ≤ 3)) (t : Option Addr) (n c : Nat) (r : Rc) (A : Option Addr) (w : World) :
    Calls Try.prog 10 #[.int .i64 ver, .pointer t, .agg #[.int .i64 r.kind, .string (tx r.target), .int .u64 r.rule, .slice A n c, .int .u64 r.out, .int .u64 r.time, .string (tx r.tag)]] w fun e w' => e = .returned (.tuple #[.slice none 0 0, .int .i64 11]) ∧ Below w.heap.size w w' := by
  by_cases h : ver < 1
  · exact put_low ver h t n c r A w
  · exact put_high ver (by omega) t n c r A w

theorem results_cell_two {P : Program} {fn : Func} {u u2 p : Tmp} {ty : TypeId} (h : fn.results = #[.cell p ty, .tmp u, .tmp u2]) (tmps : Array Value) (w : World) (g : Nat) (t : TypeId) (cs : Array Value) (fr : Nat × Nat) (d : TypeDesc)
    (hp : tmps.getD p undef = .pointer (some ⟨g, 0, none⟩)) (hg : w.heap[g]? = some (.cells cs t fr))
    (hu : P.underlying ty = some d) (hd : (match d with | .struct _ | .array _ _ => true | _ => false) = true) (hi : (P.info? ty).map (·.size) = some cs.size) :
    (results fn tmps).run P w = .ok (.tuple #[.agg cs, tmps.getD u undef, tmps.getD u2 undef]) w := by
  have hp' : tmps[p]?.getD undef = .pointer (some ⟨g, 0, none⟩) := by simpa using hp
  simp [results, h, hp', asAddr, run_loadVar_row w g t ty cs fr d hg hu hd hi]

set_option maxRecDepth 100000 in
set_option maxHeartbeats 1000000 in
theorem get_low (ver : Int) (hv : ver < 1) (t : Option Addr) (A : Option Addr) (n c : Nat) (at_ : Int) (w : World) :
    Calls Try.prog 16 #[.int .i64 ver, .pointer t, .slice A n c, .int .i64 at_] w fun e w' => e = .returned (.tuple #[.agg #[.int .i64 0, .string { data := #[] }, .int .u64 0, .slice none 0 0, .int .u64 0, .int .u64 0, .string { data := #[] }], .int .i64 0, .int .i64 11]) ∧ Below w.heap.size w w' := by
  have h0 := one_new w (.cells #[.int .i64 0, .string { data := #[] }, .int .u64 0, .slice none 0 0, .int .u64 0, .int .u64 0, .string { data := #[] }] 26)
  have HA0 := Lib.hid h0
  have HB0 := Lib.hid ((Below.refl w.heap.size w).alloc (Nat.le_refl _) (.cells #[.int .i64 0, .string { data := #[] }, .int .u64 0, .slice none 0 0, .int .u64 0, .int .u64 0, .string { data := #[] }] 26))
  have q0 := at_cell (i := 0) h0 rfl
  have y0 := at_frozen (i := 0) h0
  have q1 := at_cell (i := 1) h0 rfl
  have y1 := at_frozen (i := 1) h0
  have q2 := at_cell (i := 2) h0 rfl
  have y2 := at_frozen (i := 2) h0
  have q3 := at_cell (i := 3) h0 rfl
  have y3 := at_frozen (i := 3) h0
  have q4 := at_cell (i := 4) h0 rfl
  have y4 := at_frozen (i := 4) h0
  have q5 := at_cell (i := 5) h0 rfl
  have y5 := at_frozen (i := 5) h0
  have q6 := at_cell (i := 6) h0 rfl
  have y6 := at_frozen (i := 6) h0
  clear h0
  have d1 : decide (ver < 1) = true := decide_eq_true hv
  clear hv
  go_enter Try.func16, Try.ntmps16
  go_wp2
  refine bodyPost_ret (results_cell_two rfl _ _ _ _ _ _ _ rfl HA0.out Try.underlying26 rfl (by kernel_rfl)) rfl ?_
  exact ⟨rfl, HB0.out⟩

set_option maxRecDepth 100000 in
set_option maxHeartbeats 1000000 in
theorem get_high (ver : Int) (hv : 1 ≤ ver ∧ 3 < ver) (t : Option Addr) (A : Option Addr) (n c : Nat) (at_ : Int) (w : World) :
    Calls Try.prog 16 #[.int .i64 ver, .pointer t, .slice A n c, .int .i64 at_] w fun e w' => e = .returned (.tuple #[.agg #[.int .i64 0, .string { data := #[] }, .int .u64 0, .slice none 0 0, .int .u64 0, .int .u64 0, .string { data := #[] }], .int .i64 0, .int .i64 11]) ∧ Below w.heap.size w w' := by
  have h0 := one_new w (.cells #[.int .i64 0, .string { data := #[] }, .int .u64 0, .slice none 0 0, .int .u64 0, .int .u64 0, .string { data := #[] }] 26)
  have HA0 := Lib.hid h0
  have HB0 := Lib.hid ((Below.refl w.heap.size w).alloc (Nat.le_refl _) (.cells #[.int .i64 0, .string { data := #[] }, .int .u64 0, .slice none 0 0, .int .u64 0, .int .u64 0, .string { data := #[] }] 26))
  have q0 := at_cell (i := 0) h0 rfl
  have y0 := at_frozen (i := 0) h0
  have q1 := at_cell (i := 1) h0 rfl
  have y1 := at_frozen (i := 1) h0
  have q2 := at_cell (i := 2) h0 rfl
  have y2 := at_frozen (i := 2) h0
  have q3 := at_cell (i := 3) h0 rfl
  have y3 := at_frozen (i := 3) h0
  have q4 := at_cell (i := 4) h0 rfl
  have y4 := at_frozen (i := 4) h0
  have q5 := at_cell (i := 5) h0 rfl
  have y5 := at_frozen (i := 5) h0
  have q6 := at_cell (i := 6) h0 rfl
  have y6 := at_frozen (i := 6) h0
  clear h0
  have d1 : decide (ver < 1) = false := decide_eq_false (by omega)
  have d2 : decide (ver > 3) = true := decide_eq_true (by omega)
  clear hv
  go_enter Try.func16, Try.ntmps16
  go_wp2
  refine bodyPost_ret (results_cell_two rfl _ _ _ _ _ _ _ rfl HA0.out Try.underlying26 rfl (by kernel_rfl)) rfl ?_
  exact ⟨rfl, HB0.out⟩

set_option maxRecDepth 100000 in
set_option maxHeartbeats 1000000 in
theorem get_tnil (ver : Int) (hv : 1 ≤ ver ∧ ver ≤ 3) (A : Option Addr) (n c : Nat) (at_ : Int) (w : World) :
    Calls Try.prog 16 #[.int .i64 ver, .pointer none, .slice A n c, .int .i64 at_] w fun e w' => e = .returned (.tuple #[.agg #[.int .i64 0, .string { data := #[] }, .int .u64 0, .slice none 0 0, .int .u64 0, .int .u64 0, .string { data := #[] }], .int .i64 0, .int .i64 1]) ∧ Below w.heap.size w w' := by
  have h0 := one_new w (.cells #[.int .i64 0, .string { data := #[] }, .int .u64 0, .slice none 0 0, .int .u64 0, .int .u64 0, .string { data := #[] }] 26)
  have HA0 := Lib.hid h0
  have HB0 := Lib.hid ((Below.refl w.heap.size w).alloc (Nat.le_refl _) (.cells #[.int .i64 0, .string { data := #[] }, .int .u64 0, .slice none 0 0, .int .u64 0, .int .u64 0, .string { data := #[] }] 26))
  have q0 := at_cell (i := 0) h0 rfl
  have y0 := at_frozen (i := 0) h0
  have q1 := at_cell (i := 1) h0 rfl
  have y1 := at_frozen (i := 1) h0
  have q2 := at_cell (i := 2) h0 rfl
  have y2 := at_frozen (i := 2) h0
  have q3 := at_cell (i := 3) h0 rfl
  have y3 := at_frozen (i := 3) h0
  have q4 := at_cell (i := 4) h0 rfl
  have y4 := at_frozen (i := 4) h0
  have q5 := at_cell (i := 5) h0 rfl
  have y5 := at_frozen (i := 5) h0
  have q6 := at_cell (i := 6) h0 rfl
  have y6 := at_frozen (i := 6) h0
  clear h0
  have d1 : decide (ver < 1) = false := decide_eq_false (by omega)
  have d2 : decide (ver > 3) = false := decide_eq_false (by omega)
  clear hv
  go_enter Try.func16, Try.ntmps16
  go_wp2
  refine bodyPost_ret (results_cell_two rfl _ _ _ _ _ _ _ rfl HA0.out Try.underlying26 rfl (by kernel_rfl)) rfl ?_
  exact ⟨rfl, HB0.out⟩

theorem get_way (ver : Int) (hv : ¬ (1 ≤ ver ∧ ver ≤ 3)) (t : Option Addr) (A : Option Addr) (n c : Nat) (at_ : Int) (w : World) :
    Calls Try.prog 16 #[.int .i64 ver, .pointer t, .slice A n c, .int .i64 at_] w fun e w' => e = .returned (.tuple #[.agg #[.int .i64 0, .string { data := #[] }, .int .u64 0, .slice none 0 0, .int .u64 0, .int .u64 0, .string { data := #[] }], .int .i64 0, .int .i64 11]) ∧ Below w.heap.size w w' := by
  by_cases h : ver < 1
  · exact get_low ver h t A n c at_ w
  · exact get_high ver (by omega) t A n c at_ w

/-- The chapter's record. -/
def exR : Rc := ⟨2, [97], 0, 0, 0, []⟩
theorem ex_may {v : Int} (h : 1 ≤ v ∧ v ≤ 3) : MayP v exR [] := ⟨h.1, h.2, by decide, .inr ⟨rfl, rfl, rfl⟩⟩
theorem ex_fits : Fits exR [] := ⟨by unfold maxLen; simp [exR], by simp [exR], by simp⟩
theorem ex_nums : Nums exR [] := ⟨by simp [exR], by simp [exR], by simp [exR], by simp⟩
theorem ex_names : rnames exR [] = [[97]] := by simp [rnames, exR, names, tnew, tput]
theorem ex_one : payL 1 [] exR [] = [[2, 1, 97]] := by
  have h1 : vb 1 = [1] := by rw [vb_lt (by omega)]; rfl
  simp [payL, freT, payB, exR, nmB, blob, h1]
theorem ex_two : payL 2 [] exR [] = [[0, 97], [2, 0]] := by
  have h1 : vb 0 = [0] := by rw [vb_lt (by omega)]; rfl
  have h2 : tnum [[97]] [97] = 0 := by simp [tnum]
  simp [payL, freT, tabT, ex_names, freshL, tput, payB, nmB]
  simp [exR, h2, h1]
theorem ex_tab : tabT 1 [] exR [] = [] := by simp [tabT]

set_option maxRecDepth 100000 in
set_option maxHeartbeats 2000000 in
theorem sfixed_any (w : World) : Calls Try.prog 8 #[] w fun e w' => e = .returned (.bool true) ∧ Below w.heap.size w w' := by
  have h0 := one_new w (.cells #[.int .i64 2, .string { data := #[97] }, .int .u64 0, .slice none 0 0, .int .u64 0, .int .u64 0, .string { data := #[] }] 26)
  have hz : (w.alloc (.cells #[.int .i64 2, .string { data := #[97] }, .int .u64 0, .slice none 0 0, .int .u64 0, .int .u64 0, .string { data := #[] }] 26)).heap.size = w.heap.size + 1 := by simp
  have HB0 := Lib.hid ((Below.refl w.heap.size w).alloc (Nat.le_refl _) (.cells #[.int .i64 2, .string { data := #[97] }, .int .u64 0, .slice none 0 0, .int .u64 0, .int .u64 0, .string { data := #[] }] 26))
  have HA0 := Lib.hid h0
  have HZ := Lib.hid hz
  have hnew := New_any none 0 0 0 [] (by omega) (by simp) (w.alloc (.cells #[.int .i64 2, .string { data := #[97] }, .int .u64 0, .slice none 0 0, .int .u64 0, .int .u64 0, .string { data := #[] }] 26)) (Nat.zero_le _) Reads.none_
  simp only [hz] at hnew
  have HNEW := Lib.hid hnew
  clear hnew
  have HPUT : Hid (∀ (v : Int) (hv : 1 ≤ v ∧ v ≤ 3) (S : Nat → Prop) (bt N : Nat) (tl : List (List UInt8)) (W : World), tl.length ≤ 1000000000 → N ≤ 1000000000 → Tab W S bt N tl → Calls Try.prog 10 #[.int .i64 v, .pointer (some ⟨bt, 0, none⟩), .agg #[.int .i64 2, .string { data := #[97] }, .int .u64 0, .slice none 0 0, .int .u64 0, .int .u64 0, .string { data := #[] }]] W fun e w' => PutPost S bt N (tabT v tl exR []) (payL v tl exR []) W e w') := fun v hv S bt N tl W h1 h2 h3 => put_ok S bt N 0 0 v tl exR none [] (ex_may hv) ex_fits ex_nums h1 h2 W h3 (by simp) Reads.none_
  have q0 := at_cell (i := 0) h0 rfl
  have q1 := at_cell (i := 1) h0 rfl
  have q2 := at_cell (i := 2) h0 rfl
  have q3 := at_cell (i := 3) h0 rfl
  have q4 := at_cell (i := 4) h0 rfl
  have q5 := at_cell (i := 5) h0 rfl
  have q6 := at_cell (i := 6) h0 rfl
  clear h0 hz
  go_enter Try.func8, Try.ntmps8
  go_wp2_with (first
    | (go_at_call 13; have hk := HB8.out.size; refine (texts_same A8 (some ⟨w8.heap.size, 0, none⟩) 2 c8 2 w8.heap.size (w8.heap.size + 1) [[0, 97], [2, 0]] (by omega) _ (by simp) (by simp) (HR8.out.alloc (Nat.le_refl _) _) (reads_tsv w8 9 [[0, 97], [2, 0]])).mono ?_; rintro e w9 ⟨rfl, hb9⟩; have HB9 := Lib.hid ((HB8.out.alloc HB8.out.size (.cells #[.string { data := #[0, 97] }, .string { data := #[2, 0] }] 9)).trans (hb9.mono (HB8.out.alloc HB8.out.size (.cells #[.string { data := #[0, 97] }, .string { data := #[2, 0] }] 9)).size)); clear hb9)
    | (go_at_call 14; have hk := HB7.out.size; refine (strings_any A4 2 c4 [[0, 97], [2, 0]] (by omega) _ HP4.out).mono ?_; rintro e w8 ⟨A8, c8, rfl, hr8, hb8⟩; have HR8 := Lib.hid hr8; have HB8 := Lib.hid (HB7.out.trans (hb8.mono HB7.out.size)); clear hr8 hb8)
    | (go_at_call 13; have hk := HB6.out.size; refine (texts_same A6 (some ⟨w6.heap.size, 0, none⟩) 1 c6 1 w6.heap.size (w6.heap.size + 1) [[2, 1, 97]] (by omega) _ (by simp) (by simp) (HR6.out.alloc (Nat.le_refl _) _) (reads_tsv w6 9 [[2, 1, 97]])).mono ?_; rintro e w7 ⟨rfl, hb7⟩; have HB7 := Lib.hid ((HB6.out.alloc HB6.out.size (.cells #[.string { data := #[2, 1, 97] }] 9)).trans (hb7.mono (HB6.out.alloc HB6.out.size (.cells #[.string { data := #[2, 1, 97] }] 9)).size)); have h56 : Below w5.heap.size w5 w7 := (HB56.out.alloc HB56.out.size (.cells #[.string { data := #[2, 1, 97] }] 9)).trans (hb7.mono (HB56.out.alloc HB56.out.size (.cells #[.string { data := #[2, 1, 97] }] 9)).size); have HP4 := Lib.hid ((HP45.out.below h56).more h56.size); clear hb7 h56)
    | (go_at_call 14; have hk := HB5.out.size; refine (strings_any A3 1 c3 [[2, 1, 97]] (by omega) _ HP35.out).mono ?_; rintro e w6 ⟨A6, c6, rfl, hr6, hb6⟩; have HR6 := Lib.hid hr6; have HB6 := Lib.hid (HB5.out.trans (hb6.mono HB5.out.size)); have HB56 := Lib.hid hb6; clear hr6 hb6)
    | (go_at_call 10; have hk := HB3.out.size; refine (HPUT.out 2 (by omega) S3 _ _ _ _ (by simp) (by omega) HT3.out).mono ?_; rintro e w5 ⟨v5, S5, rfl, ht5, hs5, hr5, htu5⟩; rw [ex_two] at hr5; obtain ⟨A4, c4, rfl, hc4, hp4⟩ := Pls.of_rows hr5; obtain ⟨vs, hvs⟩ := HR3.out; obtain ⟨A3, c3, e3, hc3, hp3⟩ := Pls.of_rows ⟨vs, hvs.turn htu5 (fun _ _ h => h)⟩; obtain rfl := e3; have HB5 : Hid (Below w.heap.size w w5) := (HB3.out.trans (htu5.below (fun k hk => (HS3.out k hk)) HB3.out.size)); have HP35 := Lib.hid hp3; have HP45 := Lib.hid hp4; clear ht5 hs5 hr5 htu5 hp3 hp4)
    | (go_at_call 10; have hk := HB2.out.size; refine (HPUT.out 1 (by omega) _ _ _ _ _ (by simp [tnew]) (by omega) HT2.out).mono ?_; rintro e w3 ⟨v3, S3, rfl, ht3, hs3, hr3, htu3⟩; rw [show tnew [] = [] from rfl, ex_one] at hr3; rw [show tnew [] = [] from rfl, ex_tab] at ht3; have HT3 := Lib.hid ht3; have HR3 := Lib.hid hr3; have HS3 : Hid (∀ k, S3 k → w.heap.size ≤ k) := (fun k hk => by rcases (hs3 k hk).2 with h | h; omega; have := HB2.out.size; omega); have HB3 : Hid (Below w.heap.size w w3) := (HB2.out.trans (htu3.below (fun k hk => by omega) HB2.out.size)); have hh3 := (htu3.2.2.2.2 w.heap.size HLT2.out (by omega)).trans HH2.out; have j0 := at_cell (i := 0) hh3 rfl; have j1 := at_cell (i := 1) hh3 rfl; have j2 := at_cell (i := 2) hh3 rfl; have j3 := at_cell (i := 3) hh3 rfl; have j4 := at_cell (i := 4) hh3 rfl; have j5 := at_cell (i := 5) hh3 rfl; have j6 := at_cell (i := 6) hh3 rfl; clear ht3 hs3 hr3 htu3 hh3)
    | (go_at_call 9; refine HNEW.out.mono ?_; rintro e w2 ⟨rfl, ht2, hb2⟩; have HT2 := Lib.hid ht2; have HB2 := Lib.hid (HB0.out.trans (hb2.mono (by omega))); have HLT2 : Hid (w.heap.size < w2.heap.size) := (by have h1 := hb2.size; rw [HZ.out] at h1; exact h1); have hh2 := (hb2.block w.heap.size (by omega)).trans HA0.out; have HH2 := Lib.hid hh2; have p0 := at_cell (i := 0) hh2 rfl; have p1 := at_cell (i := 1) hh2 rfl; have p2 := at_cell (i := 2) hh2 rfl; have p3 := at_cell (i := 3) hh2 rfl; have p4 := at_cell (i := 4) hh2 rfl; have p5 := at_cell (i := 5) hh2 rfl; have p6 := at_cell (i := 6) hh2 rfl; clear ht2 hb2 hh2))
  go_ret
  exact ⟨rfl, HB9.out⟩

end Go.Proofs.Ytidkahmjjknkmaa

/- The reader as it lies; its text, name and dep. -/
namespace Go.Proofs.Ytidkahmjjknkmaa
open Go.RowKit

theorem Turn.of_only {b : Nat} {w w' : World} (h : Only b w w') : Turn (fun k => k = b) w w' := ⟨h.os, h.tape, h.output, h.size, fun k hk hn => h.block k hk hn⟩
theorem CurIn.turn {w w' : World} {B b : Nat} {S : Nat → Prop} {c : Cu} (h : CurIn w B b c) (ht : Turn S w w') (hn : ¬ S b) (hS : ∀ k, S k → B ≤ k) : CurIn w' B b c := by
  have hlt := h.lt
  obtain ⟨A, n, cap, h0, h1, h2⟩ := h.lies
  exact ⟨h.ok, h.room, h.le, A, n, cap, h0, h1.below (ht.below hS (by have := h.le; omega)), (ht.2.2.2.2 b hlt hn).trans h2⟩

/-- The reader lies in memory: its box, its cursor, its table. -/
structure RS (w : World) (T : Nat → Prop) (brd bt bc B N : Nat) (ver : Int) (tl : List (List UInt8)) (c : Cu) : Prop where
  box : w.heap[brd]? = some (.cells #[.int .i64 ver, .pointer (some ⟨bt, 0, none⟩), .pointer (some ⟨bc, 0, none⟩)] 98 (0, 0))
  cur : CurIn w B bc c
  tab : Tab w T bt N tl
  nt : ¬ T bc
  nb : brd ≠ bc
  big : tl.length ≤ 1073741824

theorem RS.turn {w w' : World} {S T : Nat → Prop} {brd bt bc B N : Nat} {ver : Int} {tl : List (List UInt8)} {c : Cu} (h : RS w T brd bt bc B N ver tl c) (ht : Turn S w w') (h1 : ¬ S brd) (h2 : ¬ S bc) (h3 : ∀ k, T k → ¬ S k) (h4 : ∀ k, S k → B ≤ k) : RS w' T brd bt bc B N ver tl c where
  box := by
    have hb := h.box
    refine (ht.2.2.2.2 brd ?_ h1).trans hb
    rcases Nat.lt_or_ge brd w.heap.size with h | h
    · exact h
    · rw [Array.getElem?_eq_none h] at hb; cases hb
  cur := h.cur.turn ht h2 h4
  tab := h.tab.turn ht (fun k hk _ => h3 k hk)
  nt := h.nt
  nb := h.nb
  big := h.big
/-- Behind a call of the cursor's. -/
theorem RS.took {w w' : World} {T : Nat → Prop} {brd bt bc B N : Nat} {ver : Int} {tl : List (List UInt8)} {c d : Cu} (h : RS w T brd bt bc B N ver tl c) (hd : CurIn w' B bc d) (ho : Only bc w w') : RS w' T brd bt bc B N ver tl d where
  box := by
    have hb := h.box
    refine (ho.block brd ?_ h.nb).trans hb
    rcases Nat.lt_or_ge brd w.heap.size with h | h
    · exact h
    · rw [Array.getElem?_eq_none h] at hb; cases hb
  cur := hd
  tab := h.tab.turn (Turn.of_only ho) (fun k hk _ he => h.nt (he ▸ hk))
  nt := h.nt
  nb := h.nb
  big := h.big

/-- What a name is read as. -/
def rdName (ver : Int) (tl : List (List UInt8)) (c : Cu) : List UInt8 × Cu := if ver < 2 then c.text 64 else (ttext tl c.num.1, c.num.2)
/-- What a dep is read as, without its hash. -/
def rdDep (ver : Int) (tl : List (List UInt8)) (c : Cu) : Dp × Cu := if ver < 3 then (⟨(rdName ver tl c).1, 0, false⟩, (rdName ver tl c).2) else (⟨ttext tl (c.num.1 / 2), 0, decide (c.num.1 % 2 = 1)⟩, c.num.2)

set_option maxRecDepth 100000 in
set_option maxHeartbeats 400000 in
theorem rtext_any (T : Nat → Prop) (brd bt bc B N i : Nat) (ver : Int) (tl : List (List UInt8)) (c : Cu) (w : World) (h : RS w T brd bt bc B N ver tl c) :
    Calls Try.prog 82 #[.pointer (some ⟨brd, 0, none⟩), .int .u64 (i : Int)] w fun e w' => e = .returned (.string (tx (ttext tl i))) ∧ w = w' := by
  have q1 := at_cell (i := 1) h.box rfl
  have HT := Lib.hid (Text_any T bt N tl i h.big w h.tab)
  unfold tsv at HT
  clear h
  go_enter Try.func82, Try.ntmps82
  go_wp2_with (go_at_call 31; refine HT.out.mono ?_; rintro e w2 ⟨rfl, rfl⟩)
  go_ret
  exact ⟨rfl, rfl⟩

set_option maxRecDepth 100000 in
set_option maxHeartbeats 400000 in
theorem rname_one (T : Nat → Prop) (brd bt bc B N : Nat) (ver : Int) (hv : ver < 2) (tl : List (List UInt8)) (c : Cu) (w : World) (h : RS w T brd bt bc B N ver tl c) :
    Calls Try.prog 79 #[.pointer (some ⟨brd, 0, none⟩)] w fun e w' => e = .returned (.string (tx (c.text 64).1)) ∧ RS w' T brd bt bc B N ver tl (c.text 64).2 ∧ Only bc w w' := by
  have q0 := at_cell (i := 0) h.box rfl
  have q2 := at_cell (i := 2) h.box rfl
  have HC := Lib.hid (text_any B bc c 64 (by omega) w h.cur)
  have H := Lib.hid h
  have d1 : decide (ver < 2) = true := decide_eq_true hv
  clear h hv
  go_enter Try.func79, Try.ntmps79
  go_wp2_with (go_at_call 88; refine HC.out.mono ?_; rintro e w2 ⟨rfl, hc2, ho2⟩; have HR := Lib.hid (H.out.took hc2 ho2); have HO := Lib.hid ho2; clear hc2 ho2)
  go_ret
  exact ⟨rfl, HR.out, HO.out⟩

set_option maxRecDepth 100000 in
set_option maxHeartbeats 400000 in
theorem rname_two (T : Nat → Prop) (brd bt bc B N : Nat) (ver : Int) (hv : ¬ ver < 2) (tl : List (List UInt8)) (c : Cu) (w : World) (h : RS w T brd bt bc B N ver tl c) :
    Calls Try.prog 79 #[.pointer (some ⟨brd, 0, none⟩)] w fun e w' => e = .returned (.string (tx (ttext tl c.num.1))) ∧ RS w' T brd bt bc B N ver tl c.num.2 ∧ Only bc w w' := by
  have q0 := at_cell (i := 0) h.box rfl
  have q2 := at_cell (i := 2) h.box rfl
  have HC := Lib.hid (cnumber_any B bc c w h.cur)
  have H := Lib.hid h
  have d1 : decide (ver < 2) = false := decide_eq_false hv
  clear h hv
  go_enter Try.func79, Try.ntmps79
  go_wp2_with (first
    | (go_at_call 82; refine (rtext_any T brd bt bc B N c.num.1 ver tl c.num.2 _ HR.out).mono ?_; rintro e w3 ⟨rfl, rfl⟩)
    | (go_at_call 80; refine HC.out.mono ?_; rintro e w2 ⟨rfl, hc2, ho2⟩; have HR := Lib.hid (H.out.took hc2 ho2); have HO := Lib.hid ho2; clear hc2 ho2))
  go_ret
  exact ⟨rfl, HR.out, HO.out⟩

theorem rdname_any (T : Nat → Prop) (brd bt bc B N : Nat) (ver : Int) (tl : List (List UInt8)) (c : Cu) (w : World) (h : RS w T brd bt bc B N ver tl c) :
    Calls Try.prog 79 #[.pointer (some ⟨brd, 0, none⟩)] w fun e w' => e = .returned (.string (tx (rdName ver tl c).1)) ∧ RS w' T brd bt bc B N ver tl (rdName ver tl c).2 ∧ Only bc w w' := by
  unfold rdName
  by_cases hv : ver < 2
  · rw [if_pos hv]
    exact rname_one T brd bt bc B N ver hv tl c w h
  · rw [if_neg hv]
    exact rname_two T brd bt bc B N ver hv tl c w h

/-- A store into memory that the call has made. -/
theorem Only.store {bc g i : Nat} {w x : World} (h : Only bc w x) (u : Value) (hg : w.heap.size ≤ g) : Only bc w (x.setCell ⟨g, i, none⟩ u) :=
  ⟨h.os, h.tape, h.output, by rw [show (x.setCell ⟨g, i, none⟩ u).heap.size = x.heap.size from by simp [World.setCell]]; exact h.size, fun k hk hn => (Below.heap_setCell x ⟨g, i, none⟩ u k (by show k ≠ g; omega)).trans (h.block k hk hn)⟩
theorem RS.store {w : World} {T : Nat → Prop} {brd bt bc B N g i : Nat} {ver : Int} {tl : List (List UInt8)} {c : Cu} (h : RS w T brd bt bc B N ver tl c) (u : Value) (h1 : brd ≠ g) (h2 : bc ≠ g) (h3 : ¬ T g) (h4 : B ≤ g) : RS (w.setCell ⟨g, i, none⟩ u) T brd bt bc B N ver tl c :=
  h.turn (S := fun k => k = g) ((Turn.refl _ w).setCell g i u rfl) h1 h2 (fun _ hk he => h3 (he ▸ hk)) (fun _ hk => hk ▸ h4)

set_option maxRecDepth 100000 in
set_option maxHeartbeats 1000000 in
theorem rdep_less (T : Nat → Prop) (brd bt bc B N : Nat) (ver : Int) (hv : ver < 3) (tl : List (List UInt8)) (c : Cu) (w : World) (hTn : ¬ T w.heap.size) (h : RS w T brd bt bc B N ver tl c) :
    Calls Try.prog 81 #[.pointer (some ⟨brd, 0, none⟩)] w fun e w' => e = .returned (.agg #[.string (tx (rdName ver tl c).1), .int .u64 0, .bool false]) ∧ RS w' T brd bt bc B N ver tl (rdName ver tl c).2 ∧ Only bc w w' := by
  have hblt : brd < w.heap.size := by
    have hb := h.box
    rcases Nat.lt_or_ge brd w.heap.size with h | h
    · exact h
    · rw [Array.getElem?_eq_none h] at hb; cases hb
  have hclt := h.cur.lt
  have hT0 : Turn (fun k => w.heap.size ≤ k) w (w.alloc (.cells #[.string { data := #[] }, .int .u64 0, .bool false] 55)) := Turn.of_below ((Below.refl _ w).alloc (Nat.le_refl _) _)
  have h2 : RS (w.alloc (.cells #[.string { data := #[] }, .int .u64 0, .bool false] 55)) T brd bt bc B N ver tl c := ⟨(Below.heap_alloc w _ brd hblt).trans h.box, h.cur.below ((Below.refl _ w).alloc (Nat.le_refl _) _) hclt, tab_alloc h.tab _, h.nt, h.nb, h.big⟩
  have HO0 : Hid (Only bc w (w.alloc (.cells #[.string { data := #[] }, .int .u64 0, .bool false] 55))) := Only.of_below ((Below.refl _ w).alloc (Nat.le_refl _) _)
  have HBX := Lib.hid (one_new w (.cells #[.string { data := #[] }, .int .u64 0, .bool false] 55))
  have HNE : Hid (w.heap.size ≠ bc) := by show _ ≠ _; omega
  have HSZ : Hid (w.heap.size < (w.alloc (.cells #[.string { data := #[] }, .int .u64 0, .bool false] 55)).heap.size) := by show _ < _; simp
  have q0 := at_cell (i := 0) h2.box rfl
  have q2 := at_cell (i := 2) h2.box rfl
  have f0 := at_cell (i := 0) HBX.out rfl
  have f1 := at_cell (i := 1) HBX.out rfl
  have f2 := at_cell (i := 2) HBX.out rfl
  have H := Lib.hid h2
  have HG : Hid (brd ≠ w.heap.size ∧ bc ≠ w.heap.size ∧ ¬ T w.heap.size ∧ B ≤ w.heap.size) := ⟨by omega, by omega, hTn, by have := h.cur.le; omega⟩
  have HC := Lib.hid (rdname_any T brd bt bc B N ver tl c _ h2)
  obtain ⟨x, hx⟩ : ∃ x, x = (rdName ver tl c).1 := ⟨_, rfl⟩
  obtain ⟨d, hd⟩ : ∃ d, d = (rdName ver tl c).2 := ⟨_, rfl⟩
  rw [← hx, ← hd] at HC ⊢
  have d1 : decide (ver < 3) = true := decide_eq_true hv
  clear hx hd
  clear h h2 hT0 hblt hclt hv
  go_enter Try.func81, Try.ntmps81
  go_wp2_with (go_at_call 79; refine HC.out.mono ?_; rintro e w3 ⟨rfl, hr3, ho3⟩; have hbx := (ho3.block w.heap.size HSZ.out HNE.out).trans HBX.out; have j0 := at_cell (i := 0) hbx rfl; have x0 := at_frozen (i := 0) hbx; have j1 := at_cell (i := 1) hbx rfl; have x1 := at_frozen (i := 1) hbx; have j2 := at_cell (i := 2) hbx rfl; have x2 := at_frozen (i := 2) hbx; have HBX3 := Lib.hid hbx; have HR := Lib.hid (hr3); have HO := Lib.hid (HO0.out.trans ho3); clear hbx; clear hr3 ho3)
  refine bodyPost_ret (results_cell_row rfl _ _ _ _ _ _ _ rfl (set_same (set_same (set_same HBX3.out 0 (.string (tx x))) 1 (.int .u64 0)) 2 (.bool false)) Try.underlying55 rfl (by kernel_rfl)) rfl ?_
  exact ⟨rfl, (RS.store (RS.store (RS.store HR.out (g := w.heap.size) (i := 0) (.string (tx x)) HG.out.1 HG.out.2.1 HG.out.2.2.1 HG.out.2.2.2) (g := w.heap.size) (i := 1) (.int .u64 0) HG.out.1 HG.out.2.1 HG.out.2.2.1 HG.out.2.2.2) (g := w.heap.size) (i := 2) (.bool false) HG.out.1 HG.out.2.1 HG.out.2.2.1 HG.out.2.2.2), (Only.store (Only.store (Only.store HO.out (g := w.heap.size) (i := 0) (.string (tx x)) (Nat.le_refl _)) (g := w.heap.size) (i := 1) (.int .u64 0) (Nat.le_refl _)) (g := w.heap.size) (i := 2) (.bool false) (Nat.le_refl _))⟩

set_option maxRecDepth 100000 in
set_option maxHeartbeats 1000000 in
theorem rdep_more (T : Nat → Prop) (brd bt bc B N : Nat) (ver : Int) (hv : ¬ ver < 3) (tl : List (List UInt8)) (c : Cu) (w : World) (hTn : ¬ T w.heap.size) (h : RS w T brd bt bc B N ver tl c) :
    Calls Try.prog 81 #[.pointer (some ⟨brd, 0, none⟩)] w fun e w' => e = .returned (.agg #[.string (tx (ttext tl (c.num.1 / 2))), .int .u64 0, .bool (decide (c.num.1 % 2 = 1))]) ∧ RS w' T brd bt bc B N ver tl c.num.2 ∧ Only bc w w' := by
  have hblt : brd < w.heap.size := by
    have hb := h.box
    rcases Nat.lt_or_ge brd w.heap.size with h | h
    · exact h
    · rw [Array.getElem?_eq_none h] at hb; cases hb
  have hclt := h.cur.lt
  have hT0 : Turn (fun k => w.heap.size ≤ k) w (w.alloc (.cells #[.string { data := #[] }, .int .u64 0, .bool false] 55)) := Turn.of_below ((Below.refl _ w).alloc (Nat.le_refl _) _)
  have h2 : RS (w.alloc (.cells #[.string { data := #[] }, .int .u64 0, .bool false] 55)) T brd bt bc B N ver tl c := ⟨(Below.heap_alloc w _ brd hblt).trans h.box, h.cur.below ((Below.refl _ w).alloc (Nat.le_refl _) _) hclt, tab_alloc h.tab _, h.nt, h.nb, h.big⟩
  have HO0 : Hid (Only bc w (w.alloc (.cells #[.string { data := #[] }, .int .u64 0, .bool false] 55))) := Only.of_below ((Below.refl _ w).alloc (Nat.le_refl _) _)
  have HBX := Lib.hid (one_new w (.cells #[.string { data := #[] }, .int .u64 0, .bool false] 55))
  have HNE : Hid (w.heap.size ≠ bc) := by show _ ≠ _; omega
  have HSZ : Hid (w.heap.size < (w.alloc (.cells #[.string { data := #[] }, .int .u64 0, .bool false] 55)).heap.size) := by show _ < _; simp
  have q0 := at_cell (i := 0) h2.box rfl
  have q2 := at_cell (i := 2) h2.box rfl
  have f0 := at_cell (i := 0) HBX.out rfl
  have f1 := at_cell (i := 1) HBX.out rfl
  have f2 := at_cell (i := 2) HBX.out rfl
  have H := Lib.hid h2
  have HG : Hid (brd ≠ w.heap.size ∧ bc ≠ w.heap.size ∧ ¬ T w.heap.size ∧ B ≤ w.heap.size) := ⟨by omega, by omega, hTn, by have := h.cur.le; omega⟩
  have HC := Lib.hid (cnumber_any B bc c _ h2.cur)
  obtain ⟨n, hn⟩ : ∃ n, n = c.num.1 := ⟨_, rfl⟩
  obtain ⟨d, hd⟩ : ∃ d, d = c.num.2 := ⟨_, rfl⟩
  have hlt : n < 18446744073709551616 := by rw [hn]; exact Cu.num_lt
  rw [← hn, ← hd] at HC ⊢
  have t2 : (n : Int).tdiv 2 = ((n / 2 : Nat) : Int) := by rw [Int.tdiv_eq_ediv_of_nonneg (by omega)]; simp
  have t3 : (n : Int).tmod 2 = ((n % 2 : Nat) : Int) := by rw [Int.tmod_eq_emod_of_nonneg (by omega)]; simp
  obtain ⟨m, hm⟩ : ∃ m, m = n / 2 := ⟨_, rfl⟩
  obtain ⟨b, hb⟩ : ∃ b, b = n % 2 := ⟨_, rfl⟩
  rw [← hm] at t2 ⊢
  rw [← hb] at t3 ⊢
  have hm2 : m < 18446744073709551616 := by omega
  have hb2 : b < 2 := by omega
  have d1 : decide (ver < 3) = false := decide_eq_false hv
  have HB2 := Lib.hid hb2
  rw [show decide (b = 1) = ((b : Int) == 1) from by rw [Bool.eq_iff_iff, decide_eq_true_iff, beq_iff_eq]; omega]
  clear hn hd hm hb
  clear h h2 hT0 hblt hclt hv
  go_enter Try.func81, Try.ntmps81
  go_wp2_with (first
    | (go_at_call 82; refine (rtext_any T brd bt bc B N m ver tl d _ HR.out).mono ?_; rintro e w4 ⟨rfl, rfl⟩)
    | (go_at_call 80; refine HC.out.mono ?_; rintro e w3 ⟨rfl, hc3, ho3⟩; have hbx := (ho3.block w.heap.size HSZ.out HNE.out).trans HBX.out; have j0 := at_cell (i := 0) hbx rfl; have x0 := at_frozen (i := 0) hbx; have j1 := at_cell (i := 1) hbx rfl; have x1 := at_frozen (i := 1) hbx; have j2 := at_cell (i := 2) hbx rfl; have x2 := at_frozen (i := 2) hbx; have HBX3 := Lib.hid hbx; have HR := Lib.hid (H.out.took hc3 ho3); have HO := Lib.hid (HO0.out.trans ho3); clear hbx; clear hc3 ho3))
  refine bodyPost_ret (results_cell_row rfl _ _ _ _ _ _ _ rfl (set_same (set_same (set_same HBX3.out 0 (.string (tx (ttext tl m)))) 1 (.int .u64 0)) 2 (.bool ((b : Int) == 1))) Try.underlying55 rfl (by kernel_rfl)) rfl ?_
  exact ⟨rfl, (RS.store (RS.store (RS.store HR.out (g := w.heap.size) (i := 0) (.string (tx (ttext tl m))) HG.out.1 HG.out.2.1 HG.out.2.2.1 HG.out.2.2.2) (g := w.heap.size) (i := 1) (.int .u64 0) HG.out.1 HG.out.2.1 HG.out.2.2.1 HG.out.2.2.2) (g := w.heap.size) (i := 2) (.bool ((b : Int) == 1)) HG.out.1 HG.out.2.1 HG.out.2.2.1 HG.out.2.2.2), (Only.store (Only.store (Only.store HO.out (g := w.heap.size) (i := 0) (.string (tx (ttext tl m))) (Nat.le_refl _)) (g := w.heap.size) (i := 1) (.int .u64 0) (Nat.le_refl _)) (g := w.heap.size) (i := 2) (.bool ((b : Int) == 1)) (Nat.le_refl _))⟩

end Go.Proofs.Ytidkahmjjknkmaa

/- The reader's fields. -/
namespace Go.Proofs.Ytidkahmjjknkmaa
open Go.RowKit

/-- A record that is being read, in a block of its own; its deps in memory of their own; all of it in S. -/
def RecS (w : World) (S : Nat → Prop) (brr : Nat) (r : Rc) (va : Value) (l : List Dp) : Prop :=
  w.heap[brr]? = some (.cells #[.int .i64 r.kind, .string (tx r.target), .int .u64 r.rule, va, .int .u64 r.out, .int .u64 r.time, .string (tx r.tag)] 26 (0, 0)) ∧ w.ownsRow 0 55 3 va l.length (dps l) ∧ S brr ∧ (∀ k, va.ownBlock = some k → S k)

/-- What a read may turn, and what it may not. -/
structure RE (w : World) (S T : Nat → Prop) (brd bc brr B : Nat) : Prop where
  sc : S bc
  nd : ¬ S brd
  nt : ∀ k, T k → ¬ S k
  up : ∀ k, S k → B ≤ k
  ne : bc ≠ brr
  new : ∀ k, w.heap.size ≤ k → S k

theorem RE.next {w w' : World} {S T : Nat → Prop} {brd bc brr B : Nat} (h : RE w S T brd bc brr B) (hs : w.heap.size ≤ w'.heap.size) : RE w' S T brd bc brr B := ⟨h.sc, h.nd, h.nt, h.up, h.ne, fun k hk => h.new k (Nat.le_trans hs hk)⟩

/-- The state of a read: record, deps, cursor. -/
structure Rst where
  r : Rc
  l : List Dp
  c : Cu

def RT (w : World) (S T : Nat → Prop) (brd bt bc brr B N : Nat) (ver : Int) (tl : List (List UInt8)) (s : Rst) : Prop := RS w T brd bt bc B N ver tl s.c ∧ ∃ va, RecS w S brr s.r va s.l

theorem rec_only {w w' : World} {S : Nat → Prop} {bc brr : Nat} {r : Rc} {va : Value} {l : List Dp} (h : RecS w S brr r va l) (ho : Only bc w w') (hb : ∃ cs, w.heap[bc]? = some (.cells cs 119 (0, 0))) (hne : bc ≠ brr) : RecS w' S brr r va l := by
  obtain ⟨h1, h2, h3, h4⟩ := h
  obtain ⟨cs, hc⟩ := hb
  refine ⟨(ho.block brr ?_ (fun h => hne h.symm)).trans h1, own_heap h2 (fun g hg => ho.block g (own_lt h2 g hg) (fun h5 => own_cells h2 hc (by decide) (h5 ▸ hg))), h3, h4⟩
  rcases Nat.lt_or_ge brr w.heap.size with h | h
  · exact h
  · rw [Array.getElem?_eq_none h] at h1; cases h1
theorem RS.cblock {w : World} {T : Nat → Prop} {brd bt bc B N : Nat} {ver : Int} {tl : List (List UInt8)} {c : Cu} (h : RS w T brd bt bc B N ver tl c) : ∃ cs, w.heap[bc]? = some (.cells cs 119 (0, 0)) := by
  obtain ⟨A, n, cap, _, _, h2⟩ := h.cur.lies
  exact ⟨_, h2⟩
/-- One of the record's own fields is written. -/
theorem rec_set {w : World} {S : Nat → Prop} {brr : Nat} {r r2 : Rc} {va : Value} {l : List Dp} (h : RecS w S brr r va l) (i : Nat) (u : Value) (hr : (#[.int .i64 r.kind, .string (tx r.target), .int .u64 r.rule, va, .int .u64 r.out, .int .u64 r.time, .string (tx r.tag)] : Array Value).setIfInBounds i u = #[.int .i64 r2.kind, .string (tx r2.target), .int .u64 r2.rule, va, .int .u64 r2.out, .int .u64 r2.time, .string (tx r2.tag)]) : RecS (w.setCell ⟨brr, i, none⟩ u) S brr r2 va l := by
  obtain ⟨h1, h2, h3, h4⟩ := h
  refine ⟨by rw [← hr]; exact set_same h1 i u, ownsRow_setCell_other h2 (own_cells h2 h1 (by decide)) _, h3, h4⟩

def st_target (ver : Int) (tl : List (List UInt8)) (s : Rst) : Rst := ⟨⟨s.r.kind, (rdName ver tl s.c).1, s.r.rule, s.r.out, s.r.time, s.r.tag⟩, s.l, (rdName ver tl s.c).2⟩

set_option maxRecDepth 100000 in
set_option maxHeartbeats 1000000 in
theorem rd_target (S T : Nat → Prop) (brd bt bc brr B N : Nat) (ver : Int) (tl : List (List UInt8)) (s : Rst) (w : World) (hE : RE w S T brd bc brr B) (hT : RT w S T brd bt bc brr B N ver tl s) :
    Calls Try.prog 58 #[.pointer (some ⟨brd, 0, none⟩), .pointer (some ⟨brr, 0, none⟩)] w fun e w' => e = .returned (.tuple #[]) ∧ RT w' S T brd bt bc brr B N ver tl (st_target ver tl s) ∧ Turn S w w' := by
  have HC := Lib.hid (rdname_any T brd bt bc B N ver tl s.c w hT.1)
  obtain ⟨va, hrec⟩ := hT.2
  obtain ⟨x, hx⟩ : ∃ x, x = (rdName ver tl s.c).1 := ⟨_, rfl⟩
  obtain ⟨d, hd⟩ : ∃ d, d = (rdName ver tl s.c).2 := ⟨_, rfl⟩
  have hfin : st_target ver tl s = ⟨⟨s.r.kind, x, s.r.rule, s.r.out, s.r.time, s.r.tag⟩, s.l, d⟩ := by rw [hx, hd]; rfl
  rw [hfin]
  rw [← hx, ← hd] at HC
  have H := Lib.hid hT.1
  have HREC := Lib.hid hrec
  have HE := Lib.hid hE
  clear hT hE hrec hfin hx hd
  go_enter Try.func58, Try.ntmps58
  go_wp2_with (go_at_call 79; refine HC.out.mono ?_; rintro e w3 ⟨rfl, hr3, ho3⟩; have HR3 := Lib.hid hr3; have hrec3 := rec_only HREC.out ho3 H.out.cblock HE.out.ne; have f3 := at_cell (i := 1) hrec3.1 rfl; have y3 := at_frozen (i := 1) hrec3.1; have HREC3 := Lib.hid hrec3; have HO3 := Lib.hid ho3; clear ho3 hrec3 hr3)
  go_end0
  have hb : S brr := HREC.out.2.2.1
  exact ⟨rfl, ⟨HR3.out.store (g := brr) (i := 1) _ (fun h => HE.out.nd (h ▸ hb)) HE.out.ne (fun h => HE.out.nt _ h hb) (HE.out.up _ hb), va, rec_set HREC3.out 1 _ rfl⟩, ((Turn.of_only HO3.out).wide (fun k hk => hk ▸ HE.out.sc)).setCell brr 1 _ hb⟩

def st_rule (_ver : Int) (_tl : List (List UInt8)) (s : Rst) : Rst := ⟨⟨s.r.kind, s.r.target, (s.c.num.1 : Int), s.r.out, s.r.time, s.r.tag⟩, s.l, s.c.num.2⟩

set_option maxRecDepth 100000 in
set_option maxHeartbeats 1000000 in
theorem rd_rule (S T : Nat → Prop) (brd bt bc brr B N : Nat) (ver : Int) (tl : List (List UInt8)) (s : Rst) (w : World) (hE : RE w S T brd bc brr B) (hT : RT w S T brd bt bc brr B N ver tl s) :
    Calls Try.prog 59 #[.pointer (some ⟨brd, 0, none⟩), .pointer (some ⟨brr, 0, none⟩)] w fun e w' => e = .returned (.tuple #[]) ∧ RT w' S T brd bt bc brr B N ver tl (st_rule ver tl s) ∧ Turn S w w' := by
  have q2 := at_cell (i := 2) hT.1.box rfl
  have HC := Lib.hid (cnumber_any B bc s.c w hT.1.cur)
  obtain ⟨va, hrec⟩ := hT.2
  obtain ⟨x, hx⟩ : ∃ x, x = s.c.num.1 := ⟨_, rfl⟩
  obtain ⟨d, hd⟩ : ∃ d, d = s.c.num.2 := ⟨_, rfl⟩
  have hfin : st_rule ver tl s = ⟨⟨s.r.kind, s.r.target, (x : Int), s.r.out, s.r.time, s.r.tag⟩, s.l, d⟩ := by rw [hx, hd]; rfl
  rw [hfin]
  rw [← hx, ← hd] at HC
  have H := Lib.hid hT.1
  have HREC := Lib.hid hrec
  have HE := Lib.hid hE
  clear hT hE hrec hfin hx hd
  go_enter Try.func59, Try.ntmps59
  go_wp2_with (go_at_call 80; refine HC.out.mono ?_; rintro e w3 ⟨rfl, hc3, ho3⟩; have HR3 := Lib.hid (H.out.took hc3 ho3); have hrec3 := rec_only HREC.out ho3 H.out.cblock HE.out.ne; have f3 := at_cell (i := 2) hrec3.1 rfl; have y3 := at_frozen (i := 2) hrec3.1; have HREC3 := Lib.hid hrec3; have HO3 := Lib.hid ho3; clear ho3 hrec3 hc3)
  go_end0
  have hb : S brr := HREC.out.2.2.1
  exact ⟨rfl, ⟨HR3.out.store (g := brr) (i := 2) _ (fun h => HE.out.nd (h ▸ hb)) HE.out.ne (fun h => HE.out.nt _ h hb) (HE.out.up _ hb), va, rec_set HREC3.out 2 _ rfl⟩, ((Turn.of_only HO3.out).wide (fun k hk => hk ▸ HE.out.sc)).setCell brr 2 _ hb⟩

def st_out (_ver : Int) (_tl : List (List UInt8)) (s : Rst) : Rst := ⟨⟨s.r.kind, s.r.target, s.r.rule, (s.c.num.1 : Int), s.r.time, s.r.tag⟩, s.l, s.c.num.2⟩

set_option maxRecDepth 100000 in
set_option maxHeartbeats 1000000 in
theorem rd_out (S T : Nat → Prop) (brd bt bc brr B N : Nat) (ver : Int) (tl : List (List UInt8)) (s : Rst) (w : World) (hE : RE w S T brd bc brr B) (hT : RT w S T brd bt bc brr B N ver tl s) :
    Calls Try.prog 61 #[.pointer (some ⟨brd, 0, none⟩), .pointer (some ⟨brr, 0, none⟩)] w fun e w' => e = .returned (.tuple #[]) ∧ RT w' S T brd bt bc brr B N ver tl (st_out ver tl s) ∧ Turn S w w' := by
  have q2 := at_cell (i := 2) hT.1.box rfl
  have HC := Lib.hid (cnumber_any B bc s.c w hT.1.cur)
  obtain ⟨va, hrec⟩ := hT.2
  obtain ⟨x, hx⟩ : ∃ x, x = s.c.num.1 := ⟨_, rfl⟩
  obtain ⟨d, hd⟩ : ∃ d, d = s.c.num.2 := ⟨_, rfl⟩
  have hfin : st_out ver tl s = ⟨⟨s.r.kind, s.r.target, s.r.rule, (x : Int), s.r.time, s.r.tag⟩, s.l, d⟩ := by rw [hx, hd]; rfl
  rw [hfin]
  rw [← hx, ← hd] at HC
  have H := Lib.hid hT.1
  have HREC := Lib.hid hrec
  have HE := Lib.hid hE
  clear hT hE hrec hfin hx hd
  go_enter Try.func61, Try.ntmps61
  go_wp2_with (go_at_call 80; refine HC.out.mono ?_; rintro e w3 ⟨rfl, hc3, ho3⟩; have HR3 := Lib.hid (H.out.took hc3 ho3); have hrec3 := rec_only HREC.out ho3 H.out.cblock HE.out.ne; have f3 := at_cell (i := 4) hrec3.1 rfl; have y3 := at_frozen (i := 4) hrec3.1; have HREC3 := Lib.hid hrec3; have HO3 := Lib.hid ho3; clear ho3 hrec3 hc3)
  go_end0
  have hb : S brr := HREC.out.2.2.1
  exact ⟨rfl, ⟨HR3.out.store (g := brr) (i := 4) _ (fun h => HE.out.nd (h ▸ hb)) HE.out.ne (fun h => HE.out.nt _ h hb) (HE.out.up _ hb), va, rec_set HREC3.out 4 _ rfl⟩, ((Turn.of_only HO3.out).wide (fun k hk => hk ▸ HE.out.sc)).setCell brr 4 _ hb⟩

def st_when (_ver : Int) (_tl : List (List UInt8)) (s : Rst) : Rst := ⟨⟨s.r.kind, s.r.target, s.r.rule, s.r.out, (s.c.num.1 : Int), s.r.tag⟩, s.l, s.c.num.2⟩

set_option maxRecDepth 100000 in
set_option maxHeartbeats 1000000 in
theorem rd_when (S T : Nat → Prop) (brd bt bc brr B N : Nat) (ver : Int) (tl : List (List UInt8)) (s : Rst) (w : World) (hE : RE w S T brd bc brr B) (hT : RT w S T brd bt bc brr B N ver tl s) :
    Calls Try.prog 62 #[.pointer (some ⟨brd, 0, none⟩), .pointer (some ⟨brr, 0, none⟩)] w fun e w' => e = .returned (.tuple #[]) ∧ RT w' S T brd bt bc brr B N ver tl (st_when ver tl s) ∧ Turn S w w' := by
  have q2 := at_cell (i := 2) hT.1.box rfl
  have HC := Lib.hid (cnumber_any B bc s.c w hT.1.cur)
  obtain ⟨va, hrec⟩ := hT.2
  obtain ⟨x, hx⟩ : ∃ x, x = s.c.num.1 := ⟨_, rfl⟩
  obtain ⟨d, hd⟩ : ∃ d, d = s.c.num.2 := ⟨_, rfl⟩
  have hfin : st_when ver tl s = ⟨⟨s.r.kind, s.r.target, s.r.rule, s.r.out, (x : Int), s.r.tag⟩, s.l, d⟩ := by rw [hx, hd]; rfl
  rw [hfin]
  rw [← hx, ← hd] at HC
  have H := Lib.hid hT.1
  have HREC := Lib.hid hrec
  have HE := Lib.hid hE
  clear hT hE hrec hfin hx hd
  go_enter Try.func62, Try.ntmps62
  go_wp2_with (go_at_call 80; refine HC.out.mono ?_; rintro e w3 ⟨rfl, hc3, ho3⟩; have HR3 := Lib.hid (H.out.took hc3 ho3); have hrec3 := rec_only HREC.out ho3 H.out.cblock HE.out.ne; have f3 := at_cell (i := 5) hrec3.1 rfl; have y3 := at_frozen (i := 5) hrec3.1; have HREC3 := Lib.hid hrec3; have HO3 := Lib.hid ho3; clear ho3 hrec3 hc3)
  go_end0
  have hb : S brr := HREC.out.2.2.1
  exact ⟨rfl, ⟨HR3.out.store (g := brr) (i := 5) _ (fun h => HE.out.nd (h ▸ hb)) HE.out.ne (fun h => HE.out.nt _ h hb) (HE.out.up _ hb), va, rec_set HREC3.out 5 _ rfl⟩, ((Turn.of_only HO3.out).wide (fun k hk => hk ▸ HE.out.sc)).setCell brr 5 _ hb⟩

end Go.Proofs.Ytidkahmjjknkmaa
