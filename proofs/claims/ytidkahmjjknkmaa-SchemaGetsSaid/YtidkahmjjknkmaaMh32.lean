/- Texts of one proof, one behind the other. -/
import Derived.Test.YtidkahmjjknkmaaMh27
import Derived.Test.YtidkahmjjknkmaaMh28
import Derived.Test.YtidkahmjjknkmaaMh29
import Derived.Test.YtidkahmjjknkmaaMh30
import Derived.Test.YtidkahmjjknkmaaMh31
import Derived.Test.YtidkahmjjknkmaaMh21

/- The document's Put, and schema.Put, of a record that may not be; of any. -/
namespace Go.Proofs.Ytidkahmjjknkmaa
open Go.RowKit

/-- Why there is none. -/
def whyNo (ver : Int) : Int := if 1 ≤ ver ∧ ver ≤ 3 then 1 else 11

theorem put_why (bt : Nat) (ver : Int) (r : Rc) (A : Option Addr) (n c : Nat) (l : List Dp) (hm : ¬ MayP ver r l) (hn : n ≤ 1000) (hfit : Fits r l) (w : World) (hr : Reads w w.heap.size 3 A n (dps l)) :
    Calls Try.prog 10 #[.int .i64 ver, .pointer (some ⟨bt, 0, none⟩), .agg #[.int .i64 r.kind, .string (tx r.target), .int .u64 r.rule, .slice A n c, .int .u64 r.out, .int .u64 r.time, .string (tx r.tag)]] w fun e w' => e = .returned (.tuple #[.slice none 0 0, .int .i64 (whyNo ver)]) ∧ Below w.heap.size w w' := by
  unfold whyNo
  by_cases hv : 1 ≤ ver ∧ ver ≤ 3
  · rw [if_pos hv]
    refine put_arg ver hv bt n c r A w (Lib.hid fun W hb => ?_)
    refine (may_any ver r A n c l hn hfit W ((hr.below hb).more hb.size)).mono fun e w' ⟨⟨q, h1, h2⟩, h3⟩ => ⟨?_, h3⟩
    cases q with
    | false => exact h2
    | true => exact absurd (h1.1 rfl) hm
  · rw [if_neg hv]
    exact put_way ver hv (some ⟨bt, 0, none⟩) n c r A w

set_option maxRecDepth 100000 in
set_option maxHeartbeats 1000000 in
theorem rp_noB (ver : Int) (k : Int) (t g : List UInt8) (u o m : Int) (A : Option Addr) (n c : Nat) (l : List Dp) (hm : ¬ MayP ver ⟨k, t, u, o, m, g⟩ l) (hn : n ≤ 100000) (hfit : Fits ⟨k, t, u, o, m, g⟩ l) (L : Option Addr) (nT cT : Nat) (w : World) (hr : Reads w w.heap.size 3 A n (dps l)) :
    Calls Try.prog 11 #[.int .i64 ver, .slice L nT cT, .agg #[.int .i64 k, .string (tx t), .int .u64 u, .slice A n c, .int .u64 o, .int .u64 m, .string (tx g)]] w fun e w' => ∃ v1, e = .returned (.tuple #[v1, .slice L nT cT, .int .i64 (whyNo ver)]) ∧ Own w' w.heap.size v1 [] ∧ Below w.heap.size w w' := by
  have hb0 := (Below.refl w.heap.size w).alloc (Nat.le_refl _) (.cells #[.int .i64 k, .string (tx t), .int .u64 u, .slice A n c, .int .u64 o, .int .u64 m, .string (tx g)] 26)
  have hb1 := hb0.alloc (by simp) (.cells #[] 9)
  have ho := own_less (own_empty (w.alloc (.cells #[.int .i64 k, .string (tx t), .int .u64 u, .slice A n c, .int .u64 o, .int .u64 m, .string (tx g)] 26)) 9) (base' := w.heap.size) (by simp)
  have hz : (w.alloc (.cells #[.int .i64 k, .string (tx t), .int .u64 u, .slice A n c, .int .u64 o, .int .u64 m, .string (tx g)] 26)).heap.size = w.heap.size + 1 := by simp
  rw [hz] at ho
  have hbx := (Below.heap_alloc (w.alloc (.cells #[.int .i64 k, .string (tx t), .int .u64 u, .slice A n c, .int .u64 o, .int .u64 m, .string (tx g)] 26)) (.cells #[] 9) w.heap.size (by simp)).trans (one_new w (.cells #[.int .i64 k, .string (tx t), .int .u64 u, .slice A n c, .int .u64 o, .int .u64 m, .string (tx g)] 26))
  have q0 := at_cell (i := 0) hbx rfl
  have q1 := at_cell (i := 1) hbx rfl
  have q2 := at_cell (i := 2) hbx rfl
  have q3 := at_cell (i := 3) hbx rfl
  have q4 := at_cell (i := 4) hbx rfl
  have q5 := at_cell (i := 5) hbx rfl
  have q6 := at_cell (i := 6) hbx rfl
  have HB1 := Lib.hid hb1
  have HO := Lib.hid ho
  have HM := Lib.hid hm
  have HR := Lib.hid (fun W hb => rmay_anyB ver ⟨k, t, u, o, m, g⟩ A n c l hn hfit W ((hr.below hb).more hb.size))
  unfold rcv rsv at HR
  clear hb0 hb1 ho hz hbx hm hr hfit
  unfold whyNo
  by_cases hv : 1 ≤ ver ∧ ver ≤ 3
  · rw [if_pos hv]
    obtain ⟨hv1, hv3⟩ := hv
    have d1 : decide (ver < 1) = false := decide_eq_false (by omega)
    have d2 : decide (3 < ver) = false := decide_eq_false (by omega)
    go_enter Try.func11, Try.ntmps11
    go_wp2_with fail
    refine (HR.out _ HB1.out).mono ?_
    rintro e w4 ⟨he, hb⟩
    obtain rfl := he.no HM.out
    have HB4 := Lib.hid (HB1.out.trans (hb.mono HB1.out.size))
    have HO4 : Hid (Own w4 w.heap.size (.slice (some ⟨w.heap.size + 1, 0, none⟩) 0 0) []) := own_below HO.out hb
    clear he hb
    go_wp2
    go_ret3
    exact ⟨_, rfl, HO4.out, HB4.out⟩
  · rw [if_neg hv]
    have HO4 : Hid (Own ((w.alloc (.cells #[.int .i64 k, .string (tx t), .int .u64 u, .slice A n c, .int .u64 o, .int .u64 m, .string (tx g)] 26)).alloc (.cells #[] 9)) w.heap.size (.slice (some ⟨w.heap.size + 1, 0, none⟩) 0 0) []) := HO.out
    by_cases hv1 : ver < 1
    · have d1 : decide (ver < 1) = true := decide_eq_true hv1
      clear hv
      go_enter Try.func11, Try.ntmps11
      go_wp2
      go_ret3
      exact ⟨_, rfl, HO4.out, HB1.out⟩
    · have hv3 : 3 < ver := by omega
      have d1 : decide (ver < 1) = false := decide_eq_false (by omega)
      have d2 : decide (3 < ver) = true := decide_eq_true hv3
      clear hv
      go_enter Try.func11, Try.ntmps11
      go_wp2
      go_ret3
      exact ⟨_, rfl, HO4.out, HB1.out⟩
theorem rp_no (ver : Int) (k : Int) (t g : List UInt8) (u o m : Int) (A : Option Addr) (n c : Nat) (l : List Dp) (hm : ¬ MayP ver ⟨k, t, u, o, m, g⟩ l) (hn : n ≤ 1000) (hfit : Fits ⟨k, t, u, o, m, g⟩ l) (L : Option Addr) (nT cT : Nat) (w : World) (hr : Reads w w.heap.size 3 A n (dps l)) :
    Calls Try.prog 11 #[.int .i64 ver, .slice L nT cT, .agg #[.int .i64 k, .string (tx t), .int .u64 u, .slice A n c, .int .u64 o, .int .u64 m, .string (tx g)]] w fun e w' => ∃ v1, e = .returned (.tuple #[v1, .slice L nT cT, .int .i64 (whyNo ver)]) ∧ Own w' w.heap.size v1 [] ∧ Below w.heap.size w w' :=
  rp_noB ver k t g u o m A n c l hm (by omega) hfit L nT cT w hr

/-- Of a record that may be. -/
theorem rp_yes (ver : Int) (tl : List (List UInt8)) (r : Rc) (A : Option Addr) (n c : Nat) (l : List Dp) (hm : MayP ver r l) (hnu : Nums r l) (hfit : Fits r l) (tv : Value) (htl : tl.length ≤ 100000) (w : World) (B0 : Nat) (hB0 : B0 ≤ w.heap.size) (hT : Own w B0 tv tl) (hr : Reads w w.heap.size 3 A n (dps l)) :
    Calls Try.prog 11 #[.int .i64 ver, tv, .agg #[.int .i64 r.kind, .string (tx r.target), .int .u64 r.rule, .slice A n c, .int .u64 r.out, .int .u64 r.time, .string (tx r.tag)]] w fun e w' => ∃ v1 v2, e = .returned (.tuple #[v1, v2, .int .i64 0]) ∧ Own w' w.heap.size v1 (payL ver tl r l) ∧ Own w' B0 v2 (tabT ver tl r l) ∧ Below w.heap.size w w' := by
  obtain ⟨k, t, u, o, m, g⟩ := r
  have hv : ver = 1 ∨ ver = 2 ∨ ver = 3 := by have := hm.1; have := hm.2.1; omega
  have hk : k = 1 ∨ k = 2 := hm.2.2.2.imp (fun h => h.1) (fun h => h.1)
  rcases hv with rfl | rfl | rfl <;> rcases hk with rfl | rfl
  · exact rp11 tl t g u o m A n c l hm hnu hfit tv htl w B0 hT hr
  · exact rp12 tl t g u o m A n c l hm hnu hfit tv htl w B0 hT hr
  · exact rp21 tl t g u o m A n c l hm hnu hfit tv htl w B0 hB0 hT hr
  · exact rp22 tl t g u o m A n c l hm hnu hfit tv htl w B0 hB0 hT hr
  · by_cases hg : g = []
    · subst hg; exact rp31e tl t u o m A n c l hm hnu hfit tv htl w B0 hB0 hT hr
    · exact rp31n tl t g u o m hg A n c l hm hnu hfit tv htl w B0 hB0 hT hr
  · exact rp32 tl t g u o m A n c l hm hnu hfit tv htl w B0 hB0 hT hr

end Go.Proofs.Ytidkahmjjknkmaa

/- The document's Get where it is refused. -/
namespace Go.Proofs.Ytidkahmjjknkmaa
open Go.RowKit

theorem results_cell_three {P : Program} {fn : Func} {u u2 u3 p : Tmp} {ty : TypeId} (h : fn.results = #[.cell p ty, .tmp u, .tmp u2, .tmp u3]) (tmps : Array Value) (w : World) (g : Nat) (t : TypeId) (cs : Array Value) (fr : Nat × Nat) (d : TypeDesc)
    (hp : tmps.getD p undef = .pointer (some ⟨g, 0, none⟩)) (hg : w.heap[g]? = some (.cells cs t fr))
    (hu : P.underlying ty = some d) (hd : (match d with | .struct _ | .array _ _ => true | _ => false) = true) (hi : (P.info? ty).map (·.size) = some cs.size) :
    (results fn tmps).run P w = .ok (.tuple #[.agg cs, tmps.getD u undef, tmps.getD u2 undef, tmps.getD u3 undef]) w := by
  have hp' : tmps[p]?.getD undef = .pointer (some ⟨g, 0, none⟩) := by simpa using hp
  simp [results, h, hp', asAddr, run_loadVar_row w g t ty cs fr d hg hu hd hi]
set_option maxRecDepth 100000 in
set_option maxHeartbeats 1000000 in
theorem rget_v0 (ver : Int) (T A : Option Addr) (tn tk n c : Nat) (at_ : Int) (hv : ver < 1) (w : World) :
    Calls Try.prog 19 #[.int .i64 ver, .slice T tn tk, .slice A n c, .int .i64 at_] w fun e w' => e = .returned (.tuple #[.agg #[.int .i64 0, .string { data := #[] }, .int .u64 0, .slice none 0 0, .int .u64 0, .int .u64 0, .string { data := #[] }], .int .i64 0, .slice T tn tk, .int .i64 11]) ∧ Below w.heap.size w w' := by
  have hz1 : (w.alloc (.cells #[.int .i64 0, .string { data := #[] }, .int .u64 0, .slice none 0 0, .int .u64 0, .int .u64 0, .string { data := #[] }] 26)).heap.size = w.heap.size + 1 := by simp
  have hb1 := (Below.refl w.heap.size w).alloc (Nat.le_refl _) (.cells #[.int .i64 0, .string { data := #[] }, .int .u64 0, .slice none 0 0, .int .u64 0, .int .u64 0, .string { data := #[] }] 26)
  have hb2 := hb1.alloc hb1.size (.cells #[.int .i64 0, .string { data := #[] }, .int .u64 0, .slice none 0 0, .int .u64 0, .int .u64 0, .string { data := #[] }] 26)
  have x8 := (Below.heap_alloc (w.alloc (.cells #[.int .i64 0, .string { data := #[] }, .int .u64 0, .slice none 0 0, .int .u64 0, .int .u64 0, .string { data := #[] }] 26)) (.cells #[.int .i64 0, .string { data := #[] }, .int .u64 0, .slice none 0 0, .int .u64 0, .int .u64 0, .string { data := #[] }] 26) w.heap.size (by omega)).trans (one_new w (.cells #[.int .i64 0, .string { data := #[] }, .int .u64 0, .slice none 0 0, .int .u64 0, .int .u64 0, .string { data := #[] }] 26))
  have x12 := one_new (w.alloc (.cells #[.int .i64 0, .string { data := #[] }, .int .u64 0, .slice none 0 0, .int .u64 0, .int .u64 0, .string { data := #[] }] 26)) (.cells #[.int .i64 0, .string { data := #[] }, .int .u64 0, .slice none 0 0, .int .u64 0, .int .u64 0, .string { data := #[] }] 26)
  rw [hz1] at x12
  have HX8 := Lib.hid x8
  have HX12 := Lib.hid x12
  have HB2 := Lib.hid hb2
  have q0 := at_cell (i := 0) x8 rfl
  have y0 := at_frozen (i := 0) x8
  have n0 := at_cell (i := 0) x12 rfl
  have q1 := at_cell (i := 1) x8 rfl
  have y1 := at_frozen (i := 1) x8
  have n1 := at_cell (i := 1) x12 rfl
  have q2 := at_cell (i := 2) x8 rfl
  have y2 := at_frozen (i := 2) x8
  have n2 := at_cell (i := 2) x12 rfl
  have q3 := at_cell (i := 3) x8 rfl
  have y3 := at_frozen (i := 3) x8
  have n3 := at_cell (i := 3) x12 rfl
  have q4 := at_cell (i := 4) x8 rfl
  have y4 := at_frozen (i := 4) x8
  have n4 := at_cell (i := 4) x12 rfl
  have q5 := at_cell (i := 5) x8 rfl
  have y5 := at_frozen (i := 5) x8
  have n5 := at_cell (i := 5) x12 rfl
  have q6 := at_cell (i := 6) x8 rfl
  have y6 := at_frozen (i := 6) x8
  have n6 := at_cell (i := 6) x12 rfl
  clear x8 x12 hb1 hb2 hz1
  have d1 : decide (ver < 1) = true := decide_eq_true hv
  go_enter Try.func19, Try.ntmps19
  go_wp2
  refine bodyPost_ret (results_cell_three rfl _ _ w.heap.size _ _ (0, 0) _ rfl HX8.out Try.underlying26 rfl (by kernel_rfl)) rfl ?_
  exact ⟨rfl, HB2.out⟩
set_option maxRecDepth 100000 in
set_option maxHeartbeats 1000000 in
theorem rget_v4 (ver : Int) (T A : Option Addr) (tn tk n c : Nat) (at_ : Int) (hv : 3 < ver) (w : World) :
    Calls Try.prog 19 #[.int .i64 ver, .slice T tn tk, .slice A n c, .int .i64 at_] w fun e w' => e = .returned (.tuple #[.agg #[.int .i64 0, .string { data := #[] }, .int .u64 0, .slice none 0 0, .int .u64 0, .int .u64 0, .string { data := #[] }], .int .i64 0, .slice T tn tk, .int .i64 11]) ∧ Below w.heap.size w w' := by
  have hz1 : (w.alloc (.cells #[.int .i64 0, .string { data := #[] }, .int .u64 0, .slice none 0 0, .int .u64 0, .int .u64 0, .string { data := #[] }] 26)).heap.size = w.heap.size + 1 := by simp
  have hb1 := (Below.refl w.heap.size w).alloc (Nat.le_refl _) (.cells #[.int .i64 0, .string { data := #[] }, .int .u64 0, .slice none 0 0, .int .u64 0, .int .u64 0, .string { data := #[] }] 26)
  have hb2 := hb1.alloc hb1.size (.cells #[.int .i64 0, .string { data := #[] }, .int .u64 0, .slice none 0 0, .int .u64 0, .int .u64 0, .string { data := #[] }] 26)
  have x8 := (Below.heap_alloc (w.alloc (.cells #[.int .i64 0, .string { data := #[] }, .int .u64 0, .slice none 0 0, .int .u64 0, .int .u64 0, .string { data := #[] }] 26)) (.cells #[.int .i64 0, .string { data := #[] }, .int .u64 0, .slice none 0 0, .int .u64 0, .int .u64 0, .string { data := #[] }] 26) w.heap.size (by omega)).trans (one_new w (.cells #[.int .i64 0, .string { data := #[] }, .int .u64 0, .slice none 0 0, .int .u64 0, .int .u64 0, .string { data := #[] }] 26))
  have x12 := one_new (w.alloc (.cells #[.int .i64 0, .string { data := #[] }, .int .u64 0, .slice none 0 0, .int .u64 0, .int .u64 0, .string { data := #[] }] 26)) (.cells #[.int .i64 0, .string { data := #[] }, .int .u64 0, .slice none 0 0, .int .u64 0, .int .u64 0, .string { data := #[] }] 26)
  rw [hz1] at x12
  have HX8 := Lib.hid x8
  have HX12 := Lib.hid x12
  have HB2 := Lib.hid hb2
  have q0 := at_cell (i := 0) x8 rfl
  have y0 := at_frozen (i := 0) x8
  have n0 := at_cell (i := 0) x12 rfl
  have q1 := at_cell (i := 1) x8 rfl
  have y1 := at_frozen (i := 1) x8
  have n1 := at_cell (i := 1) x12 rfl
  have q2 := at_cell (i := 2) x8 rfl
  have y2 := at_frozen (i := 2) x8
  have n2 := at_cell (i := 2) x12 rfl
  have q3 := at_cell (i := 3) x8 rfl
  have y3 := at_frozen (i := 3) x8
  have n3 := at_cell (i := 3) x12 rfl
  have q4 := at_cell (i := 4) x8 rfl
  have y4 := at_frozen (i := 4) x8
  have n4 := at_cell (i := 4) x12 rfl
  have q5 := at_cell (i := 5) x8 rfl
  have y5 := at_frozen (i := 5) x8
  have n5 := at_cell (i := 5) x12 rfl
  have q6 := at_cell (i := 6) x8 rfl
  have y6 := at_frozen (i := 6) x8
  have n6 := at_cell (i := 6) x12 rfl
  clear x8 x12 hb1 hb2 hz1
  have d1 : decide (ver < 1) = false := decide_eq_false (by omega)
  have d2 : decide (ver > 3) = true := decide_eq_true hv
  go_enter Try.func19, Try.ntmps19
  go_wp2
  refine bodyPost_ret (results_cell_three rfl _ _ w.heap.size _ _ (0, 0) _ rfl HX8.out Try.underlying26 rfl (by kernel_rfl)) rfl ?_
  exact ⟨rfl, HB2.out⟩
set_option maxRecDepth 100000 in
set_option maxHeartbeats 1000000 in
theorem rget_low (ver : Int) (T A : Option Addr) (tn tk n c : Nat) (at_ : Int) (hv : 1 ≤ ver ∧ ver ≤ 3) (ha : at_ < 0) (w : World) :
    Calls Try.prog 19 #[.int .i64 ver, .slice T tn tk, .slice A n c, .int .i64 at_] w fun e w' => e = .returned (.tuple #[.agg #[.int .i64 0, .string { data := #[] }, .int .u64 0, .slice none 0 0, .int .u64 0, .int .u64 0, .string { data := #[] }], .int .i64 0, .slice T tn tk, .int .i64 1]) ∧ Below w.heap.size w w' := by
  have hz1 : (w.alloc (.cells #[.int .i64 0, .string { data := #[] }, .int .u64 0, .slice none 0 0, .int .u64 0, .int .u64 0, .string { data := #[] }] 26)).heap.size = w.heap.size + 1 := by simp
  have hb1 := (Below.refl w.heap.size w).alloc (Nat.le_refl _) (.cells #[.int .i64 0, .string { data := #[] }, .int .u64 0, .slice none 0 0, .int .u64 0, .int .u64 0, .string { data := #[] }] 26)
  have hb2 := hb1.alloc hb1.size (.cells #[.int .i64 0, .string { data := #[] }, .int .u64 0, .slice none 0 0, .int .u64 0, .int .u64 0, .string { data := #[] }] 26)
  have x8 := (Below.heap_alloc (w.alloc (.cells #[.int .i64 0, .string { data := #[] }, .int .u64 0, .slice none 0 0, .int .u64 0, .int .u64 0, .string { data := #[] }] 26)) (.cells #[.int .i64 0, .string { data := #[] }, .int .u64 0, .slice none 0 0, .int .u64 0, .int .u64 0, .string { data := #[] }] 26) w.heap.size (by omega)).trans (one_new w (.cells #[.int .i64 0, .string { data := #[] }, .int .u64 0, .slice none 0 0, .int .u64 0, .int .u64 0, .string { data := #[] }] 26))
  have x12 := one_new (w.alloc (.cells #[.int .i64 0, .string { data := #[] }, .int .u64 0, .slice none 0 0, .int .u64 0, .int .u64 0, .string { data := #[] }] 26)) (.cells #[.int .i64 0, .string { data := #[] }, .int .u64 0, .slice none 0 0, .int .u64 0, .int .u64 0, .string { data := #[] }] 26)
  rw [hz1] at x12
  have HX8 := Lib.hid x8
  have HX12 := Lib.hid x12
  have HB2 := Lib.hid hb2
  have q0 := at_cell (i := 0) x8 rfl
  have y0 := at_frozen (i := 0) x8
  have n0 := at_cell (i := 0) x12 rfl
  have q1 := at_cell (i := 1) x8 rfl
  have y1 := at_frozen (i := 1) x8
  have n1 := at_cell (i := 1) x12 rfl
  have q2 := at_cell (i := 2) x8 rfl
  have y2 := at_frozen (i := 2) x8
  have n2 := at_cell (i := 2) x12 rfl
  have q3 := at_cell (i := 3) x8 rfl
  have y3 := at_frozen (i := 3) x8
  have n3 := at_cell (i := 3) x12 rfl
  have q4 := at_cell (i := 4) x8 rfl
  have y4 := at_frozen (i := 4) x8
  have n4 := at_cell (i := 4) x12 rfl
  have q5 := at_cell (i := 5) x8 rfl
  have y5 := at_frozen (i := 5) x8
  have n5 := at_cell (i := 5) x12 rfl
  have q6 := at_cell (i := 6) x8 rfl
  have y6 := at_frozen (i := 6) x8
  have n6 := at_cell (i := 6) x12 rfl
  clear x8 x12 hb1 hb2 hz1
  have d1 : decide (ver < 1) = false := decide_eq_false (by omega)
  have d2 : decide (ver > 3) = false := decide_eq_false (by omega)
  have d3 : decide (at_ < 0) = true := decide_eq_true ha
  go_enter Try.func19, Try.ntmps19
  go_wp2
  refine bodyPost_ret (results_cell_three rfl _ _ w.heap.size _ _ (0, 0) _ rfl HX8.out Try.underlying26 rfl (by kernel_rfl)) rfl ?_
  exact ⟨rfl, HB2.out⟩
set_option maxRecDepth 100000 in
set_option maxHeartbeats 1000000 in
theorem rget_beyond (ver : Int) (T A : Option Addr) (tn tk n c : Nat) (at_ : Int) (hv : 1 ≤ ver ∧ ver ≤ 3) (ha : (n : Int) < at_) (w : World) :
    Calls Try.prog 19 #[.int .i64 ver, .slice T tn tk, .slice A n c, .int .i64 at_] w fun e w' => e = .returned (.tuple #[.agg #[.int .i64 0, .string { data := #[] }, .int .u64 0, .slice none 0 0, .int .u64 0, .int .u64 0, .string { data := #[] }], .int .i64 0, .slice T tn tk, .int .i64 1]) ∧ Below w.heap.size w w' := by
  have hz1 : (w.alloc (.cells #[.int .i64 0, .string { data := #[] }, .int .u64 0, .slice none 0 0, .int .u64 0, .int .u64 0, .string { data := #[] }] 26)).heap.size = w.heap.size + 1 := by simp
  have hb1 := (Below.refl w.heap.size w).alloc (Nat.le_refl _) (.cells #[.int .i64 0, .string { data := #[] }, .int .u64 0, .slice none 0 0, .int .u64 0, .int .u64 0, .string { data := #[] }] 26)
  have hb2 := hb1.alloc hb1.size (.cells #[.int .i64 0, .string { data := #[] }, .int .u64 0, .slice none 0 0, .int .u64 0, .int .u64 0, .string { data := #[] }] 26)
  have x8 := (Below.heap_alloc (w.alloc (.cells #[.int .i64 0, .string { data := #[] }, .int .u64 0, .slice none 0 0, .int .u64 0, .int .u64 0, .string { data := #[] }] 26)) (.cells #[.int .i64 0, .string { data := #[] }, .int .u64 0, .slice none 0 0, .int .u64 0, .int .u64 0, .string { data := #[] }] 26) w.heap.size (by omega)).trans (one_new w (.cells #[.int .i64 0, .string { data := #[] }, .int .u64 0, .slice none 0 0, .int .u64 0, .int .u64 0, .string { data := #[] }] 26))
  have x12 := one_new (w.alloc (.cells #[.int .i64 0, .string { data := #[] }, .int .u64 0, .slice none 0 0, .int .u64 0, .int .u64 0, .string { data := #[] }] 26)) (.cells #[.int .i64 0, .string { data := #[] }, .int .u64 0, .slice none 0 0, .int .u64 0, .int .u64 0, .string { data := #[] }] 26)
  rw [hz1] at x12
  have HX8 := Lib.hid x8
  have HX12 := Lib.hid x12
  have HB2 := Lib.hid hb2
  have q0 := at_cell (i := 0) x8 rfl
  have y0 := at_frozen (i := 0) x8
  have n0 := at_cell (i := 0) x12 rfl
  have q1 := at_cell (i := 1) x8 rfl
  have y1 := at_frozen (i := 1) x8
  have n1 := at_cell (i := 1) x12 rfl
  have q2 := at_cell (i := 2) x8 rfl
  have y2 := at_frozen (i := 2) x8
  have n2 := at_cell (i := 2) x12 rfl
  have q3 := at_cell (i := 3) x8 rfl
  have y3 := at_frozen (i := 3) x8
  have n3 := at_cell (i := 3) x12 rfl
  have q4 := at_cell (i := 4) x8 rfl
  have y4 := at_frozen (i := 4) x8
  have n4 := at_cell (i := 4) x12 rfl
  have q5 := at_cell (i := 5) x8 rfl
  have y5 := at_frozen (i := 5) x8
  have n5 := at_cell (i := 5) x12 rfl
  have q6 := at_cell (i := 6) x8 rfl
  have y6 := at_frozen (i := 6) x8
  have n6 := at_cell (i := 6) x12 rfl
  clear x8 x12 hb1 hb2 hz1
  have d1 : decide (ver < 1) = false := decide_eq_false (by omega)
  have d2 : decide (ver > 3) = false := decide_eq_false (by omega)
  have d3 : decide (at_ < 0) = false := decide_eq_false (by omega)
  have d4 : decide (at_ > (n : Int)) = true := decide_eq_true ha
  go_enter Try.func19, Try.ntmps19
  go_wp2
  refine bodyPost_ret (results_cell_three rfl _ _ w.heap.size _ _ (0, 0) _ rfl HX8.out Try.underlying26 rfl (by kernel_rfl)) rfl ?_
  exact ⟨rfl, HB2.out⟩

end Go.Proofs.Ytidkahmjjknkmaa

/- The document's Get where texts alone stand. -/
namespace Go.Proofs.Ytidkahmjjknkmaa
open Go.RowKit

/-- The table behind so many texts. -/
def tblA (tl : List (List UInt8)) (qs : List (List UInt8)) (j : Nat) : List (List UInt8) := ((qs.take j).map List.tail).foldl tput tl
theorem tblA_succ {tl qs : List (List UInt8)} {j : Nat} {p : List UInt8} (h : qs[j]? = some p) : tblA tl qs (j + 1) = tput (tblA tl qs j) p.tail := by
  unfold tblA
  rw [List.take_add_one, h]
  simp [List.foldl_append]
theorem tblA_len (tl qs : List (List UInt8)) (j : Nat) : (tblA tl qs j).length ≤ tl.length + j := by
  unfold tblA
  have h1 := tfold_len ((qs.take j).map List.tail) tl
  rw [List.length_map, List.length_take] at h1
  omega
theorem tahead_at : ∀ (qs : List (List UInt8)) (j : Nat), j < tahead qs → ∃ t, qs[j]? = some (0 :: t)
  | [], j, h => by simp [tahead] at h
  | p :: qs, j, h => by
    unfold tahead at h
    by_cases hp : isTxt p = true
    · rw [if_pos hp] at h
      cases j with
      | zero =>
        match p, hp with
        | [], hp => simp [isTxt] at hp
        | x :: p, hp =>
          have hx : x = 0 := by simpa [isTxt] using hp
          exact ⟨p, by rw [hx]; rfl⟩
      | succ j =>
        obtain ⟨t, ht⟩ := tahead_at qs j (by omega)
        exact ⟨t, by simpa using ht⟩
    · rw [if_neg hp] at h; omega
theorem idx_tx (b : UInt8) (p : List UInt8) (W : World) : (Instr.index 9 (.string (tx (b :: p))) (.int .i64 0)).run Try.prog W = .ok (.int .u8 (b.toNat : Int)) W := by
  have hs : (tx (b :: p)).size = p.length + 1 := tx_size _
  go_simp
  rfl
theorem cut_tx (b : UInt8) (p : List UInt8) (hp : p.length ≤ 100000) (W : World) : (Instr.slice 9 (.string (tx (b :: p))) (some (.int .i64 1)) none none).run Try.prog W = .ok (.string (tx p)) W := by
  have hs : (tx (b :: p)).size = p.length + 1 := tx_size _
  go_simp
  rw [if_pos (by omega), tx_extract]
  simp

set_option maxRecDepth 100000 in
set_option maxHeartbeats 4000000 in
theorem rget_txts (ver : Int) (hv : 1 ≤ ver ∧ ver ≤ 3) (tl ps : List (List UInt8)) (T A : Option Addr) (tk n c a : Nat) (B0 : Nat) (ha : a ≤ n) (hn : n ≤ 1000) (hps : ∀ p ∈ ps, p.length ≤ 3000) (htl : tl.length ≤ 1000) (w : World) (hB0 : B0 ≤ w.heap.size) (hT : Own w B0 (.slice T tl.length tk) tl) (hr : Reads w w.heap.size 1 A n (ps.map tsv)) (htx : tahead (ps.drop a) = n - a) :
    Calls Try.prog 19 #[.int .i64 ver, .slice T tl.length tk, .slice A n c, .int .i64 (a : Int)] w fun e w' => e = .returned (.tuple #[.agg #[.int .i64 0, .string { data := #[] }, .int .u64 0, .slice none 0 0, .int .u64 0, .int .u64 0, .string { data := #[] }], .int .i64 0, .slice T tl.length tk, .int .i64 6]) ∧ Below w.heap.size w w' := by
  have hz1 : (w.alloc (.cells #[.int .i64 0, .string { data := #[] }, .int .u64 0, .slice none 0 0, .int .u64 0, .int .u64 0, .string { data := #[] }] 26)).heap.size = w.heap.size + 1 := by simp
  have hb1 := (Below.refl w.heap.size w).alloc (Nat.le_refl _) (.cells #[.int .i64 0, .string { data := #[] }, .int .u64 0, .slice none 0 0, .int .u64 0, .int .u64 0, .string { data := #[] }] 26)
  have hb2 := hb1.alloc hb1.size (.cells #[.int .i64 0, .string { data := #[] }, .int .u64 0, .slice none 0 0, .int .u64 0, .int .u64 0, .string { data := #[] }] 26)
  have x8 := (Below.heap_alloc (w.alloc (.cells #[.int .i64 0, .string { data := #[] }, .int .u64 0, .slice none 0 0, .int .u64 0, .int .u64 0, .string { data := #[] }] 26)) (.cells #[.int .i64 0, .string { data := #[] }, .int .u64 0, .slice none 0 0, .int .u64 0, .int .u64 0, .string { data := #[] }] 26) w.heap.size (by omega)).trans (one_new w (.cells #[.int .i64 0, .string { data := #[] }, .int .u64 0, .slice none 0 0, .int .u64 0, .int .u64 0, .string { data := #[] }] 26))
  have x12 := one_new (w.alloc (.cells #[.int .i64 0, .string { data := #[] }, .int .u64 0, .slice none 0 0, .int .u64 0, .int .u64 0, .string { data := #[] }] 26)) (.cells #[.int .i64 0, .string { data := #[] }, .int .u64 0, .slice none 0 0, .int .u64 0, .int .u64 0, .string { data := #[] }] 26)
  rw [hz1] at x12
  have HZ2 : Hid (((w.alloc (.cells #[.int .i64 0, .string { data := #[] }, .int .u64 0, .slice none 0 0, .int .u64 0, .int .u64 0, .string { data := #[] }] 26)).alloc (.cells #[.int .i64 0, .string { data := #[] }, .int .u64 0, .slice none 0 0, .int .u64 0, .int .u64 0, .string { data := #[] }] 26)).heap.size = w.heap.size + 2) := (by show _ = _; simp)
  have HX8 := Lib.hid x8
  have HX12 := Lib.hid x12
  have HB2 := Lib.hid hb2
  clear x8 x12 hb1 hb2 hz1
  have hlen : ps.length = n := by have := hr.1; simpa using this
  have HLN := Lib.hid hlen
  have HR := Lib.hid hr
  have HT := Lib.hid hT
  have HTX := Lib.hid htx
  have HPS := Lib.hid hps
  have d1 : decide (ver < 1) = false := decide_eq_false (by omega)
  have d2 : decide (ver > 3) = false := decide_eq_false (by omega)
  have d3 : decide ((a : Int) < 0) = false := decide_eq_false (by omega)
  have d4 : decide ((a : Int) > (n : Int)) = false := decide_eq_false (by omega)
  have d5 : decide (n < a) = false := decide_eq_false (by omega)
  have HB2L : Hid (Below w.heap.size w ((w.alloc (.cells #[.int .i64 0, .string { data := #[] }, .int .u64 0, .slice none 0 0, .int .u64 0, .int .u64 0, .string { data := #[] }] 26)).alloc (.cells #[.int .i64 0, .string { data := #[] }, .int .u64 0, .slice none 0 0, .int .u64 0, .int .u64 0, .string { data := #[] }] 26))) := HB2.out
  obtain ⟨qs, hqs⟩ : ∃ qs, qs = ps.drop a := ⟨_, rfl⟩
  have HQS := Lib.hid hqs
  clear hr hT htx hps hlen hqs
  go_enter Try.func19, Try.ntmps19
  go_wp2
  go_loopw [13, 14] (fun v13 v14 wr => ∃ (m : Nat) (v : Value), a ≤ m ∧ m ≤ n ∧ v13 = .int .i64 (m : Int) ∧ v = v14 ∧ Own wr B0 v (tblA tl qs (m - a)) ∧ Below ((w.alloc (.cells #[.int .i64 0, .string { data := #[] }, .int .u64 0, .slice none 0 0, .int .u64 0, .int .u64 0, .string { data := #[] }] 26)).alloc (.cells #[.int .i64 0, .string { data := #[] }, .int .u64 0, .slice none 0 0, .int .u64 0, .int .u64 0, .string { data := #[] }] 26)).heap.size ((w.alloc (.cells #[.int .i64 0, .string { data := #[] }, .int .u64 0, .slice none 0 0, .int .u64 0, .int .u64 0, .string { data := #[] }] 26)).alloc (.cells #[.int .i64 0, .string { data := #[] }, .int .u64 0, .slice none 0 0, .int .u64 0, .int .u64 0, .string { data := #[] }] 26)) wr) (fun v13 _ _ => n - (intOf v13).toNat)
  case atStart => exact ⟨a, _, Nat.le_refl _, ha, rfl, rfl, by rw [Nat.sub_self]; exact own_below HT.out HB2L.out, Below.refl _ _⟩
  case round =>
    obtain ⟨m, v, ham, hmn, rfl, rfl, hown, hb⟩ := hrel
    have HO := Lib.hid hown
    have HB := Lib.hid hb
    by_cases hlt : m < n
    · obtain ⟨t, ht⟩ := tahead_at qs (m - a) (by rw [HQS.out, HTX.out]; omega)
      have hpt : ps[m]? = some (0 :: t) := by rw [HQS.out, List.getElem?_drop, show a + (m - a) = m by omega] at ht; exact ht
      have htl3 : t.length ≤ 3000 := by have := HPS.out _ (List.mem_of_getElem? hpt); simp at this; omega
      obtain ⟨ad, u, rfl, _, hu, hcell⟩ := ((HR.out.below HB2L.out).below (hb.mono HB2L.out.size)).at_ (k := m) hlt
      obtain rfl : u = .string (tx (0 :: t)) := by rw [List.getElem?_map, hpt] at hu; exact (Option.some.inj hu).symm
      have hx1 : (tx (0 :: t)).toList.isEmpty = false := by simp [tx]
      have hx2 : ((tx (0 :: t)).toList == []) = false := by simp [tx]
      have hidx := idx_tx 0 t
      have hcut := cut_tx 0 t (by omega)
      have hm0 : (0 : Int) ≤ (m : Int) := by omega
      have hm1 : (m : Int) < (n : Int) := by omega
      have HNX : Hid (tblA tl qs (m + 1 - a) = tput (tblA tl qs (m - a)) t) := (by show _ = _; rw [show m + 1 - a = (m - a) + 1 by omega]; exact tblA_succ ht)
      have HTBL : Hid ((tblA tl qs (m - a)).length ≤ 1000000) := (by have := tblA_len tl qs (m - a); show _ ≤ _; omega)
      have HM : Hid (m < n ∧ a ≤ m) := ⟨hlt, ham⟩
      have HPUT := Lib.hid (fun (W : World) (hW : Below wr.heap.size wr W) => iput_any B0 v (tblA tl qs (m - a)) t HTBL.out W (Nat.le_trans hB0 (Nat.le_trans HB2L.out.size (Nat.le_trans hb.size hW.size))) (own_below hown hW))
      obtain ⟨sx, hsx⟩ : ∃ sx, sx = tx (0 :: t) := ⟨_, rfl⟩
      rw [← hsx] at hcell hx1 hx2 hidx hcut
      clear ht hpt hu hown hb hlt ham hmn hsx
      go_wp2_with fail
      refine (HPUT.out _ (Below.refl _ _)).mono ?_
      rintro e x1 ⟨v', rfl, ho1, _, hb1⟩
      have HO1 := Lib.hid ho1
      have HB1 := Lib.hid (HB.out.trans (hb1.mono HB.out.size))
      clear ho1 hb1
      go_wp2
      exact ⟨⟨m + 1, v', by have := HM.out; omega, by have := HM.out; omega, rfl, rfl, by rw [HNX.out]; exact HO1.out, HB1.out⟩, by show n - (m + 1) < n - m; have := HM.out; omega⟩
    · obtain rfl : m = n := by omega
      have x8 := (hb.block w.heap.size (by rw [HZ2.out]; omega)).trans HX8.out
      have x12 := (hb.block (w.heap.size + 1) (by rw [HZ2.out]; omega)).trans HX12.out
      have HX8R := Lib.hid x8
      have q0 := at_cell (i := 0) x8 rfl
      have y0 := at_frozen (i := 0) x8
      have n0 := at_cell (i := 0) x12 rfl
      have q1 := at_cell (i := 1) x8 rfl
      have y1 := at_frozen (i := 1) x8
      have n1 := at_cell (i := 1) x12 rfl
      have q2 := at_cell (i := 2) x8 rfl
      have y2 := at_frozen (i := 2) x8
      have n2 := at_cell (i := 2) x12 rfl
      have q3 := at_cell (i := 3) x8 rfl
      have y3 := at_frozen (i := 3) x8
      have n3 := at_cell (i := 3) x12 rfl
      have q4 := at_cell (i := 4) x8 rfl
      have y4 := at_frozen (i := 4) x8
      have n4 := at_cell (i := 4) x12 rfl
      have q5 := at_cell (i := 5) x8 rfl
      have y5 := at_frozen (i := 5) x8
      have n5 := at_cell (i := 5) x12 rfl
      have q6 := at_cell (i := 6) x8 rfl
      have y6 := at_frozen (i := 6) x8
      have n6 := at_cell (i := 6) x12 rfl
      clear x8 x12 hown hb
      go_wp2
      refine bodyPost_ret (results_cell_three rfl _ _ w.heap.size _ _ (0, 0) _ rfl (set_same (set_same (set_same (set_same (set_same (set_same (set_same HX8R.out 0 (.int .i64 0)) 1 (.string ⟨#[]⟩)) 2 (.int .u64 0)) 3 (.slice none 0 0)) 4 (.int .u64 0)) 5 (.int .u64 0)) 6 (.string ⟨#[]⟩)) Try.underlying26 rfl (by kernel_rfl)) rfl ?_
      exact ⟨rfl, ((((((((HB2L.out.trans (HB.out.mono HB2L.out.size)).setCell (p := ⟨w.heap.size, 0, none⟩) (Nat.le_refl _) _).setCell (p := ⟨w.heap.size, 1, none⟩) (Nat.le_refl _) _).setCell (p := ⟨w.heap.size, 2, none⟩) (Nat.le_refl _) _).setCell (p := ⟨w.heap.size, 3, none⟩) (Nat.le_refl _) _).setCell (p := ⟨w.heap.size, 4, none⟩) (Nat.le_refl _) _).setCell (p := ⟨w.heap.size, 5, none⟩) (Nat.le_refl _) _).setCell (p := ⟨w.heap.size, 6, none⟩) (Nat.le_refl _) _)⟩

end Go.Proofs.Ytidkahmjjknkmaa
