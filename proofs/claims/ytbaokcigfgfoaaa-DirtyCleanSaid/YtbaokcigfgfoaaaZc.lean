/- dirty.questions, dirty.Why. -/
import Derived.Laws.EntriesVeiled
import Derived.Test.YtbaokcigfgfoaaaZb
import Derived.Test.YtbaokcigfgfoaaaGq0
namespace Go.Proofs.Ytbaokcigfgfoaaa
open Go.RowKit

def askV : Array Value := #[.func (.func 28) #[] #[], .func (.func 29) #[] #[], .func (.func 30) #[] #[], .func (.func 31) #[] #[]]

set_option maxRecDepth 100000 in
set_option maxHeartbeats 1000000 in
theorem questions_any (w : World) : Calls Try.prog 20 #[] w fun e w' => e = .returned (.agg askV) ∧ Below w.heap.size w w' := by
  have h0 := one_new w (.cells #[.nilFunc, .nilFunc, .nilFunc, .nilFunc] 57)
  have f0 := at_cell (i := 0) h0 rfl
  have f1 := at_cell (i := 1) h0 rfl
  have f2 := at_cell (i := 2) h0 rfl
  have f3 := at_cell (i := 3) h0 rfl
  have z0 := at_frozen (i := 0) h0
  have z1 := at_frozen (i := 1) h0
  have z2 := at_frozen (i := 2) h0
  have z3 := at_frozen (i := 3) h0
  clear h0
  have H1 := Lib.hid (one_new w (.cells askV 57))
  have HB1 := Lib.hid ((Below.refl w.heap.size w).alloc (Nat.le_refl _) (.cells askV 57))
  go_enter Try.func20, Try.ntmps20
  go_wp2
  refine bodyPost_ret (results_cell_row rfl _ _ _ _ _ _ _ rfl H1.out Try.underlying57 rfl (by kernel_rfl)) rfl ?_
  exact ⟨rfl, HB1.out⟩

theorem index_0 (W : World) : (Instr.index 57 (.agg askV) (.int .i64 0)).run Try.prog W = .ok (.agg #[.func (.func 28) #[] #[]]) W := by kernel_rfl
theorem index_1 (W : World) : (Instr.index 57 (.agg askV) (.int .i64 1)).run Try.prog W = .ok (.agg #[.func (.func 29) #[] #[]]) W := by kernel_rfl
theorem index_2 (W : World) : (Instr.index 57 (.agg askV) (.int .i64 2)).run Try.prog W = .ok (.agg #[.func (.func 30) #[] #[]]) W := by kernel_rfl
theorem index_3 (W : World) : (Instr.index 57 (.agg askV) (.int .i64 3)).run Try.prog W = .ok (.agg #[.func (.func 31) #[] #[]]) W := by kernel_rfl

/-- Why, by what was found. -/
def WhyB (x : Nd) (b : Bool) (r : Rc) (l : List Dp) (hs : List Int) (z : Int) : Prop :=
  (b = false ∧ z = 1) ∨ (b = true ∧ ((r.rule ≠ x.rule ∧ z = 2) ∨ (r.rule = x.rule ∧ ¬ (l.map Dp.name = x.deps ∧ hs.length = x.deps.length) ∧ z = 3) ∨
    (r.rule = x.rule ∧ (l.map Dp.name = x.deps ∧ hs.length = x.deps.length) ∧ OthH l hs ∧ z = 4) ∨ (r.rule = x.rule ∧ (l.map Dp.name = x.deps ∧ hs.length = x.deps.length) ∧ ¬ OthH l hs ∧ z = 0)))
theorem whyB_one {x : Nd} {b : Bool} {r : Rc} {l : List Dp} {hs : List Int} {z y : Int} (h : WhyB x b r l hs z) (h2 : WhyB x b r l hs y) : z = y := by
  rcases h with ⟨a1, rfl⟩ | ⟨a1, ⟨a2, rfl⟩ | ⟨a2, a3, rfl⟩ | ⟨a2, a3, a4, rfl⟩ | ⟨a2, a3, a4, rfl⟩⟩ <;> rcases h2 with ⟨c1, rfl⟩ | ⟨c1, ⟨c2, rfl⟩ | ⟨c2, c3, rfl⟩ | ⟨c2, c3, c4, rfl⟩ | ⟨c2, c3, c4, rfl⟩⟩ <;> first | rfl | (simp_all; done)
/-- Why a node that is no source is to be run. -/
def WhyF (x : Nd) (xs : List Rw) (hs : List Int) (z : Int) : Prop := ∃ (r : Rc) (l : List Dp) (b : Bool), FAns xs x.name r l b ∧ WhyB x b r l hs z
theorem whyF_one {x : Nd} {xs : List Rw} {hs : List Int} {z y : Int} (h : WhyF x xs hs z) (h2 : WhyF x xs hs y) : z = y := by
  obtain ⟨r, l, b, h1, h3⟩ := h
  obtain ⟨r2, l2, b2, h4, h5⟩ := h2
  obtain ⟨⟨rfl, rfl⟩, rfl⟩ := fans_one h1 h4
  exact whyB_one h3 h5
def WhyN (x : Nd) (xs : List Rw) (hs : List Int) (z : Int) : Prop := (x.src = true ∧ z = 0) ∨ (x.src = false ∧ WhyF x xs hs z)
theorem whyN_one {x : Nd} {xs : List Rw} {hs : List Int} {z y : Int} (h : WhyN x xs hs z) (h2 : WhyN x xs hs y) : z = y := by
  rcases h with ⟨a, rfl⟩ | ⟨a, b⟩ <;> rcases h2 with ⟨c, rfl⟩ | ⟨c, d⟩
  · rfl
  · rw [a] at c; cases c
  · rw [a] at c; cases c
  · exact whyF_one b d

set_option maxRecDepth 100000 in
set_option maxHeartbeats 4000000 in
theorem why_any (x : Nw) (B : Option Addr) (q c0 : Nat) (xs : List Rw) (H : Option Addr) (m d : Nat) (hs : List Int) (hq : q ≤ 100000) (hxn : x.n ≤ 1000000) (hf : ∀ y ∈ xs, y.n ≤ 1000000) (w : World) (hx : NIn w w.heap.size x) (hr : Recs w w.heap.size B q xs) (hh : Reads w w.heap.size 1 H m (hs.map (Value.int .u64))) :
    Calls Try.prog 9 #[x.val, .slice B q c0, .slice H m d] w fun e w' => ∃ z : Int, WhyN x.d xs hs z ∧ e = .returned (.int .i64 z) ∧ Below w.heap.size w w' := by
  have HHL : Hid (hs.length = m) := by have := hh.1; simp at this; exact this
  have HXL : Hid (x.d.deps.length = x.n) := hx.len
  have HNX : Hid (x.n ≤ 1000000) := hxn
  have HX0 : Hid (∀ W, Below w.heap.size w W → Reads W W.heap.size 1 x.A x.n (x.d.deps.map tsv)) := fun W hb => Reads.more (Reads.below hx hb) hb.size
  have HH0 : Hid (∀ W, Below w.heap.size w W → Reads W W.heap.size 1 H m (hs.map (Value.int .u64))) := fun W hb => (hh.below hb).more hb.size
  have HF : Hid (∀ (u : List UInt8) (W : World), Below w.heap.size w W → Calls Try.prog 19 #[.slice B q c0, rsv u] W fun e w' => FUni xs u W e w') := fun u W hb =>
    (find_any B q c0 xs u hq hf W ((hr.below hb).more hb.size)).mono fun e w' h => h.uni hf
  unfold rsv at HF
  obtain ⟨⟨nm, sc, ru, ds⟩, xA, xn, xc⟩ := x
  unfold Nw.val
  simp only at *
  have h0 := one_new w (.cells #[.string (tx nm), .bool sc, .int .u64 ru, .slice xA xn xc] 25)
  have HB0 := Lib.hid ((Below.refl w.heap.size w).alloc (Nat.le_refl _) (.cells #[.string (tx nm), .bool sc, .int .u64 ru, .slice xA xn xc] 25))
  have q0 := at_cell (i := 0) h0 rfl
  have q1 := at_cell (i := 1) h0 rfl
  have q2 := at_cell (i := 2) h0 rfl
  have q3 := at_cell (i := 3) h0 rfl
  have H0 := Lib.hid h0
  have HS0 : Hid (w.heap.size < (w.alloc (.cells #[.string (tx nm), .bool sc, .int .u64 ru, .slice xA xn xc] 25)).heap.size) := by show w.heap.size < _; simp
  clear hx hr hh hf h0 hxn
  cases sc with
  | true =>
    go_enter Try.func9, Try.ntmps9
    go_wp2
    go_ret
    exact ⟨0, .inl ⟨rfl, rfl⟩, rfl, HB0.out⟩
  | false =>
    suffices HMAIN : Calls Try.prog 9 #[.agg #[.string (tx nm), .bool false, .int .u64 ru, .slice xA xn xc], .slice B q c0, .slice H m d] w fun e w' => ∃ z : Int, WhyF ⟨nm, false, ru, ds⟩ xs hs z ∧ e = .returned (.int .i64 z) ∧ Below w.heap.size w w' from
      HMAIN.mono fun e w' ⟨z, h1, h2, h3⟩ => ⟨z, .inr ⟨rfl, h1⟩, h2, h3⟩
    go_enter Try.func9, Try.ntmps9
    go_wp2_with fail
    refine (HF.out nm _ HB0.out).mono ?_
    rintro e w1 ⟨rr, A, n, c, l, b, han, rfl, hn, hrd, hb1⟩
    have HAN := Lib.hid han
    have HNN := Lib.hid hn
    have HLL : Hid (l.length = n) := by have := hrd.1; rw [dps_len] at this; show _ = _; omega
    obtain ⟨k, t, u, o, tm, g⟩ := rr
    unfold rcv rsv
    have hN1 := (hb1.block w.heap.size HS0.out).trans H0.out
    have HB1 := Lib.hid (HB0.out.trans (hb1.mono HB0.out.size))
    have hR2 := one_new w1 (.cells #[.int .i64 k, .string (tx t), .int .u64 u, .slice A n c, .int .u64 o, .int .u64 tm, .string (tx g)] 36)
    have hN2 := (Below.heap_alloc w1 (.cells #[.int .i64 k, .string (tx t), .int .u64 u, .slice A n c, .int .u64 o, .int .u64 tm, .string (tx g)] 36) w.heap.size (Nat.lt_of_lt_of_le HS0.out hb1.size)).trans hN1
    have HB2 := Lib.hid (HB1.out.alloc HB1.out.size (.cells #[.int .i64 k, .string (tx t), .int .u64 u, .slice A n c, .int .u64 o, .int .u64 tm, .string (tx g)] 36))
    have HD2 := Lib.hid ((hrd.alloc (Nat.le_refl _) (.cells #[.int .i64 k, .string (tx t), .int .u64 u, .slice A n c, .int .u64 o, .int .u64 tm, .string (tx g)] 36)).more (show w1.heap.size ≤ (w1.alloc (.cells #[.int .i64 k, .string (tx t), .int .u64 u, .slice A n c, .int .u64 o, .int .u64 tm, .string (tx g)] 36)).heap.size by simp))
    have n0 := at_cell (i := 0) hN2 rfl
    have n1 := at_cell (i := 1) hN2 rfl
    have n2 := at_cell (i := 2) hN2 rfl
    have n3 := at_cell (i := 3) hN2 rfl
    have s0 := at_cell (i := 0) hR2 rfl
    have s1 := at_cell (i := 1) hR2 rfl
    have s2 := at_cell (i := 2) hR2 rfl
    have s3 := at_cell (i := 3) hR2 rfl
    have s4 := at_cell (i := 4) hR2 rfl
    have s5 := at_cell (i := 5) hR2 rfl
    have s6 := at_cell (i := 6) hR2 rfl
    have HA := Lib.hid (one_new (w1.alloc (.cells #[.int .i64 k, .string (tx t), .int .u64 u, .slice A n c, .int .u64 o, .int .u64 tm, .string (tx g)] 36)) (.cells #[.string (tx nm), .bool false, .int .u64 ru, .slice xA xn xc, .int .i64 k, .string (tx t), .int .u64 u, .slice A n c, .int .u64 o, .int .u64 tm, .string (tx g), .bool b, .slice H m d] 53))
    have HB3 := Lib.hid (HB2.out.alloc HB2.out.size (.cells #[.string (tx nm), .bool false, .int .u64 ru, .slice xA xn xc, .int .i64 k, .string (tx t), .int .u64 u, .slice A n c, .int .u64 o, .int .u64 tm, .string (tx g), .bool b, .slice H m d] 53))
    have HD3 := Lib.hid ((HD2.out.alloc (Nat.le_refl _) (.cells #[.string (tx nm), .bool false, .int .u64 ru, .slice xA xn xc, .int .i64 k, .string (tx t), .int .u64 u, .slice A n c, .int .u64 o, .int .u64 tm, .string (tx g), .bool b, .slice H m d] 53)).more (show (w1.alloc (.cells #[.int .i64 k, .string (tx t), .int .u64 u, .slice A n c, .int .u64 o, .int .u64 tm, .string (tx g)] 36)).heap.size ≤ ((w1.alloc (.cells #[.int .i64 k, .string (tx t), .int .u64 u, .slice A n c, .int .u64 o, .int .u64 tm, .string (tx g)] 36)).alloc (.cells #[.string (tx nm), .bool false, .int .u64 ru, .slice xA xn xc, .int .i64 k, .string (tx t), .int .u64 u, .slice A n c, .int .u64 o, .int .u64 tm, .string (tx g), .bool b, .slice H m d] 53)).heap.size by simp))
    have hd3 : ((w1.alloc (.cells #[.int .i64 k, .string (tx t), .int .u64 u, .slice A n c, .int .u64 o, .int .u64 tm, .string (tx g)] 36)).alloc (.cells #[.string (tx nm), .bool false, .int .u64 ru, .slice xA xn xc, .int .i64 k, .string (tx t), .int .u64 u, .slice A n c, .int .u64 o, .int .u64 tm, .string (tx g), .bool b, .slice H m d] 53)).heap.size = (w1.alloc (.cells #[.int .i64 k, .string (tx t), .int .u64 u, .slice A n c, .int .u64 o, .int .u64 tm, .string (tx g)] 36)).heap.size + 1 := by simp
    have hwz : (w1.alloc (.cells #[.int .i64 k, .string (tx t), .int .u64 u, .slice A n c, .int .u64 o, .int .u64 tm, .string (tx g)] 36)).heap.size = w1.heap.size + 1 := by simp
    have HWZ := Lib.hid hwz
    clear hwz han hn hrd hN1 hR2 hN2 hb1 q0 q1 q2 q3
    go_wp2_with fail
    generalize hwa : w1.alloc (.cells #[.int .i64 k, .string (tx t), .int .u64 u, .slice A n c, .int .u64 o, .int .u64 tm, .string (tx g)] 36) = wa at *
    have HS3 : Hid (wa.heap.size < (wa.alloc (.cells #[.string (tx nm), .bool false, .int .u64 ru, .slice xA xn xc, .int .i64 k, .string (tx t), .int .u64 u, .slice A n c, .int .u64 o, .int .u64 tm, .string (tx g), .bool b, .slice H m d] 53)).heap.size) := by show wa.heap.size < _; simp
    refine (questions_any _).mono ?_
    rintro e w4 ⟨rfl, hb4⟩
    have HA4 : Hid (w4.heap[w1.heap.size + 1]? = some (.cells #[.string (tx nm), .bool false, .int .u64 ru, .slice xA xn xc, .int .i64 k, .string (tx t), .int .u64 u, .slice A n c, .int .u64 o, .int .u64 tm, .string (tx g), .bool b, .slice H m d] 53 (0, 0))) := (by rw [← HWZ.out]; exact (hb4.block wa.heap.size HS3.out).trans HA.out)
    have HB4 := Lib.hid (HB3.out.trans (hb4.mono HB3.out.size))
    have HDD := Lib.hid ((HD3.out.below hb4).more hb4.size)
    have HXX := Lib.hid (HX0.out _ HB4.out)
    have HHH := Lib.hid (HH0.out _ HB4.out)
    clear hb4 hd3 hwa HD2 n0 n1 n2 n3 s0 s1 s2 s3 s4 s5 s6
    have HI0 := Lib.hid index_0
    have HI1 := Lib.hid index_1
    have HI2 := Lib.hid index_2
    have HI3 := Lib.hid index_3
    unfold askV at HI0 HI1 HI2 HI3 ⊢
    go_wp2
    go_loopw [27] (fun idx wr => ∃ i : Nat, i ≤ 4 ∧ idx = .int .i64 (i : Int) ∧ (1 ≤ i → b = true) ∧ (2 ≤ i → u = ru) ∧ (3 ≤ i → l.map Dp.name = ds ∧ m = xn) ∧ (4 ≤ i → ¬ OthH l hs) ∧ wr.heap[w1.heap.size + 1]? = some (.cells #[.string (tx nm), .bool false, .int .u64 ru, .slice xA xn xc, .int .i64 k, .string (tx t), .int .u64 u, .slice A n c, .int .u64 o, .int .u64 tm, .string (tx g), .bool b, .slice H m d] 53 (0, 0)) ∧ Below w4.heap.size w4 wr) (fun idx _ => 4 - (intOf idx).toNat)
    case atStart => exact ⟨0, by omega, rfl, fun h => absurd h (by omega), fun h => absurd h (by omega), fun h => absurd h (by omega), fun h => absurd h (by omega), HA4.out, Below.refl _ _⟩
    case round =>
      obtain ⟨i, hi, rfl, h1, h2, h3, h4, hbx, hb⟩ := hrel
      obtain rfl | rfl | rfl | rfl | rfl : i = 0 ∨ i = 1 ∨ i = 2 ∨ i = 3 ∨ i = 4 := by omega
      · have hz := (Array.getElem?_eq_some_iff.1 hbx).1
        have p0 := at_cell (i := 0) (one_new wr (.cells #[.func (.func 28) #[] #[]] 56)) rfl
        have hbn := (Below.heap_alloc wr (.cells #[.func (.func 28) #[] #[]] 56) (w1.heap.size + 1) hz).trans hbx
        have HBXN := Lib.hid hbn
        have HBN := Lib.hid (hb.alloc hb.size (.cells #[.func (.func 28) #[] #[]] 56))
        have y0 := at_cell (i := 0) hbn rfl
        have y1 := at_cell (i := 1) hbn rfl
        have y2 := at_cell (i := 2) hbn rfl
        have y3 := at_cell (i := 3) hbn rfl
        have y4 := at_cell (i := 4) hbn rfl
        have y5 := at_cell (i := 5) hbn rfl
        have y6 := at_cell (i := 6) hbn rfl
        have y7 := at_cell (i := 7) hbn rfl
        have y8 := at_cell (i := 8) hbn rfl
        have y9 := at_cell (i := 9) hbn rfl
        have y10 := at_cell (i := 10) hbn rfl
        have y11 := at_cell (i := 11) hbn rfl
        have y12 := at_cell (i := 12) hbn rfl
        have HK1 := Lib.hid h1
        have HK2 := Lib.hid h2
        have HK3 := Lib.hid h3
        clear hbn hz hb hbx h1 h2 h3 h4
        have HSN : Hid (w1.heap.size + 1 < (wr.alloc (.cells #[.func (.func 28) #[] #[]] 56)).heap.size) := (by have := (Array.getElem?_eq_some_iff.1 HBXN.out).1; exact this)
        have hix := HI0.out
        cases b with
        | true =>
          go_wp2_with fail
          refine (q1_any ⟨⟨nm, false, ru, ds⟩, xA, xn, xc⟩ ⟨k, t, u, o, tm, g⟩ A n c _ H m d _).mono ?_
          rintro e wq ⟨rfl, hbq⟩
          have HBQ := Lib.hid hbq
          clear hbq
          go_wp2
          exact ⟨⟨1, by omega, by go_num, fun _ => by first | rfl | trivial, fun h => absurd h (by omega), fun h => absurd h (by omega), fun h => absurd h (by omega), (HBQ.out.block (w1.heap.size + 1) HSN.out).trans HBXN.out, HBN.out.trans (HBQ.out.mono HBN.out.size)⟩, by simp [intOf]⟩
        | false =>
          go_wp2_with fail
          refine (q1_any ⟨⟨nm, false, ru, ds⟩, xA, xn, xc⟩ ⟨k, t, u, o, tm, g⟩ A n c _ H m d _).mono ?_
          rintro e wq ⟨rfl, hbq⟩
          have HBQ := Lib.hid hbq
          clear hbq
          go_wp2
          go_ret
          exact ⟨1, ⟨⟨k, t, u, o, tm, g⟩, l, false, HAN.out, .inl ⟨rfl, rfl⟩⟩, rfl, HB4.out.trans ((HBN.out.trans (HBQ.out.mono HBN.out.size)).mono HB4.out.size)⟩
      · have hz := (Array.getElem?_eq_some_iff.1 hbx).1
        have p0 := at_cell (i := 0) (one_new wr (.cells #[.func (.func 29) #[] #[]] 56)) rfl
        have hbn := (Below.heap_alloc wr (.cells #[.func (.func 29) #[] #[]] 56) (w1.heap.size + 1) hz).trans hbx
        have HBXN := Lib.hid hbn
        have HBN := Lib.hid (hb.alloc hb.size (.cells #[.func (.func 29) #[] #[]] 56))
        have y0 := at_cell (i := 0) hbn rfl
        have y1 := at_cell (i := 1) hbn rfl
        have y2 := at_cell (i := 2) hbn rfl
        have y3 := at_cell (i := 3) hbn rfl
        have y4 := at_cell (i := 4) hbn rfl
        have y5 := at_cell (i := 5) hbn rfl
        have y6 := at_cell (i := 6) hbn rfl
        have y7 := at_cell (i := 7) hbn rfl
        have y8 := at_cell (i := 8) hbn rfl
        have y9 := at_cell (i := 9) hbn rfl
        have y10 := at_cell (i := 10) hbn rfl
        have y11 := at_cell (i := 11) hbn rfl
        have y12 := at_cell (i := 12) hbn rfl
        have HK1 := Lib.hid h1
        have HK2 := Lib.hid h2
        have HK3 := Lib.hid h3
        clear hbn hz hb hbx h1 h2 h3 h4
        have HSN : Hid (w1.heap.size + 1 < (wr.alloc (.cells #[.func (.func 29) #[] #[]] 56)).heap.size) := (by have := (Array.getElem?_eq_some_iff.1 HBXN.out).1; exact this)
        have hix := HI1.out
        obtain rfl := HK1.out (by omega)
        by_cases hq : u = ru
        · have hne : (u != ru) = false := by rw [hq]; simp
          have HQ := Lib.hid hq
          clear hq
          go_wp2_with fail
          refine (q2_any ⟨⟨nm, false, ru, ds⟩, xA, xn, xc⟩ ⟨k, t, u, o, tm, g⟩ A n c _ H m d _).mono ?_
          rintro e wq ⟨rfl, hbq⟩
          have HBQ := Lib.hid hbq
          clear hbq
          go_wp2
          exact ⟨⟨2, by omega, by go_num, fun _ => by first | rfl | trivial, fun _ => HQ.out, fun h => absurd h (by omega), fun h => absurd h (by omega), (HBQ.out.block (w1.heap.size + 1) HSN.out).trans HBXN.out, HBN.out.trans (HBQ.out.mono HBN.out.size)⟩, by simp [intOf]⟩
        · have hne : (u != ru) = true := by rw [bne_iff_ne]; exact hq
          have HQ := Lib.hid hq
          clear hq
          go_wp2_with fail
          refine (q2_any ⟨⟨nm, false, ru, ds⟩, xA, xn, xc⟩ ⟨k, t, u, o, tm, g⟩ A n c _ H m d _).mono ?_
          rintro e wq ⟨rfl, hbq⟩
          have HBQ := Lib.hid hbq
          clear hbq
          go_wp2
          go_ret
          exact ⟨2, ⟨⟨k, t, u, o, tm, g⟩, l, true, HAN.out, .inr ⟨rfl, .inl ⟨HQ.out, rfl⟩⟩⟩, rfl, HB4.out.trans ((HBN.out.trans (HBQ.out.mono HBN.out.size)).mono HB4.out.size)⟩
      · have hz := (Array.getElem?_eq_some_iff.1 hbx).1
        have p0 := at_cell (i := 0) (one_new wr (.cells #[.func (.func 30) #[] #[]] 56)) rfl
        have hbn := (Below.heap_alloc wr (.cells #[.func (.func 30) #[] #[]] 56) (w1.heap.size + 1) hz).trans hbx
        have HBXN := Lib.hid hbn
        have HBN := Lib.hid (hb.alloc hb.size (.cells #[.func (.func 30) #[] #[]] 56))
        have y0 := at_cell (i := 0) hbn rfl
        have y1 := at_cell (i := 1) hbn rfl
        have y2 := at_cell (i := 2) hbn rfl
        have y3 := at_cell (i := 3) hbn rfl
        have y4 := at_cell (i := 4) hbn rfl
        have y5 := at_cell (i := 5) hbn rfl
        have y6 := at_cell (i := 6) hbn rfl
        have y7 := at_cell (i := 7) hbn rfl
        have y8 := at_cell (i := 8) hbn rfl
        have y9 := at_cell (i := 9) hbn rfl
        have y10 := at_cell (i := 10) hbn rfl
        have y11 := at_cell (i := 11) hbn rfl
        have y12 := at_cell (i := 12) hbn rfl
        have HK1 := Lib.hid h1
        have HK2 := Lib.hid h2
        have HK3 := Lib.hid h3
        clear hbn hz hb hbx h1 h2 h3 h4
        have HSN : Hid (w1.heap.size + 1 < (wr.alloc (.cells #[.func (.func 30) #[] #[]] 56)).heap.size) := (by have := (Array.getElem?_eq_some_iff.1 HBXN.out).1; exact this)
        have hix := HI2.out
        obtain rfl := HK1.out (by omega)
        have HU := Lib.hid (HK2.out (by omega))
        by_cases hq : l.map Dp.name = ds ∧ m = xn
        · have HQ := Lib.hid hq
          clear hq
          go_wp2_with fail
          refine (od_any ⟨⟨nm, false, ru, ds⟩, xA, xn, xc⟩ ⟨k, t, u, o, tm, g⟩ A n c l true H m d (by have := HNN.out; omega) (by have := HNX.out; exact this) _ ((HDD.out.below HBN.out).more HBN.out.size) (Reads.more (Reads.below HXX.out HBN.out) HBN.out.size)).mono ?_
          rintro e wq ⟨he, hbq⟩
          obtain rfl := he.no (fun h => h HQ.out)
          have HBQ := Lib.hid hbq
          clear hbq
          go_wp2
          exact ⟨⟨3, by omega, by go_num, fun _ => by first | rfl | trivial, fun _ => HU.out, fun _ => HQ.out, fun h => absurd h (by omega), (HBQ.out.block (w1.heap.size + 1) HSN.out).trans HBXN.out, HBN.out.trans (HBQ.out.mono HBN.out.size)⟩, by simp [intOf]⟩
        · have HQ := Lib.hid hq
          clear hq
          go_wp2_with fail
          refine (od_any ⟨⟨nm, false, ru, ds⟩, xA, xn, xc⟩ ⟨k, t, u, o, tm, g⟩ A n c l true H m d (by have := HNN.out; omega) (by have := HNX.out; exact this) _ ((HDD.out.below HBN.out).more HBN.out.size) (Reads.more (Reads.below HXX.out HBN.out) HBN.out.size)).mono ?_
          rintro e wq ⟨he, hbq⟩
          obtain rfl := he.yes HQ.out
          have HBQ := Lib.hid hbq
          clear hbq
          go_wp2
          go_ret
          exact ⟨3, ⟨⟨k, t, u, o, tm, g⟩, l, true, HAN.out, .inr ⟨rfl, .inr (.inl ⟨HU.out, fun h => HQ.out ⟨h.1, by rw [← HHL.out, h.2]; exact HXL.out⟩, rfl⟩)⟩⟩, rfl, HB4.out.trans ((HBN.out.trans (HBQ.out.mono HBN.out.size)).mono HB4.out.size)⟩
      · have hz := (Array.getElem?_eq_some_iff.1 hbx).1
        have p0 := at_cell (i := 0) (one_new wr (.cells #[.func (.func 31) #[] #[]] 56)) rfl
        have hbn := (Below.heap_alloc wr (.cells #[.func (.func 31) #[] #[]] 56) (w1.heap.size + 1) hz).trans hbx
        have HBXN := Lib.hid hbn
        have HBN := Lib.hid (hb.alloc hb.size (.cells #[.func (.func 31) #[] #[]] 56))
        have y0 := at_cell (i := 0) hbn rfl
        have y1 := at_cell (i := 1) hbn rfl
        have y2 := at_cell (i := 2) hbn rfl
        have y3 := at_cell (i := 3) hbn rfl
        have y4 := at_cell (i := 4) hbn rfl
        have y5 := at_cell (i := 5) hbn rfl
        have y6 := at_cell (i := 6) hbn rfl
        have y7 := at_cell (i := 7) hbn rfl
        have y8 := at_cell (i := 8) hbn rfl
        have y9 := at_cell (i := 9) hbn rfl
        have y10 := at_cell (i := 10) hbn rfl
        have y11 := at_cell (i := 11) hbn rfl
        have y12 := at_cell (i := 12) hbn rfl
        have HK1 := Lib.hid h1
        have HK2 := Lib.hid h2
        have HK3 := Lib.hid (h3 (by omega))
        clear hbn hz hb hbx h1 h2 h3 h4
        have HSN : Hid (w1.heap.size + 1 < (wr.alloc (.cells #[.func (.func 31) #[] #[]] 56)).heap.size) := (by have := (Array.getElem?_eq_some_iff.1 HBXN.out).1; exact this)
        have hix := HI3.out
        obtain rfl := HK1.out (by omega)
        have HU := Lib.hid (HK2.out (by omega))
        have HD3 : Hid (l.map Dp.name = (⟨nm, false, ru, ds⟩ : Nd).deps ∧ hs.length = (⟨nm, false, ru, ds⟩ : Nd).deps.length) := ⟨HK3.out.1, by rw [HHL.out, HK3.out.2]; exact HXL.out.symm⟩
        have HMN : Hid (n ≤ m) := (by have h1 := congrArg List.length HK3.out.1; rw [List.length_map, HLL.out, HXL.out] at h1; have h2 := HK3.out.2; show n ≤ m; omega)
        by_cases hq : OthH l hs
        · have HQ := Lib.hid hq
          clear hq
          go_wp2_with fail
          refine (oh_any ⟨⟨nm, false, ru, ds⟩, xA, xn, xc⟩ ⟨k, t, u, o, tm, g⟩ A n c l true H m d hs (by have := HNN.out; omega) HMN.out _ ((HDD.out.below HBN.out).more HBN.out.size) (Reads.more (Reads.below HXX.out HBN.out) HBN.out.size) ((HHH.out.below HBN.out).more HBN.out.size)).mono ?_
          rintro e wq ⟨he, hbq⟩
          obtain rfl := he.yes HQ.out
          have HBQ := Lib.hid hbq
          clear hbq
          go_wp2
          go_ret
          exact ⟨4, ⟨⟨k, t, u, o, tm, g⟩, l, true, HAN.out, .inr ⟨rfl, .inr (.inr (.inl ⟨HU.out, HD3.out, HQ.out, rfl⟩))⟩⟩, rfl, HB4.out.trans ((HBN.out.trans (HBQ.out.mono HBN.out.size)).mono HB4.out.size)⟩
        · have HQ := Lib.hid hq
          clear hq
          go_wp2_with fail
          refine (oh_any ⟨⟨nm, false, ru, ds⟩, xA, xn, xc⟩ ⟨k, t, u, o, tm, g⟩ A n c l true H m d hs (by have := HNN.out; omega) HMN.out _ ((HDD.out.below HBN.out).more HBN.out.size) (Reads.more (Reads.below HXX.out HBN.out) HBN.out.size) ((HHH.out.below HBN.out).more HBN.out.size)).mono ?_
          rintro e wq ⟨he, hbq⟩
          obtain rfl := he.no HQ.out
          have HBQ := Lib.hid hbq
          clear hbq
          go_wp2
          exact ⟨⟨4, by omega, by go_num, fun _ => by first | rfl | trivial, fun _ => HU.out, fun _ => HK3.out, fun _ => HQ.out, (HBQ.out.block (w1.heap.size + 1) HSN.out).trans HBXN.out, HBN.out.trans (HBQ.out.mono HBN.out.size)⟩, by simp [intOf]⟩
      · have HK1 := Lib.hid (h1 (by omega))
        have HK2 := Lib.hid (h2 (by omega))
        have HK3 := Lib.hid (h3 (by omega))
        have HK4 := Lib.hid (h4 (by omega))
        have HBE := Lib.hid hb
        clear h1 h2 h3 h4 hbx hb
        obtain rfl := HK1.out
        have HD5 : Hid (l.map Dp.name = (⟨nm, false, ru, ds⟩ : Nd).deps ∧ hs.length = (⟨nm, false, ru, ds⟩ : Nd).deps.length) := ⟨HK3.out.1, by rw [HHL.out, HK3.out.2]; exact HXL.out.symm⟩
        go_wp2
        go_ret
        exact ⟨0, ⟨⟨k, t, u, o, tm, g⟩, l, true, HAN.out, .inr ⟨rfl, .inr (.inr (.inr ⟨HK2.out, HD5.out, HK4.out, rfl⟩))⟩⟩, rfl, HB4.out.trans (HBE.out.mono HB4.out.size)⟩

end Go.Proofs.Ytbaokcigfgfoaaa
