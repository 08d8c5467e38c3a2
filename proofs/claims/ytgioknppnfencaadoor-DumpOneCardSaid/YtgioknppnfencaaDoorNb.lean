/- A record that came in, its numbers of 64 bits (for a seat without schema). -/
import Derived.Deep.Slices
import Derived.Test.YtgioknppnfencaaDoorRs
namespace Go.Proofs.YtgioknppnfencaaDoor
open Go.ChangeShapes Go.WideShapes Go.ChangeAt Go.RowKit Go.Deep

def Nums (r : Rc) (l : List Dp) : Prop := (0 ≤ r.rule ∧ r.rule < 18446744073709551616) ∧ (0 ≤ r.out ∧ r.out < 18446744073709551616) ∧ (0 ≤ r.time ∧ r.time < 18446744073709551616) ∧ ∀ d ∈ l, 0 ≤ d.hash ∧ d.hash < 18446744073709551616

theorem wf64 {z : Int} (h : (Lit.int .u64 z).wf = true) : 0 ≤ z ∧ z < 18446744073709551616 := by
  have hx : 0 ≤ z ∧ z ≤ 18446744073709551615 := by simpa [Lit.wf, IntKind.min, IntKind.max, IntKind.signed, IntKind.bits] using h
  omega

set_option maxRecDepth 100000 in
theorem deps_nums {H : Type} {enc : TypeId × Value → H} {W : World} {fuel : Nat} {A : Option Addr} {n c : Nat} {l : List Dp} {x : DataW H × List MemPlace} (hf : DataW.trod enc Tryd.prog W 0 (fun _ => true) true fuel 33 [.slice A n c] = some x) (hr : Reads W W.heap.size 3 A n (dps l)) : ∀ d ∈ l, 0 ≤ d.hash ∧ d.hash < 18446744073709551616 := by
  have hln : l.length = n := by have := hr.1; rw [dps_len] at this; omega
  rcases Go.Deep.open_slice Tryd.underlying33 hf with ⟨hcs, _⟩ | ⟨ad, n', c', m, k, D, Pl, hcs, _, hl, hmx, hm, _, hi⟩
  · have h1 : n = 0 := by injection hcs with h1; injection h1
    intro d hd
    have : l = [] := List.eq_nil_of_length_eq_zero (by omega)
    rw [this] at hd
    cases hd
  · obtain ⟨rfl, rfl, rfl⟩ : A = some ad ∧ n = n' ∧ c = c' := by
      injection hcs with h1 _
      injection h1 with h2 h3 h4
      exact ⟨h2, h3, h4⟩
    intro d hd
    obtain ⟨i, hlt, hid⟩ := List.mem_iff_getElem.1 hd
    have hid' : l[i]? = some d := by rw [List.getElem?_eq_getElem hlt, hid]
    obtain ⟨_, g, _⟩ := dps_at l i d hid'
    obtain ⟨ad', hae, _, hc⟩ := hr.2 (by omega)
    obtain rfl : ad = ad' := Option.some.inj hae
    have hcell := hc _ _ g
    have hnm : n ≤ m := by rw [hm]; simp; exact hl
    obtain ⟨cs, hcs2, htr⟩ := hi i (by omega)
    rw [c_dep] at hcs2
    obtain ⟨_, _, hat⟩ := World.cells?_some hcs2
    obtain ⟨y0, y1, y2, nn, _, _, g0, g1, g2⟩ := trod_struct3 Tryd.underlying56 htr
    rw [c_str] at g0
    rw [c_u64] at g1
    rw [c_bool] at g2
    obtain ⟨z1, e1, _, w1⟩ := DataW.trod_int Tryd.underlying32 g1
    have h := hat 1 (by omega)
    rw [add_of_add, r_one_at e1] at h
    have h2 : some (Value.int .u64 z1) = some (Value.int .u64 d.hash) := h.symm.trans hcell
    injection h2 with h3
    injection h3 with _ h4
    rw [← h4]
    exact wf64 w1

set_option maxRecDepth 100000 in
theorem rcells_nums {H : Type} {enc : TypeId × Value → H} {W : World} {fuel : Nat} {r : Rc} {A : Option Addr} {n c : Nat} {l : List Dp} {x : DataW H × List MemPlace} (hf : DataW.trod enc Tryd.prog W 0 (fun _ => true) true fuel 35 (rcells r A n c).toList = some x) (hr : Reads W W.heap.size 3 A n (dps l)) : Nums r l := by
  obtain ⟨y0, y1, y2, y3, y4, y5, y6, n', hl, g0, g1, g2, g3, g4, g5, g6⟩ := trod_struct7 Tryd.underlying35 hf
  rw [c_int] at g0
  rw [c_str] at g1
  rw [c_u64] at g2
  rw [c_deps] at g3
  rw [c_u64] at g4
  rw [c_u64] at g5
  obtain ⟨z2, e2, _, w2⟩ := DataW.trod_int Tryd.underlying32 g2
  obtain ⟨z4, e4, _, w4⟩ := DataW.trod_int Tryd.underlying32 g4
  obtain ⟨z5, e5, _, w5⟩ := DataW.trod_int Tryd.underlying32 g5
  have f2 : Value.int .u64 r.rule = .int .u64 z2 := Option.some.inj (r_one_at e2)
  have f4 : Value.int .u64 r.out = .int .u64 z4 := Option.some.inj (r_one_at e4)
  have f5 : Value.int .u64 r.time = .int .u64 z5 := Option.some.inj (r_one_at e5)
  injection f2 with _ f2
  injection f4 with _ f4
  injection f5 with _ f5
  refine ⟨by rw [f2]; exact wf64 w2, by rw [f4]; exact wf64 w4, by rw [f5]; exact wf64 w5, deps_nums (A := A) (n := n) (c := c) g3 hr⟩

set_option maxRecDepth 100000 in
theorem open_recordN {H : Type} {enc : TypeId × Value → H} {W : World} {v : Value} {d : DataW H} {ps : List MemPlace} {r0 : Reach} {b0 : Nat} (hval : Value.okWide Tryd.prog W r0 b0 35 v) (hd : DataW.Trod enc Tryd.prog W 0 (fun _ => true) true 35 v d ps) :
    ∃ (r : Rc) (A : Option Addr) (n c : Nat) (l : List Dp), v = rcv r A n c ∧ n ≤ maxLen ∧ (A = none → c = 0) ∧ Fits r l ∧ Nums r l ∧ Reads W W.heap.size 3 A n (dps l) := by
  obtain ⟨cs, rfl, _⟩ := okWide_struct Tryd.underlying35 hval
  obtain ⟨fuel, hf⟩ := hd
  obtain ⟨r, A, n, c, l, h1, h2, h3, h4, h5⟩ := open_rcells hf
  have e : cs = rcells r A n c := by
    apply Array.ext'
    simpa [Value.cells] using h1
  subst e
  exact ⟨r, A, n, c, l, rfl, h2, h3, h4, rcells_nums hf h5, h5⟩

end Go.Proofs.YtgioknppnfencaaDoor
