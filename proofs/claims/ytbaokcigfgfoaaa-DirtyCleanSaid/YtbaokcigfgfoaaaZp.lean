/- The way down: a node whose rule is a number of 64 bits; three rows of numbers. -/
import Derived.Test.YtbaokcigfgfoaaaZk
import Derived.Test.YtbaokcigfgfoaaaZm
namespace Go.Proofs.Ytbaokcigfgfoaaa
open Go.ChangeShapes Go.WideShapes Go.ChangeAt Go.RowKit Go.Deep

set_option maxRecDepth 100000 in
theorem open_ncellsu {H : Type} {enc : TypeId × Value → H} {W : World} {fuel : Nat} {cs : List Value} {x : DataW H × List MemPlace} (hf : DataW.trod enc Try.prog W 0 (fun _ => true) true fuel 25 cs = some x) :
    ∃ x : Nw, cs = x.cells ∧ NGood W x ∧ 0 ≤ x.d.rule ∧ x.d.rule < 18446744073709551616 := by
  obtain ⟨y0, y1, y2, y3, n', hl, g0, g1, g2, g3⟩ := trod_struct4 Try.underlying25 hf
  rw [n_node] at hl
  rw [n_str] at g0
  rw [n_bool] at g1
  rw [n_u64] at g2
  rw [n_strs] at g3
  obtain ⟨z0, e0, _, w0⟩ := DataW.trod_string Try.underlying9 g0
  obtain ⟨z1, e1, _⟩ := DataW.trod_bool Try.underlying4 g1
  obtain ⟨z2, e2, _, w2⟩ := DataW.trod_int Try.underlying22 g2
  obtain ⟨A, n, c, ts, e3, hn, hc, hA, hr, hd⟩ := open_ntexts g3
  obtain ⟨zn, rfl, hzn⟩ := nat_u64 w2
  refine ⟨⟨⟨z0.data.toList, z1, (zn : Int), ts⟩, A, n, c⟩, ?_, ⟨⟨by rw [Array.length_toList]; exact w0, hd⟩, hn, hc, hA, hr⟩, by show (0 : Int) ≤ (zn : Int); omega, by show (zn : Int) < 18446744073709551616; unfold top at hzn; omega⟩
  match cs, hl with
  | [c0, c1, c2, c3], _ =>
    have f0 := n_one_at e0
    have f1 := n_one_at e1
    have f2 := n_one_at e2
    have f3 := n_one_at e3
    simp at f0 f1 f2 f3
    subst f0 f1 f2 f3
    unfold Nw.cells
    simp only [n_tx_back]
set_option maxRecDepth 100000 in
theorem open_nodeu {H : Type} {enc : TypeId × Value → H} {W : World} {v : Value} {d : DataW H} {ps : List MemPlace} {r0 : Reach} {b0 : Nat} (hval : Value.okWide Try.prog W r0 b0 25 v) (hd : DataW.Trod enc Try.prog W 0 (fun _ => true) true 25 v d ps) :
    ∃ x : Nw, v = x.val ∧ NGood W x ∧ 0 ≤ x.d.rule ∧ x.d.rule < 18446744073709551616 := by
  obtain ⟨cs, rfl, _⟩ := okWide_struct Try.underlying25 hval
  obtain ⟨fuel, hf⟩ := hd
  obtain ⟨x, h1, h2⟩ := open_ncellsu hf
  refine ⟨x, ?_, h2⟩
  have : cs = x.cells.toArray := by
    apply Array.ext'
    simpa [Value.cells] using h1
  rw [this]
  rfl
set_option maxRecDepth 100000 in
theorem c_arr3 : Try.prog.cellsOf 46 = 3 := by kernel_rfl
theorem c_row : Try.prog.cellsOf 27 = 1 := by kernel_rfl
set_option maxRecDepth 100000 in
theorem open_rows3 {H : Type} {enc : TypeId × Value → H} {W : World} {v : Value} {d : DataW H} {ps : List MemPlace} {r0 : Reach} {b0 : Nat} (hval : Value.okWide Try.prog W r0 b0 46 v) (hd : DataW.Trod enc Try.prog W 0 (fun _ => true) true 46 v d ps) :
    ∃ (H0 : Option Addr) (m0 d0 : Nat) (q0 : List Q64) (H1 : Option Addr) (m1 d1 : Nat) (q1 : List Q64) (H2 : Option Addr) (m2 d2 : Nat), v = .agg #[.slice H0 m0 d0, .slice H1 m1 d1, .slice H2 m2 d2] ∧ m0 ≤ maxLen ∧ m1 ≤ maxLen ∧ Reads W W.heap.size 1 H0 m0 (q0.map qv) ∧ Reads W W.heap.size 1 H1 m1 (q1.map qv) := by
  obtain ⟨cs, rfl, hsz, _⟩ : ∃ cs, v = .agg cs ∧ cs.size = Try.prog.cellsOf 46 ∧ Row.okWide Try.prog W r0 b0 46 cs := by
    simpa [Value.okWide, Try.underlying46] using hval
  rw [c_arr3] at hsz
  obtain ⟨l⟩ := cs
  match l, hsz with
  | [k0, k1, k2], _ =>
    obtain ⟨fuel, hf⟩ := hd
    obtain ⟨y0, y1, y2, m, _, g0, g1, g2⟩ := trod_array3 Try.underlying46 c_row hf
    obtain ⟨H0, m0, d0, q0, e0, hn0, hc0, _, hr0⟩ := open_kqs g0
    obtain ⟨H1, m1, d1, q1, e1, hn1, hc1, _, hr1⟩ := open_kqs g1
    obtain ⟨H2, m2, d2, q2, e2, hn2, hc2, _, hr2⟩ := open_kqs g2
    simp at e0 e1 e2
    subst e0 e1 e2
    exact ⟨H0, m0, d0, q0, H1, m1, d1, q1, H2, m2, d2, rfl, by omega, by omega, hr0, hr1⟩

end Go.Proofs.Ytbaokcigfgfoaaa
