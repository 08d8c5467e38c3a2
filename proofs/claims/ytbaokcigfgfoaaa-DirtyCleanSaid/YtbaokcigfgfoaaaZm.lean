/- The way down: two numbers. -/
import Derived.Test.YtbaokcigfgfoaaaZk
namespace Go.Proofs.Ytbaokcigfgfoaaa
open Go.ChangeShapes Go.WideShapes Go.ChangeAt Go.RowKit Go.Deep

set_option maxRecDepth 100000 in
theorem c_arr2k : Try.prog.cellsOf 33 = 2 := by kernel_rfl
set_option maxRecDepth 100000 in
theorem open_twoq {H : Type} {enc : TypeId × Value → H} {W : World} {v : Value} {d : DataW H} {ps : List MemPlace} {r0 : Reach} {b0 : Nat} (hval : Value.okWide Try.prog W r0 b0 33 v) (hd : DataW.Trod enc Try.prog W 0 (fun _ => true) true 33 v d ps) :
    ∃ (x : Q64) (y : Int), v = .agg #[qv x, .int .u64 y] := by
  obtain ⟨cs, rfl, hsz, _⟩ : ∃ cs, v = .agg cs ∧ cs.size = Try.prog.cellsOf 33 ∧ Row.okWide Try.prog W r0 b0 33 cs := by
    simpa [Value.okWide, Try.underlying33] using hval
  rw [c_arr2k] at hsz
  obtain ⟨l⟩ := cs
  match l, hsz with
  | [k0, k1], _ =>
    obtain ⟨fuel, hf⟩ := hd
    obtain ⟨y0, y1, m, g0, g1⟩ := trod_array2k Try.underlying33 n_u64 hf
    obtain ⟨x0, e0, _, w0⟩ := DataW.trod_int Try.underlying22 g0
    obtain ⟨x1, e1, _, w1⟩ := DataW.trod_int Try.underlying22 g1
    obtain ⟨a, rfl, ha⟩ := nat_u64 w0
    refine ⟨BitVec.ofNat 64 a, x1, ?_⟩
    simp at e0 e1
    subst e0 e1
    rw [kq_ofNat ha]

end Go.Proofs.Ytbaokcigfgfoaaa
