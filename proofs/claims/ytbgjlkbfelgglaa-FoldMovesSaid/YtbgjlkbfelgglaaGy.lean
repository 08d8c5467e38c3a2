/- The way down: two bytes that came in. -/
import Derived.ChangeSame
import Derived.Test.YtbgjlkbfelgglaaRs
namespace Go.Proofs.Ytbgjlkbfelgglaa
open Go.ChangeShapes Go.WideShapes Go.ChangeAt Go.RowKit Go.Deep

theorem trod_array2 {H : Type} {enc : TypeId × Value → H} {P : Program} {w : World} {base : Nat} {spare : Nat → Bool} {held : Bool} {t e : TypeId} {fuel : Nat} {c0 c1 : Value} {x : DataW H × List MemPlace} (ht : P.underlying t = some (.array 2 e)) (hce : P.cellsOf e = 1)
    (h : DataW.trod enc P w base spare held fuel t [c0, c1] = some x) : ∃ y0 y1 n, DataW.trod enc P w base spare held n e [c0] = some y0 ∧ DataW.trod enc P w base spare held n e [c1] = some y1 := by
  cases fuel with
  | zero => simp [DataW.trod] at h
  | succ n =>
    unfold DataW.trod at h
    rw [ht] at h
    have r2 : List.range 2 = [0, 1] := rfl
    simp [r2, hce] at h
    obtain ⟨_, h⟩ := h
    cases h0 : DataW.trod enc P w base spare held n e [c0] with
    | none => simp [h0] at h
    | some y0 =>
      cases h1 : DataW.trod enc P w base spare held n e [c1] with
      | none => simp [h0, h1] at h
      | some y1 => exact ⟨y0, y1, n, h0, h1⟩

set_option maxRecDepth 100000 in
theorem c_arr2 : Try.prog.cellsOf 41 = 2 := by kernel_rfl
theorem c_u8b : Try.prog.cellsOf 5 = 1 := by kernel_rfl
theorem byte_nat2 {a : Int} (h : (Lit.int .u8 a).wf = true) : ∃ n : Nat, a = (n : Int) ∧ n < 256 := by
  have hx : 0 ≤ a ∧ a ≤ 255 := by simpa [Lit.wf, IntKind.min, IntKind.max, IntKind.signed, IntKind.bits] using h
  exact ⟨a.toNat, by omega, by omega⟩

set_option maxRecDepth 100000 in
theorem open_two {H : Type} {enc : TypeId × Value → H} {W : World} {v : Value} {d : DataW H} {ps : List MemPlace} {r0 : Reach} {b0 : Nat} (hval : Value.okWide Try.prog W r0 b0 41 v) (hd : DataW.Trod enc Try.prog W 0 (fun _ => true) true 41 v d ps) :
    ∃ x y : Nat, x < 256 ∧ y < 256 ∧ v = .agg #[.int .u8 (x : Int), .int .u8 (y : Int)] := by
  obtain ⟨cs, rfl, hsz, _⟩ : ∃ cs, v = .agg cs ∧ cs.size = Try.prog.cellsOf 41 ∧ Row.okWide Try.prog W r0 b0 41 cs := by
    simpa [Value.okWide, Try.underlying41] using hval
  rw [c_arr2] at hsz
  obtain ⟨l⟩ := cs
  match l, hsz with
  | [k0, k1], _ =>
    obtain ⟨fuel, hf⟩ := hd
    obtain ⟨y0, y1, m, g0, g1⟩ := trod_array2 Try.underlying41 c_u8b hf
    obtain ⟨x0, e0, _, w0⟩ := DataW.trod_int Try.underlying5 g0
    obtain ⟨x1, e1, _, w1⟩ := DataW.trod_int Try.underlying5 g1
    obtain ⟨a, rfl, ha⟩ := byte_nat2 w0
    obtain ⟨b, rfl, hb⟩ := byte_nat2 w1
    refine ⟨a, b, ha, hb, ?_⟩
    simp at e0 e1
    subst e0 e1
    rfl

end Go.Proofs.Ytbgjlkbfelgglaa
