/- The way down: records that came in, with their row's room; a byte; a record by itself has open_record. -/
import Derived.Test.YtbgjlkbfelgglaaTz
import Derived.Test.YtbgjlkbfelgglaaD
namespace Go.Proofs.Ytbgjlkbfelgglaa
open Go.ChangeShapes Go.WideShapes Go.ChangeAt Go.RowKit Go.Deep

theorem byte_nat3 {a : Int} (h : (Lit.int .u8 a).wf = true) : ∃ n : Nat, a = (n : Int) ∧ n < 256 := by
  have hx : 0 ≤ a ∧ a ≤ 255 := by simpa [Lit.wf, IntKind.min, IntKind.max, IntKind.signed, IntKind.bits] using h
  exact ⟨a.toNat, by omega, by omega⟩
set_option maxRecDepth 100000 in
theorem open_recs2 {H : Type} {enc : TypeId × Value → H} {W : World} {v : Value} {d : DataW H} {ps : List MemPlace} {r0 : Reach} {b0 : Nat} (hval : Value.okWide Try.prog W r0 b0 22 v) (hd : DataW.Trod enc Try.prog W 0 (fun _ => true) true 22 v d ps) :
    ∃ (A : Option Addr) (n c : Nat) (xs : List Rw), v = .slice A n c ∧ n ≤ c ∧ c ≤ maxLen ∧ (A = none → c = 0) ∧ (∀ x ∈ xs, Fits x.r x.l ∧ x.n ≤ maxLen) ∧ Recs W W.heap.size A n xs := by
  obtain ⟨A, n, c, xs, h1, h2, h3, h4, h5⟩ := open_recs hval hd
  obtain ⟨fuel, hf⟩ := hd
  rcases Go.Deep.open_slice Try.underlying22 hf with ⟨hcs, _⟩ | ⟨ad, n', c', m, k, D, Pl, hcs, _, hl, hmx, hm, _, hi⟩
  · rw [h1] at hcs
    have e : Value.slice A n c = .slice none 0 0 := by simpa [Value.cells] using hcs
    injection e with e1 e2 e3
    subst e1 e2 e3
    exact ⟨_, _, _, xs, h1, Nat.le_refl _, by omega, fun _ => rfl, h4, h5⟩
  · rw [h1] at hcs
    have e : Value.slice A n c = .slice (some ad) n' c' := by simpa [Value.cells] using hcs
    injection e with e1 e2 e3
    subst e1 e2 e3
    exact ⟨_, _, _, xs, h1, hl, hmx, fun h => (by cases h), h4, h5⟩

end Go.Proofs.Ytbgjlkbfelgglaa
