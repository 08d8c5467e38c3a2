/- The way down: two numbers of 16 bits, in a row of two. -/
import Derived.ProofKit
import Derived.OpenShut
import Derived.Test.YtoanmbhnhofoiaaDoorD
namespace Go.Proofs.YtoanmbhnhofoiaaDoor
open Go.ChangeShapes Go.WideShapes Go.ChangeAt Go.RowKit

theorem okWide_row {P : Program} {w : World} {r : Reach} {base n : Nat} {t e : TypeId} {v : Value} (ht : P.underlying t = some (.array n e)) (h : Value.okWide P w r base t v) : ∃ cs, v = .agg cs ∧ cs.size = P.cellsOf t := by
  unfold Value.okWide at h
  rw [ht] at h
  cases v <;> simp_all

theorem open_pair {H : Type} {enc : TypeId × Value → H} {P : Program} {W : World} {t e : TypeId} {v : Value} {d : DataW H} {ps : List MemPlace} {r : Reach} {b0 : Nat} (ht : P.underlying t = some (.array 2 e)) (he : P.underlying e = some (.int .u16)) (hc : P.cellsOf e = 1) (hc2 : P.cellsOf t = 2)
    (hval : Value.okWide P W r b0 t v) (hd : DataW.Trod enc P W 0 (fun _ => true) true t v d ps) :
    ∃ x0 x1 : Nat, v = .agg #[.int .u16 (x0 : Int), .int .u16 (x1 : Int)] ∧ x0 < 65536 ∧ x1 < 65536 := by
  obtain ⟨cs, rfl, hsz⟩ := okWide_row ht hval
  obtain ⟨fuel, hf⟩ := hd
  obtain ⟨xs, m, rfl, hx, hlen, hxl, hel⟩ := DataW.trod_array ht hf
  have hcell : ∀ i, i < 2 → ∃ x : Nat, x < 65536 ∧ cs.toList[i]? = some (.int .u16 (x : Int)) := by
    intro i hi
    obtain ⟨y, hy⟩ : ∃ y, xs[i]? = some y := ⟨_, List.getElem?_eq_getElem (by omega)⟩
    have h2 := hel i hi
    rw [hy, hc, Nat.mul_one] at h2
    obtain ⟨z, e1, _, e3⟩ := DataW.trod_int he h2
    have h3 : cs.toList[i]? = some (.int .u16 z) := by
      have := congrArg (fun l : List Value => l[0]?) e1
      simpa [List.getElem?_take, List.getElem?_drop, Value.cells] using this
    have hz : 0 ≤ z ∧ z ≤ 65535 := by simpa [Lit.wf, IntKind.min, IntKind.max, IntKind.signed, IntKind.bits] using e3
    refine ⟨z.toNat, by omega, ?_⟩
    rw [h3]
    congr 2
    omega
  obtain ⟨x0, l0, g0⟩ := hcell 0 (by omega)
  obtain ⟨x1, l1, g1⟩ := hcell 1 (by omega)
  refine ⟨x0, x1, ?_, l0, l1⟩
  congr 1
  apply Array.ext'
  have hl : cs.toList.length = 2 := by rw [Array.length_toList, hsz, hc2]
  match h : cs.toList, hl with
  | [a, b], _ =>
    rw [h] at g0 g1
    simp at g0 g1
    rw [g0, g1]

end Go.Proofs.YtoanmbhnhofoiaaDoor
