/- The way down: the table of crc among those that are listed. -/
import Derived.ProofKit
import Derived.LaidMore
import Derived.MakeChecks
import Derived.OpenShut
import Derived.Test.YthpnfdnhaphfgaaDoorRows
import Derived.Test.YthpnfdnhaphfgaaDoorCs
namespace Go.Proofs.YthpnfdnhaphfgaaDoor
open Go.ChangeShapes Go.WideShapes Go.ChangeAt Go.RowKit

theorem gHalves : Tryd.prog.globalNamed "tephra/crc.halves" = some 0 := by kernel_rfl
theorem tHalves : (Tryd.prog.globals[0]?).map (·.type) = some 78 := by kernel_rfl
theorem cells25 : Tryd.prog.cellsOf 63 = 1 := by kernel_rfl

theorem ints_of_vars {P : Program} {W : World} {n : String} {g len : Nat} {t e : TypeId} {k : IntKind} {zs : List Int} {l : List (String × DataW Unit)} {ps : List MemPlace} (hg : P.globalNamed n = some g) (ht0 : (P.globals[g]?).map (·.type) = some t)
    (ht : P.underlying t = some (.array len e)) (he : P.underlying e = some (.int k)) (hc : P.cellsOf e = 1) (h : DataW.LaidVars P W ((n, .agg (zs.map fun z => .lit (.int k z))) :: l) ps) :
    ∀ (i : Nat) (z : Int), zs[i]? = some z → W.cell? ⟨g, i, none⟩ = some (.int k z) := by
  obtain ⟨g', t', cs, fuel, p, q, hg', ht', hvar, hd, _, _⟩ := h
  obtain rfl := Option.some.inj (hg.symm.trans hg')
  obtain rfl := Option.some.inj (ht0.symm.trans ht')
  obtain ⟨xs, m, rfl, hx, hlen, hxl, hel⟩ := DataW.trod_array ht hd
  simp only [Prod.mk.injEq, DataW.agg.injEq] at hx
  intro i z hz
  have h1 : (xs.map (·.1))[i]? = some (.lit (.int k z)) := by rw [← hx.1, List.getElem?_map, hz]; rfl
  rw [List.getElem?_map] at h1
  obtain ⟨y, hy, hy1⟩ := Option.map_eq_some_iff.1 h1
  have hi : i < len := by rw [← hxl]; exact (List.getElem?_eq_some_iff.1 hy).1
  have h2 := hel i hi
  rw [hy, hc, Nat.mul_one] at h2
  obtain ⟨n', e1, e2, _⟩ := DataW.trod_int he h2
  rw [e2] at hy1
  have hnz : n' = z := by simpa using hy1
  subst hnz
  have h3 : cs.toList[i]? = some (.int k n') := by
    have := congrArg (fun l : List Value => l[0]?) e1
    simpa [List.getElem?_take, List.getElem?_drop] using this
  rw [World.var?_cell hg hvar i]
  simpa using h3

theorem laid_tail {P : Program} {W : World} {x : String × DataW Unit} {l : List (String × DataW Unit)} {ps : List MemPlace} (h : DataW.LaidVars P W (x :: l) ps) : ∃ qs, DataW.LaidVars P W l qs := by
  obtain ⟨x1, x2⟩ := x
  obtain ⟨g', t', cs, fuel, p, q, hg', ht', hvar, hd, hq, _⟩ := h
  exact ⟨_, hq⟩

theorem of_laid4 {W : World} (h : laidMetH Tryd.prog [("math/bits.deBruijn32tab", Rows.laid_math_bits_deBruijn32tab), ("math/bits.deBruijn64tab", Rows.laid_math_bits_deBruijn64tab), ("internal/strconv.uint64pow10", Rows.laid_internal_strconv_uint64pow10), ("tephra/crc.halves", Rows.laid_tephra_crc_halves)] W) : Laid W := by
  rw [MakeChecks.laidMetH_plain _ _ _ (by kernel_rfl)] at h
  obtain ⟨ps, h0, _⟩ := h
  obtain ⟨_, h1⟩ := laid_tail h0
  obtain ⟨_, h2⟩ := laid_tail h1
  obtain ⟨_, h3⟩ := laid_tail h2
  have h4 := ints_of_vars (zs := tab.map (fun n : Nat => (n : Int))) gHalves tHalves Tryd.underlying78 Tryd.underlying63 cells25 h3
  intro i hi
  refine h4 i (tabN i) ?_
  have : ∀ j : Fin 16, (tab.map (fun n : Nat => (n : Int)))[j.val]? = some ((tabN j.val : Nat) : Int) := by decide
  exact this ⟨i, hi⟩

end Go.Proofs.YthpnfdnhaphfgaaDoor
