/- The way down: a table of numbers that the program laid, and a slice of slices of bytes that came in. -/
import Derived.ProofKit
import Derived.LaidMore
import Derived.MakeChecks
import Derived.OpenShut
import Derived.Deep.Matrix
import Derived.Test.YtoanmbhnhofoiaaDoorRows
import Derived.Test.YtoanmbhnhofoiaaDoorFr
import Derived.Test.YtoanmbhnhofoiaaDoorD
import Derived.Test.YtoanmbhnhofoiaaDoorK2
import Derived.Test.YtoanmbhnhofoiaaDoorCs
namespace Go.Proofs.YtoanmbhnhofoiaaDoor
open Go.ChangeShapes Go.WideShapes Go.ChangeAt Go.RowKit

/-- A table of whole numbers that was laid: its cells. -/
theorem ints_of_laid {P : Program} {W : World} {n : String} {g len : Nat} {t e : TypeId} {k : IntKind} {zs : List Int} (hg : P.globalNamed n = some g) (ht0 : (P.globals[g]?).map (·.type) = some t)
    (ht : P.underlying t = some (.array len e)) (he : P.underlying e = some (.int k)) (hc : P.cellsOf e = 1) (h : laidMet P [(n, .agg (zs.map fun z => .lit (.int k z)))] W) :
    ∀ (i : Nat) (z : Int), zs[i]? = some z → W.cell? ⟨g, i, none⟩ = some (.int k z) := by
  obtain ⟨ps, ⟨g', t', cs, fuel, p, q, hg', ht', hvar, hd, _, _⟩, _⟩ := h
  obtain rfl := Option.some.inj (hg.symm.trans hg')
  obtain rfl := Option.some.inj (ht0.symm.trans ht')
  obtain ⟨xs, m, rfl, hx, hlen, hxl, hel⟩ := DataW.trod_array ht hd
  simp only [Prod.mk.injEq, DataW.agg.injEq] at hx
  intro i z hz
  have h1 : (xs.map (·.1))[i]? = some (.lit (.int k z)) := by rw [← hx.1, List.getElem?_map, hz]; rfl
  rw [List.getElem?_map] at h1
  obtain ⟨y, hy, hy1⟩ := Option.map_eq_some_iff.1 h1
  have hi : i < len := by rw [← hxl]; exact (List.getElem?_eq_some_iff.1 hy).1
  have h2 := hel i hi
  rw [hy, hc, Nat.mul_one] at h2
  obtain ⟨n', e1, e2, _⟩ := DataW.trod_int he h2
  rw [e2] at hy1
  have hnz : n' = z := by simpa using hy1
  subst hnz
  have h3 : cs.toList[i]? = some (.int k n') := by
    have := congrArg (fun l : List Value => l[0]?) e1
    simpa [List.getElem?_take, List.getElem?_drop] using this
  rw [World.var?_cell hg hvar i]
  simpa using h3

theorem gHalves : Tryd.prog.globalNamed "tephra/crc.halves" = some 0 := by kernel_rfl
theorem tHalves : (Tryd.prog.globals[0]?).map (·.type) = some 76 := by kernel_rfl
theorem cells25 : Tryd.prog.cellsOf 56 = 1 := by kernel_rfl
theorem cells24 : Tryd.prog.cellsOf 22 = 1 := by kernel_rfl
theorem cells5 : Tryd.prog.cellsOf 5 = 1 := by kernel_rfl

theorem of_laid {W : World} (h : laidMetH Tryd.prog [("tephra/crc.halves", Rows.laid_tephra_crc_halves)] W) : Laid W := by
  rw [MakeChecks.laidMetH_plain _ _ _ (by kernel_rfl)] at h
  have h1 := ints_of_laid (zs := tab.map (fun n : Nat => (n : Int))) gHalves tHalves Tryd.underlying76 Tryd.underlying56 cells25 h
  intro i hi
  refine h1 i (tabN i) ?_
  have : ∀ j : Fin 16, (tab.map (fun n : Nat => (n : Int)))[j.val]? = some ((tabN j.val : Nat) : Int) := by decide
  exact this ⟨i, hi⟩

/-- A slice of slices of bytes that came in. -/
theorem open_rows {H : Type} {enc : TypeId × Value → H} {P : Program} {W : World} {t e q : TypeId} {v : Value} {d : DataW H} {ps : List MemPlace} {r : Reach} {b0 : Nat} (ht : P.underlying t = some (.slice e)) (he : P.underlying e = some (.slice q)) (hq : P.underlying q = some (.int .u8))
    (ce : P.cellsOf e = 1) (cq : P.cellsOf q = 1) (hval : Value.okWide P W r b0 t v) (hd : DataW.Trod enc P W 0 (fun _ => true) true t v d ps) :
    ∃ (L : Option Addr) (m c : Nat) (vs : List Value) (rows : List (List UInt8)), v = .slice L m c ∧ Reads W W.heap.size 1 L m vs ∧ WRows W W.heap.size vs rows := by
  obtain ⟨a, n, c, rfl⟩ := okWide_slice ht hval
  obtain ⟨fuel, hf⟩ := hd
  rcases Deep.open_int_rows ht he hq ce cq hf with ⟨hcs, hx⟩ | ⟨ad, len, cap, A, L, C, Z, hcs, _, hl, hm, hx, hrow⟩
  · have h0 : Value.slice a n c = .slice none 0 0 := by simpa [Value.cells] using hcs
    cases h0
    exact ⟨none, 0, 0, [], [], rfl, Reads.none_, rfl, fun i v hv => by simp at hv⟩
  · have h0 : Value.slice a n c = .slice (some ad) len cap := by simpa [Value.cells] using hcs
    cases h0
    have hone : ∀ i, i < n → ∃ bs : List UInt8, WRow W W.heap.size (.slice (A i) (L i) (C i)) bs := by
      intro i hi
      obtain ⟨_, hLC, _, hZ, hwf, hnone, hsome⟩ := hrow i (by omega)
      obtain ⟨bs, hbs⟩ := bytes_of_nums ((Z i).take (L i)) (fun z hz => hwf z (List.mem_of_mem_take hz))
      refine ⟨bs, A i, L i, C i, rfl, hLC, ?_, ?_⟩
      · rw [← hbs]; simp [hZ, Nat.min_eq_left hLC]
      · intro hpos
        cases hA : A i with
        | none => have := hnone hA; omega
        | some a' =>
          obtain ⟨_, hc⟩ := hsome a' hA
          refine ⟨a', rfl, ?_, fun j u hu => ?_⟩
          · have := cell_lt (hc 0 (by omega))
            rwa [block_of_add] at this
          · rw [← hbs, List.getElem?_map, List.getElem?_take] at hu
            split at hu
            · rename_i hj
              have hjl : j < (Z i).length := by omega
              rw [List.getElem?_eq_getElem hjl] at hu
              have hu' : Value.int .u8 (Z i)[j] = u := by simpa using hu
              rw [hc j (by omega), ← hu']
              simp [List.getD, List.getElem?_eq_getElem hjl]
            · cases hu
    obtain ⟨f, hf⟩ := Deep.choose_lt hone
    refine ⟨some ad, n, c, (List.range n).map (fun i => .slice (A i) (L i) (C i)), (List.range n).map f, rfl, ⟨by simp, fun hn => ⟨ad, rfl, ?_, fun j u hu => ?_⟩⟩, by simp, fun i v hv => ?_⟩
    · have := cell_lt (hrow 0 (by omega)).1
      rwa [block_of_add] at this
    · rw [List.getElem?_map] at hu
      obtain ⟨i, hi, rfl⟩ := Option.map_eq_some_iff.1 hu
      obtain ⟨hj, hij⟩ := List.getElem?_eq_some_iff.1 hi
      have e : i = j := by simpa using hij.symm
      subst e
      exact (hrow i (by simp at hj; omega)).1
    · rw [List.getElem?_map] at hv
      obtain ⟨j, hi, rfl⟩ := Option.map_eq_some_iff.1 hv
      obtain ⟨hj, hij⟩ := List.getElem?_eq_some_iff.1 hi
      have e : j = i := by simpa using hij.symm
      subst e
      exact ⟨f j, by rw [List.getElem?_map, hi]; rfl, hf j (by simpa using hj)⟩

end Go.Proofs.YtoanmbhnhofoiaaDoor
