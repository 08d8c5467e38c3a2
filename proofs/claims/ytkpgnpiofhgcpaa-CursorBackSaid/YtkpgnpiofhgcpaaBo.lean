/- The way down: a text, and a slice of texts, that came in. -/
import Derived.Test.YtkpgnpiofhgcpaaD
import Derived.Test.YtkpgnpiofhgcpaaBk
import Derived.SliceStrings
import Derived.ChangeMaps5
namespace Go.Proofs.Ytkpgnpiofhgcpaa
open Go.ChangeShapes Go.WideShapes Go.ChangeAt Go.RowKit

theorem tx_back (s : ByteArray) : tx s.data.toList = s := by
  cases s
  simp [tx]

theorem open_text {H : Type} {enc : TypeId × Value → H} {P : Program} {W : World} {t : TypeId} {v : Value} {d : DataW H} {ps : List MemPlace} {r : Reach} {b0 : Nat} (ht : P.underlying t = some .string)
    (hval : Value.okWide P W r b0 t v) (hd : DataW.Trod enc P W 0 (fun _ => true) true t v d ps) : ∃ bs : List UInt8, v = .string (tx bs) ∧ ps = [] := by
  obtain ⟨s, rfl, _, hps, _⟩ := ChangeMaps.open_string ht hval hd
  exact ⟨s.data.toList, by rw [tx_back], hps⟩

/-- A slice of texts that came in: its texts, in their order. -/
theorem open_texts {H : Type} {enc : TypeId × Value → H} {P : Program} {W : World} {t e : TypeId} {v : Value} {d : DataW H} {ps : List MemPlace} {r : Reach} {b0 : Nat} (ht : P.underlying t = some (.slice e)) (he : P.underlying e = some .string) (hc : P.cellsOf e = 1)
    (hval : Value.okWide P W r b0 t v) (hd : DataW.Trod enc P W 0 (fun _ => true) true t v d ps) :
    ∃ (A : Option Addr) (n c : Nat) (ts : List (List UInt8)), v = .slice A n c ∧ n ≤ c ∧ Reads W W.heap.size 1 A n (ts.map sv) := by
  obtain ⟨a, n, c, rfl⟩ := okWide_slice ht hval
  obtain ⟨fuel, hf⟩ := hd
  rcases open_strings ht he hc hf with ⟨hcs, hx⟩ | ⟨ad, len, cap, zs, hcs, _, hl, hm, hz, hx, hcell, hwz⟩
  · have h0 : Value.slice a n c = .slice none 0 0 := by simpa [Value.cells] using hcs
    cases h0
    exact ⟨none, 0, 0, [], rfl, Nat.le_refl _, Reads.none_⟩
  · have h0 : Value.slice a n c = .slice (some ad) len cap := by simpa [Value.cells] using hcs
    cases h0
    simp only [if_true] at hz
    refine ⟨some ad, n, c, (zs.take n).map (fun s => s.data.toList), rfl, hl, ⟨by simp [hz, Nat.min_eq_left hl], fun hn => ⟨ad, rfl, ?_, fun j u hu => ?_⟩⟩⟩
    · have := cell_lt (hcell 0 (by omega))
      rwa [block_of_add] at this
    · rw [List.map_map, List.getElem?_map, List.getElem?_take] at hu
      split at hu
      · rename_i hj
        have hjl : j < zs.length := by omega
        rw [List.getElem?_eq_getElem hjl] at hu
        have hu' : sv (zs[j].data.toList) = u := by simpa using hu
        rw [hcell j hjl, ← hu', sv, tx_back]
        simp [List.getD, List.getElem?_eq_getElem hjl]
      · cases hu

end Go.Proofs.Ytkpgnpiofhgcpaa
