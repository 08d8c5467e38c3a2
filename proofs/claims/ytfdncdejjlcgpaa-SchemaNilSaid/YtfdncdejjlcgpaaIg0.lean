/- The way down: a slice of texts that came in, no text longer than there can be one. -/
import Derived.Test.YtfdncdejjlcgpaaD
import Derived.Test.YtfdncdejjlcgpaaIa
import Derived.SliceStrings
import Derived.ChangeMaps5
namespace Go.Proofs.Ytfdncdejjlcgpaa
open Go.ChangeShapes Go.WideShapes Go.ChangeAt Go.RowKit

theorem tx_back0 (s : ByteArray) : tx s.data.toList = s := by
  cases s
  simp [tx]

theorem open_textsL {H : Type} {enc : TypeId × Value → H} {P : Program} {W : World} {t e : TypeId} {v : Value} {d : DataW H} {ps : List MemPlace} {r : Reach} {b0 : Nat} (ht : P.underlying t = some (.slice e)) (he : P.underlying e = some .string) (hc : P.cellsOf e = 1)
    (hval : Value.okWide P W r b0 t v) (hd : DataW.Trod enc P W 0 (fun _ => true) true t v d ps) :
    ∃ (A : Option Addr) (n c : Nat) (ts : List (List UInt8)), v = .slice A n c ∧ n ≤ c ∧ Reads W W.heap.size 1 A n (ts.map tsv) ∧ ∀ s ∈ ts, s.length ≤ maxLen := by
  obtain ⟨a, n, c, rfl⟩ := okWide_slice ht hval
  obtain ⟨fuel, hf⟩ := hd
  rcases open_strings ht he hc hf with ⟨hcs, hx⟩ | ⟨ad, len, cap, zs, hcs, _, hl, hm, hz, hx, hcell, hwz⟩
  · have h0 : Value.slice a n c = .slice none 0 0 := by simpa [Value.cells] using hcs
    cases h0
    exact ⟨none, 0, 0, [], rfl, Nat.le_refl _, Reads.none_, by simp⟩
  · have h0 : Value.slice a n c = .slice (some ad) len cap := by simpa [Value.cells] using hcs
    cases h0
    simp only [if_true] at hz
    refine ⟨some ad, n, c, (zs.take n).map (fun s => s.data.toList), rfl, hl, ⟨by simp [hz, Nat.min_eq_left hl], fun hn => ⟨ad, rfl, ?_, fun j u hu => ?_⟩⟩, fun s hs => ?_⟩
    · have := cell_lt (hcell 0 (by omega))
      rwa [block_of_add] at this
    · rw [List.map_map, List.getElem?_map, List.getElem?_take] at hu
      split at hu
      · rename_i hj
        have hjl : j < zs.length := by omega
        rw [List.getElem?_eq_getElem hjl] at hu
        have hu' : tsv (zs[j].data.toList) = u := by simpa using hu
        rw [hcell j hjl, ← hu', tsv, tx_back0]
        simp [List.getD, List.getElem?_eq_getElem hjl]
      · cases hu
    · obtain ⟨z, hz1, rfl⟩ := List.mem_map.1 hs
      have := hwz z (List.mem_of_mem_take hz1)
      rw [Array.length_toList]
      exact this

end Go.Proofs.Ytfdncdejjlcgpaa
