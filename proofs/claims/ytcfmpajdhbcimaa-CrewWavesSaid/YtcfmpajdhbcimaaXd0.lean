/- The way down: a node that came in. -/
import Derived.Deep.Slices
import Derived.SliceStrings
import Derived.ChangeMaps5
import Derived.Test.YtcfmpajdhbcimaaD
import Derived.Test.YtcfmpajdhbcimaaProg
import Derived.Test.YtcfmpajdhbcimaaXb
namespace Go.Proofs.Ytcfmpajdhbcimaa
open Go.ChangeShapes Go.WideShapes Go.ChangeAt Go.RowKit Go.Deep

theorem n_one_at {cs : List Value} {j : Nat} {v : Value} (h : (cs.drop j).take 1 = [v]) : cs[j]? = some v := by
  have := congrArg (fun l : List Value => l[0]?) h
  simpa using this
theorem n_tx_back (s : ByteArray) : tx s.data.toList = s := by
  cases s
  simp [tx]
theorem n_str : Try.prog.cellsOf 9 = 1 := by kernel_rfl
theorem n_u64 : Try.prog.cellsOf 34 = 1 := by kernel_rfl
theorem n_bool : Try.prog.cellsOf 4 = 1 := by kernel_rfl
theorem n_strs : Try.prog.cellsOf 33 = 1 := by kernel_rfl
theorem n_node : Try.prog.cellsOf 36 = 4 := by kernel_rfl

/-- Texts in a field. -/
theorem open_ntexts {H : Type} {enc : TypeId × Value → H} {W : World} {fuel : Nat} {cs : List Value} {x : DataW H × List MemPlace} (hf : DataW.trod enc Try.prog W 0 (fun _ => true) true fuel 33 cs = some x) :
    ∃ (A : Option Addr) (n c : Nat) (ts : List (List UInt8)), cs = [.slice A n c] ∧ n ≤ c ∧ c ≤ maxLen ∧ (A = none → c = 0) ∧ Reads W W.heap.size 1 A n (ts.map tsv) ∧ ∀ s ∈ ts, s.length ≤ maxLen := by
  rcases open_strings Try.underlying33 Try.underlying9 n_str hf with ⟨hcs, hx⟩ | ⟨ad, n, c, zs, hcs, _, hl, hm, hz, hx, hcell, hwz⟩
  · exact ⟨none, 0, 0, [], hcs, Nat.le_refl _, by omega, fun _ => rfl, Reads.none_, by simp⟩
  · simp only [if_true] at hz
    refine ⟨some ad, n, c, (zs.take n).map (fun s => s.data.toList), hcs, hl, hm, fun h => (by cases h), ⟨by simp [hz, Nat.min_eq_left hl], fun hn => ⟨ad, rfl, ?_, fun j u hu => ?_⟩⟩, fun s hs => ?_⟩
    · have := cell_lt (hcell 0 (by omega))
      rwa [block_of_add] at this
    · rw [List.map_map, List.getElem?_map, List.getElem?_take] at hu
      split at hu
      · rename_i hj
        have hjl : j < zs.length := by omega
        rw [List.getElem?_eq_getElem hjl] at hu
        have hu' : tsv (zs[j].data.toList) = u := by simpa using hu
        rw [hcell j hjl, ← hu', tsv, n_tx_back]
        simp [List.getD, List.getElem?_eq_getElem hjl]
      · cases hu
    · obtain ⟨z, hz1, rfl⟩ := List.mem_map.1 hs
      have := hwz z (List.mem_of_mem_take hz1)
      rw [Array.length_toList]
      exact this

theorem trod_struct4 {H : Type} {enc : TypeId × Value → H} {P : Program} {w : World} {base : Nat} {spare : Nat → Bool} {held : Bool} {t : TypeId} {f0 f1 f2 f3 : Field} {fuel : Nat} {cs : List Value} {x : DataW H × List MemPlace} (ht : P.underlying t = some (.struct #[f0, f1, f2, f3])) (h : DataW.trod enc P w base spare held fuel t cs = some x) :
    ∃ y0 y1 y2 y3 n, cs.length = P.cellsOf t ∧ DataW.trod enc P w base spare held n f0.type ((cs.drop f0.offset).take (P.cellsOf f0.type)) = some y0 ∧ DataW.trod enc P w base spare held n f1.type ((cs.drop f1.offset).take (P.cellsOf f1.type)) = some y1 ∧ DataW.trod enc P w base spare held n f2.type ((cs.drop f2.offset).take (P.cellsOf f2.type)) = some y2 ∧ DataW.trod enc P w base spare held n f3.type ((cs.drop f3.offset).take (P.cellsOf f3.type)) = some y3 := by
  obtain ⟨xs, n, _, rfl, hl, hlen, hf⟩ := DataW.trod_struct ht h
  match xs, hlen with
  | [y0, y1, y2, y3], _ => exact ⟨y0, y1, y2, y3, n, hl, by simpa using hf 0 f0 rfl, by simpa using hf 1 f1 rfl, by simpa using hf 2 f2 rfl, by simpa using hf 3 f3 rfl⟩

def NGood (W : World) (x : Nw) : Prop := NFits x.d ∧ x.n ≤ x.c ∧ x.c ≤ maxLen ∧ (x.A = none → x.c = 0) ∧ NIn W W.heap.size x
/-- The cells of a node, out of its data. -/
theorem open_ncells {H : Type} {enc : TypeId × Value → H} {W : World} {fuel : Nat} {cs : List Value} {x : DataW H × List MemPlace} (hf : DataW.trod enc Try.prog W 0 (fun _ => true) true fuel 36 cs = some x) :
    ∃ x : Nw, cs = x.cells ∧ NGood W x := by
  obtain ⟨y0, y1, y2, y3, n', hl, g0, g1, g2, g3⟩ := trod_struct4 Try.underlying36 hf
  rw [n_node] at hl
  rw [n_str] at g0
  rw [n_bool] at g1
  rw [n_u64] at g2
  rw [n_strs] at g3
  obtain ⟨z0, e0, _, w0⟩ := DataW.trod_string Try.underlying9 g0
  obtain ⟨z1, e1, _⟩ := DataW.trod_bool Try.underlying4 g1
  obtain ⟨z2, e2, _, w2⟩ := DataW.trod_int Try.underlying34 g2
  obtain ⟨A, n, c, ts, e3, hn, hc, hA, hr, hd⟩ := open_ntexts g3
  refine ⟨⟨⟨z0.data.toList, z1, z2, ts⟩, A, n, c⟩, ?_, ⟨by rw [Array.length_toList]; exact w0, hd⟩, hn, hc, hA, hr⟩
  match cs, hl with
  | [c0, c1, c2, c3], _ =>
    have f0 := n_one_at e0
    have f1 := n_one_at e1
    have f2 := n_one_at e2
    have f3 := n_one_at e3
    simp at f0 f1 f2 f3
    subst f0 f1 f2 f3
    unfold Nw.cells
    simp only [n_tx_back]

set_option maxRecDepth 100000 in
theorem open_node {H : Type} {enc : TypeId × Value → H} {W : World} {v : Value} {d : DataW H} {ps : List MemPlace} {r0 : Reach} {b0 : Nat} (hval : Value.okWide Try.prog W r0 b0 36 v) (hd : DataW.Trod enc Try.prog W 0 (fun _ => true) true 36 v d ps) :
    ∃ x : Nw, v = x.val ∧ NGood W x := by
  obtain ⟨cs, rfl, _⟩ := okWide_struct Try.underlying36 hval
  obtain ⟨fuel, hf⟩ := hd
  obtain ⟨x, h1, h2⟩ := open_ncells hf
  refine ⟨x, ?_, h2⟩
  have : cs = x.cells.toArray := by
    apply Array.ext'
    simpa [Value.cells] using h1
  rw [this]
  rfl

end Go.Proofs.Ytcfmpajdhbcimaa
