/- The way down: nodes that came in. -/
import Derived.Test.YtcfmpajdhbcimaaXd0
namespace Go.Proofs.Ytcfmpajdhbcimaa
open Go.ChangeShapes Go.WideShapes Go.ChangeAt Go.RowKit Go.Deep

set_option maxRecDepth 100000 in
theorem open_nodes {H : Type} {enc : TypeId × Value → H} {W : World} {v : Value} {d : DataW H} {ps : List MemPlace} {r0 : Reach} {b0 : Nat} (hval : Value.okWide Try.prog W r0 b0 22 v) (hd : DataW.Trod enc Try.prog W 0 (fun _ => true) true 22 v d ps) :
    ∃ (A : Option Addr) (n c : Nat) (xs : List Nw), v = .slice A n c ∧ n ≤ c ∧ c ≤ maxLen ∧ (A = none → c = 0) ∧ (∀ x ∈ xs, NGood W x) ∧ Nodes W W.heap.size A n xs := by
  obtain ⟨A0, n0, c0, rfl⟩ := okWide_slice Try.underlying22 hval
  obtain ⟨fuel, hf⟩ := hd
  rcases Go.Deep.open_slice Try.underlying22 hf with ⟨hcs, _⟩ | ⟨ad, n, c, m, k, D, Pl, hcs, _, hl, hmx, hm, _, hi⟩
  · have e : Value.slice A0 n0 c0 = .slice none 0 0 := by simpa [Value.cells] using hcs
    exact ⟨none, 0, 0, [], e, Nat.le_refl _, by omega, fun _ => rfl, by simp, Nodes.nil _ _ _⟩
  · have hnm : n ≤ m := by rw [hm]; simp; exact hl
    have e : Value.slice A0 n0 c0 = .slice (some ad) n c := by simpa [Value.cells] using hcs
    have hall : ∀ i, i < n → ∃ x : Nw, NGood W x ∧ ∀ k u, x.cells[k]? = some u → W.cell? (ad.add (i * 4 + k)) = some u := by
      intro i hin
      obtain ⟨cs, hcell, htr⟩ := hi i (by omega)
      rw [n_node] at hcell
      obtain ⟨_, _, hat⟩ := World.cells?_some hcell
      obtain ⟨x, rfl, hx⟩ := open_ncells htr
      refine ⟨x, hx, fun k u hu => ?_⟩
      have hk : k < 4 := (List.getElem?_eq_some_iff.1 hu).1
      have h := hat k (by omega)
      rw [add_of_add] at h
      rw [h]
      exact hu
    obtain ⟨xs, h1, h2, h3⟩ := nodes_row W ad _ n hall
    refine ⟨some ad, n, c, xs, e, hl, hmx, fun h => (by cases h), h2, ⟨by rw [nws_len, h1], fun hn => ⟨ad, rfl, ?_, fun j u hu => ?_⟩⟩, fun x hx => (h2 x hx).2.2.2.2⟩
    · obtain ⟨x, _, h4⟩ := hall 0 hn
      have := cell_lt (h4 0 _ rfl)
      rwa [block_of_add] at this
    · obtain ⟨x, g1, g2⟩ := nws_back xs j u hu
      have := h3 _ x g1 _ u g2
      rwa [show j / 4 * 4 + j % 4 = j by omega] at this

end Go.Proofs.Ytcfmpajdhbcimaa
