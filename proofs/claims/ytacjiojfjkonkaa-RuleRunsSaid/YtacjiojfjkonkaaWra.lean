/- The way down: nodes whose rules are numbers of 64 bits. -/
import Derived.Test.YtacjiojfjkonkaaXd
import Derived.Test.YtacjiojfjkonkaaWr6
namespace Go.Proofs.Ytacjiojfjkonkaa
open Go.ChangeShapes Go.WideShapes Go.ChangeAt Go.RowKit Go.Deep

/-- The cells of a node, out of its data. -/
theorem open_ncellsq {H : Type} {enc : TypeId × Value → H} {W : World} {fuel : Nat} {cs : List Value} {x : DataW H × List MemPlace} (hf : DataW.trod enc Try.prog W 0 (fun _ => true) true fuel 37 cs = some x) :
    ∃ x : Nw, cs = x.cells ∧ NGood W x ∧ RuleOk x.d := by
  obtain ⟨y0, y1, y2, y3, n', hl, g0, g1, g2, g3⟩ := trod_struct4 Try.underlying37 hf
  rw [n_node] at hl
  rw [n_str] at g0
  rw [n_bool] at g1
  rw [n_u64] at g2
  rw [n_strs] at g3
  obtain ⟨z0, e0, _, w0⟩ := DataW.trod_string Try.underlying9 g0
  obtain ⟨z1, e1, _⟩ := DataW.trod_bool Try.underlying4 g1
  obtain ⟨z2, e2, _, w2⟩ := DataW.trod_int Try.underlying34 g2
  obtain ⟨A, n, c, ts, e3, hn, hc, hA, hr, hd⟩ := open_ntexts g3
  obtain ⟨zn, rfl, hzn⟩ := nat_u64 w2
  refine ⟨⟨⟨z0.data.toList, z1, (zn : Int), ts⟩, A, n, c⟩, ?_, ⟨⟨by rw [Array.length_toList]; exact w0, hd⟩, hn, hc, hA, hr⟩, by unfold RuleOk rq; rw [Int.toNat_natCast]; exact qv_ofNat hzn⟩
  match cs, hl with
  | [c0, c1, c2, c3], _ =>
    have f0 := n_one_at e0
    have f1 := n_one_at e1
    have f2 := n_one_at e2
    have f3 := n_one_at e3
    simp at f0 f1 f2 f3
    subst f0 f1 f2 f3
    unfold Nw.cells
    simp only [n_tx_back]

set_option maxRecDepth 100000 in
theorem open_nodesq {H : Type} {enc : TypeId × Value → H} {W : World} {v : Value} {d : DataW H} {ps : List MemPlace} {r0 : Reach} {b0 : Nat} (hval : Value.okWide Try.prog W r0 b0 22 v) (hd : DataW.Trod enc Try.prog W 0 (fun _ => true) true 22 v d ps) :
    ∃ (A : Option Addr) (n c : Nat) (xs : List Nw), v = .slice A n c ∧ n ≤ c ∧ c ≤ maxLen ∧ (A = none → c = 0) ∧ (∀ x ∈ xs, NGood W x ∧ RuleOk x.d) ∧ Nodes W W.heap.size A n xs := by
  obtain ⟨A0, n0, c0, rfl⟩ := okWide_slice Try.underlying22 hval
  obtain ⟨fuel, hf⟩ := hd
  rcases Go.Deep.open_slice Try.underlying22 hf with ⟨hcs, _⟩ | ⟨ad, n, c, m, k, D, Pl, hcs, _, hl, hmx, hm, _, hi⟩
  · have e : Value.slice A0 n0 c0 = .slice none 0 0 := by simpa [Value.cells] using hcs
    exact ⟨none, 0, 0, [], e, Nat.le_refl _, by omega, fun _ => rfl, by simp, Nodes.nil _ _ _⟩
  · have hnm : n ≤ m := by rw [hm]; simp; exact hl
    have e : Value.slice A0 n0 c0 = .slice (some ad) n c := by simpa [Value.cells] using hcs
    have hall : ∀ i, i < n → ∃ x : Nw, (NGood W x ∧ RuleOk x.d) ∧ ∀ k u, x.cells[k]? = some u → W.cell? (ad.add (i * 4 + k)) = some u := by
      intro i hin
      obtain ⟨cs, hcell, htr⟩ := hi i (by omega)
      rw [n_node] at hcell
      obtain ⟨_, _, hat⟩ := World.cells?_some hcell
      obtain ⟨x, rfl, hx⟩ := open_ncellsq htr
      refine ⟨x, hx, fun k u hu => ?_⟩
      have hk : k < 4 := (List.getElem?_eq_some_iff.1 hu).1
      have h := hat k (by omega)
      rw [add_of_add] at h
      rw [h]
      exact hu
    obtain ⟨xs, h1, h2, h3⟩ := nodes_row W ad _ n hall
    refine ⟨some ad, n, c, xs, e, hl, hmx, fun h => (by cases h), h2, ⟨by rw [nws_len, h1], fun hn => ⟨ad, rfl, ?_, fun j u hu => ?_⟩⟩, fun x hx => (h2 x hx).1.2.2.2.2⟩
    · obtain ⟨x, _, h4⟩ := hall 0 hn
      have := cell_lt (h4 0 _ rfl)
      rwa [block_of_add] at this
    · obtain ⟨x, g1, g2⟩ := nws_back xs j u hu
      have := h3 _ x g1 _ u g2
      rwa [show j / 4 * 4 + j % 4 = j by omega] at this

end Go.Proofs.Ytacjiojfjkonkaa
