/- The way down: records that came in. -/
import Derived.Test.YtbaokcigfgfoaaaTa
import Derived.Test.YtbaokcigfgfoaaaRs
namespace Go.Proofs.Ytbaokcigfgfoaaa
open Go.ChangeShapes Go.WideShapes Go.ChangeAt Go.RowKit Go.Deep

set_option maxRecDepth 100000 in
theorem open_recs {H : Type} {enc : TypeId × Value → H} {W : World} {v : Value} {d : DataW H} {ps : List MemPlace} {r0 : Reach} {b0 : Nat} (hval : Value.okWide Try.prog W r0 b0 26 v) (hd : DataW.Trod enc Try.prog W 0 (fun _ => true) true 26 v d ps) :
    ∃ (A : Option Addr) (n c : Nat) (xs : List Rw), v = .slice A n c ∧ n ≤ maxLen ∧ (A = none → c = 0) ∧ (∀ x ∈ xs, Fits x.r x.l ∧ x.n ≤ maxLen) ∧ Recs W W.heap.size A n xs := by
  obtain ⟨A0, n0, c0, rfl⟩ := okWide_slice Try.underlying26 hval
  obtain ⟨fuel, hf⟩ := hd
  rcases Go.Deep.open_slice Try.underlying26 hf with ⟨hcs, _⟩ | ⟨ad, n, c, m, k, D, Pl, hcs, _, hl, hmx, hm, _, hi⟩
  · have e : Value.slice A0 n0 c0 = .slice none 0 0 := by simpa [Value.cells] using hcs
    exact ⟨none, 0, 0, [], e, by omega, fun _ => rfl, by simp, Recs.nil _ _ _⟩
  · have hnm : n ≤ m := by rw [hm]; simp; exact hl
    have e : Value.slice A0 n0 c0 = .slice (some ad) n c := by simpa [Value.cells] using hcs
    have hall : ∀ i, i < n → ∃ x : Rw, (((Fits x.r x.l ∧ x.n ≤ maxLen) ∧ (Reads W W.heap.size 3 x.A x.n (dps x.l) ∧ (x.A = none → x.c = 0)))) ∧ ∀ k u, x.cells[k]? = some u → W.cell? (ad.add (i * 7 + k)) = some u := by
      intro i hin
      obtain ⟨cs, hcell, htr⟩ := hi i (by omega)
      rw [c_rec] at hcell
      obtain ⟨_, _, hat⟩ := World.cells?_some hcell
      obtain ⟨r, A, n', c', l, rfl, h2, h3, h4, h5⟩ := open_rcells htr
      refine ⟨⟨r, A, n', c', l⟩, ⟨⟨h4, h2⟩, h5, h3⟩, fun k u hu => ?_⟩
      have hk : k < 7 := (List.getElem?_eq_some_iff.1 hu).1
      have h := hat k (by omega)
      rw [add_of_add] at h
      rw [h]
      exact hu
    obtain ⟨xs, h1, h2, h3⟩ := recs_row W ad _ n hall
    refine ⟨some ad, n, c, xs, e, by omega, fun h => (by cases h), fun x hx => (h2 x hx).1, ⟨by rw [rws_len, h1], fun hn => ⟨ad, rfl, ?_, fun j u hu => ?_⟩⟩, fun x hx => (h2 x hx).2⟩
    · obtain ⟨x, _, h4⟩ := hall 0 hn
      have := cell_lt (h4 0 _ rfl)
      rwa [block_of_add] at this
    · obtain ⟨x, g1, g2⟩ := rws_back xs j u hu
      have := h3 _ x g1 _ u g2
      rwa [show j / 7 * 7 + j % 7 = j by omega] at this

end Go.Proofs.Ytbaokcigfgfoaaa
