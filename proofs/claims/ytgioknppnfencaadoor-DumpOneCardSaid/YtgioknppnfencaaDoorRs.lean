/- The way down: deps, and a record, that came in. -/
import Derived.Test.YtgioknppnfencaaDoorD
import Derived.Test.YtgioknppnfencaaDoorRn0
import Derived.Deep.Slices
import Derived.Deep.Strs
namespace Go.Proofs.YtgioknppnfencaaDoor
open Go.ChangeShapes Go.WideShapes Go.ChangeAt Go.RowKit Go.Deep

theorem r_one_at {cs : List Value} {j : Nat} {v : Value} (h : (cs.drop j).take 1 = [v]) : cs[j]? = some v := by
  have := congrArg (fun l : List Value => l[0]?) h
  simpa using this
theorem r_tx_back (s : ByteArray) : tx s.data.toList = s := by
  cases s
  simp [tx]

theorem deps_row (W : World) (ad : Addr) : ∀ n : Nat, (∀ i, i < n → ∃ d : Dp, d.name.length ≤ maxLen ∧ W.cell? (ad.add (i * 3)) = some (rsv d.name) ∧ W.cell? (ad.add (i * 3 + 1)) = some (.int .u64 d.hash) ∧ W.cell? (ad.add (i * 3 + 2)) = some (.bool d.order)) →
    ∃ l : List Dp, l.length = n ∧ (∀ d ∈ l, d.name.length ≤ maxLen) ∧ ∀ i d, l[i]? = some d → W.cell? (ad.add (i * 3)) = some (rsv d.name) ∧ W.cell? (ad.add (i * 3 + 1)) = some (.int .u64 d.hash) ∧ W.cell? (ad.add (i * 3 + 2)) = some (.bool d.order)
  | 0, _ => ⟨[], rfl, by simp, by simp⟩
  | n + 1, h => by
    obtain ⟨ts, h1, h2, h3⟩ := deps_row W ad n (fun i hi => h i (by omega))
    obtain ⟨t, g1, g2⟩ := h n (by omega)
    refine ⟨ts ++ [t], by simp [h1], ?_, ?_⟩
    · intro u hu
      rcases List.mem_append.1 hu with hu | hu
      · exact h2 u hu
      · have : u = t := by simpa using hu
        rw [this]; exact g1
    · intro i u hu
      rcases Nat.lt_or_ge i ts.length with hlt | hge
      · rw [List.getElem?_append_left hlt] at hu
        exact h3 i u hu
      · rw [List.getElem?_append_right hge] at hu
        have hi : i = n := by
          rcases Nat.lt_or_ge (i - ts.length) 1 with h4 | h4
          · omega
          · rw [List.getElem?_eq_none (by simpa using h4)] at hu; cases hu
        subst hi
        rw [h1, Nat.sub_self] at hu
        have : t = u := by simpa using hu
        rw [← this]; exact g2

theorem dps_back : ∀ (l : List Dp) (j : Nat) (u : Value), (dps l)[j]? = some u → ∃ t, l[j / 3]? = some t ∧ ((j % 3 = 0 ∧ u = rsv t.name) ∨ (j % 3 = 1 ∧ u = .int .u64 t.hash) ∨ (j % 3 = 2 ∧ u = .bool t.order))
  | [], j, u, h => by simp [dps] at h
  | a :: l, j, u, h => by
    have e : (Dp.cells a ++ dps l)[j]? = some u := h
    rcases Nat.lt_or_ge j 3 with hlt | hge
    · rw [List.getElem?_append_left (by simp [Dp.cells]; omega)] at e
      refine ⟨a, by rw [show j / 3 = 0 by omega]; rfl, ?_⟩
      obtain rfl | rfl | rfl : j = 0 ∨ j = 1 ∨ j = 2 := by omega
      · exact .inl ⟨rfl, (Option.some.inj e).symm⟩
      · exact .inr (.inl ⟨rfl, (Option.some.inj e).symm⟩)
      · exact .inr (.inr ⟨rfl, (Option.some.inj e).symm⟩)
    · rw [List.getElem?_append_right (by simp [Dp.cells]; omega)] at e
      have e2 : (dps l)[j - 3]? = some u := e
      obtain ⟨t, h1, h2⟩ := dps_back l (j - 3) u e2
      refine ⟨t, by rw [show j / 3 = (j - 3) / 3 + 1 by omega]; simpa using h1, ?_⟩
      rw [show j % 3 = (j - 3) % 3 by omega]
      exact h2

theorem c_dep : Tryd.prog.cellsOf 56 = 3 := by kernel_rfl
theorem c_str : Tryd.prog.cellsOf 9 = 1 := by kernel_rfl
theorem c_u64 : Tryd.prog.cellsOf 32 = 1 := by kernel_rfl
theorem c_bool : Tryd.prog.cellsOf 4 = 1 := by kernel_rfl
theorem c_int : Tryd.prog.cellsOf 3 = 1 := by kernel_rfl
theorem c_deps : Tryd.prog.cellsOf 33 = 1 := by kernel_rfl
theorem c_rec : Tryd.prog.cellsOf 35 = 7 := by kernel_rfl

theorem open_deps {H : Type} {enc : TypeId × Value → H} {W : World} {fuel : Nat} {cs : List Value} {x : DataW H × List MemPlace} (hf : DataW.trod enc Tryd.prog W 0 (fun _ => true) true fuel 33 cs = some x) :
    ∃ (A : Option Addr) (n c : Nat) (l : List Dp), cs = [.slice A n c] ∧ n ≤ maxLen ∧ (A = none → c = 0) ∧ (∀ d ∈ l, d.name.length ≤ maxLen) ∧ Reads W W.heap.size 3 A n (dps l) := by
  rcases Go.Deep.open_slice Tryd.underlying33 hf with ⟨hcs, _⟩ | ⟨ad, n, c, m, k, D, Pl, hcs, _, hl, hmx, hm, _, hi⟩
  · exact ⟨none, 0, 0, [], hcs, by omega, fun _ => rfl, by simp, by simp [dps], fun h => absurd h (by omega)⟩
  · have hnm : n ≤ m := by rw [hm]; simp; exact hl
    have hall : ∀ i, i < n → ∃ d : Dp, d.name.length ≤ maxLen ∧ W.cell? (ad.add (i * 3)) = some (rsv d.name) ∧ W.cell? (ad.add (i * 3 + 1)) = some (.int .u64 d.hash) ∧ W.cell? (ad.add (i * 3 + 2)) = some (.bool d.order) := by
      intro i hin
      obtain ⟨cs, hcell, htr⟩ := hi i (by omega)
      rw [c_dep] at hcell
      obtain ⟨_, _, hat⟩ := World.cells?_some hcell
      obtain ⟨y0, y1, y2, n', _, _, g0, g1, g2⟩ := trod_struct3 Tryd.underlying56 htr
      rw [c_str] at g0
      rw [c_u64] at g1
      rw [c_bool] at g2
      obtain ⟨z0, e0, _, w0⟩ := DataW.trod_string Tryd.underlying9 g0
      obtain ⟨z1, e1, _, w1⟩ := DataW.trod_int Tryd.underlying32 g1
      obtain ⟨z2, e2, _⟩ := DataW.trod_bool Tryd.underlying4 g2
      refine ⟨⟨z0.data.toList, z1, z2⟩, by rw [Array.length_toList]; exact w0, ?_, ?_, ?_⟩
      · have h := hat 0 (by omega)
        rw [add_of_add, r_one_at e0] at h
        show _ = some (rsv z0.data.toList)
        rw [rsv, r_tx_back]
        exact h
      · have h := hat 1 (by omega)
        rw [add_of_add, r_one_at e1] at h
        exact h
      · have h := hat 2 (by omega)
        rw [add_of_add, r_one_at e2] at h
        exact h
    obtain ⟨l, h1, h2, h3⟩ := deps_row W ad n hall
    refine ⟨some ad, n, c, l, hcs, by omega, fun h => (by cases h), h2, by rw [dps_len, h1], fun hn => ⟨ad, rfl, ?_, fun j u hu => ?_⟩⟩
    · obtain ⟨t, _, h4, _⟩ := hall 0 hn
      have := cell_lt h4
      rwa [block_of_add] at this
    · obtain ⟨t, g1, g2⟩ := dps_back l j u hu
      obtain ⟨q0, q1, q2⟩ := h3 _ t g1
      rcases g2 with ⟨hj, rfl⟩ | ⟨hj, rfl⟩ | ⟨hj, rfl⟩
      · rw [show j / 3 * 3 = j by omega] at q0; exact q0
      · rw [show j / 3 * 3 + 1 = j by omega] at q1; exact q1
      · rw [show j / 3 * 3 + 2 = j by omega] at q2; exact q2

theorem trod_struct7 {H : Type} {enc : TypeId × Value → H} {P : Program} {w : World} {base : Nat} {spare : Nat → Bool} {held : Bool} {t : TypeId} {f0 f1 f2 f3 f4 f5 f6 : Field} {fuel : Nat} {cs : List Value} {x : DataW H × List MemPlace} (ht : P.underlying t = some (.struct #[f0, f1, f2, f3, f4, f5, f6])) (h : DataW.trod enc P w base spare held fuel t cs = some x) :
    ∃ y0 y1 y2 y3 y4 y5 y6 n, cs.length = P.cellsOf t ∧ DataW.trod enc P w base spare held n f0.type ((cs.drop f0.offset).take (P.cellsOf f0.type)) = some y0 ∧ DataW.trod enc P w base spare held n f1.type ((cs.drop f1.offset).take (P.cellsOf f1.type)) = some y1 ∧ DataW.trod enc P w base spare held n f2.type ((cs.drop f2.offset).take (P.cellsOf f2.type)) = some y2 ∧ DataW.trod enc P w base spare held n f3.type ((cs.drop f3.offset).take (P.cellsOf f3.type)) = some y3 ∧ DataW.trod enc P w base spare held n f4.type ((cs.drop f4.offset).take (P.cellsOf f4.type)) = some y4 ∧ DataW.trod enc P w base spare held n f5.type ((cs.drop f5.offset).take (P.cellsOf f5.type)) = some y5 ∧ DataW.trod enc P w base spare held n f6.type ((cs.drop f6.offset).take (P.cellsOf f6.type)) = some y6 := by
  obtain ⟨xs, n, _, rfl, hl, hlen, hf⟩ := DataW.trod_struct ht h
  match xs, hlen with
  | [y0, y1, y2, y3, y4, y5, y6], _ => exact ⟨y0, y1, y2, y3, y4, y5, y6, n, hl, by simpa using hf 0 f0 rfl, by simpa using hf 1 f1 rfl, by simpa using hf 2 f2 rfl, by simpa using hf 3 f3 rfl, by simpa using hf 4 f4 rfl, by simpa using hf 5 f5 rfl, by simpa using hf 6 f6 rfl⟩

/-- The cells of a record, out of its data. -/
theorem open_rcells {H : Type} {enc : TypeId × Value → H} {W : World} {fuel : Nat} {cs : List Value} {x : DataW H × List MemPlace} (hf : DataW.trod enc Tryd.prog W 0 (fun _ => true) true fuel 35 cs = some x) :
    ∃ (r : Rc) (A : Option Addr) (n c : Nat) (l : List Dp), cs = (rcells r A n c).toList ∧ n ≤ maxLen ∧ (A = none → c = 0) ∧ Fits r l ∧ Reads W W.heap.size 3 A n (dps l) := by
  obtain ⟨y0, y1, y2, y3, y4, y5, y6, n', hl, g0, g1, g2, g3, g4, g5, g6⟩ := trod_struct7 Tryd.underlying35 hf
  rw [c_rec] at hl
  rw [c_int] at g0
  rw [c_str] at g1
  rw [c_u64] at g2
  rw [c_deps] at g3
  rw [c_u64] at g4
  rw [c_u64] at g5
  rw [c_str] at g6
  obtain ⟨z0, e0, _, w0⟩ := DataW.trod_int Tryd.underlying3 g0
  obtain ⟨z1, e1, _, w1⟩ := DataW.trod_string Tryd.underlying9 g1
  obtain ⟨z2, e2, _, w2⟩ := DataW.trod_int Tryd.underlying32 g2
  obtain ⟨A, n, c, l, e3, hn, hA, hd, hr⟩ := open_deps g3
  obtain ⟨z4, e4, _, w4⟩ := DataW.trod_int Tryd.underlying32 g4
  obtain ⟨z5, e5, _, w5⟩ := DataW.trod_int Tryd.underlying32 g5
  obtain ⟨z6, e6, _, w6⟩ := DataW.trod_string Tryd.underlying9 g6
  refine ⟨⟨z0, z1.data.toList, z2, z4, z5, z6.data.toList⟩, A, n, c, l, ?_, hn, hA, ⟨by rw [Array.length_toList]; exact w1, by rw [Array.length_toList]; exact w6, hd⟩, hr⟩
  match cs, hl with
  | [c0, c1, c2, c3, c4, c5, c6], _ =>
    have f0 := r_one_at e0
    have f1 := r_one_at e1
    have f2 := r_one_at e2
    have f3 := r_one_at e3
    have f4 := r_one_at e4
    have f5 := r_one_at e5
    have f6 := r_one_at e6
    simp at f0 f1 f2 f3 f4 f5 f6
    subst f0 f1 f2 f3 f4 f5 f6
    unfold rcells
    simp only [r_tx_back]

set_option maxRecDepth 100000 in
theorem open_record {H : Type} {enc : TypeId × Value → H} {W : World} {v : Value} {d : DataW H} {ps : List MemPlace} {r0 : Reach} {b0 : Nat} (hval : Value.okWide Tryd.prog W r0 b0 35 v) (hd : DataW.Trod enc Tryd.prog W 0 (fun _ => true) true 35 v d ps) :
    ∃ (r : Rc) (A : Option Addr) (n c : Nat) (l : List Dp), v = rcv r A n c ∧ n ≤ maxLen ∧ (A = none → c = 0) ∧ Fits r l ∧ Reads W W.heap.size 3 A n (dps l) := by
  obtain ⟨cs, rfl, _⟩ := okWide_struct Tryd.underlying35 hval
  obtain ⟨fuel, hf⟩ := hd
  obtain ⟨r, A, n, c, l, h1, h2, h3, h4, h5⟩ := open_rcells hf
  refine ⟨r, A, n, c, l, ?_, h2, h3, h4, h5⟩
  have : cs = rcells r A n c := by
    apply Array.ext'
    simpa [Value.cells] using h1
  rw [this]
  rfl

end Go.Proofs.YtgioknppnfencaaDoor
