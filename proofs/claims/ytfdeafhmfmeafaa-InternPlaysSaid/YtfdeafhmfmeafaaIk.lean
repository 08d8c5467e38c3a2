/- What is done to a table, as it lies in memory; and the way down: a slice of it that came in. -/
import Derived.Test.YtfdeafhmfmeafaaD
import Derived.Test.YtfdeafhmfmeafaaIg
import Derived.Deep.Slices
import Derived.Deep.Strs
namespace Go.Proofs.Ytfdeafhmfmeafaa
open Go.ChangeShapes Go.WideShapes Go.ChangeAt Go.RowKit Go.Deep

/-- What is done, as a value of Go. -/
structure Tk where
  kind : Int
  text : List UInt8
  many : Int

def Tk.cells (t : Tk) : List Value := [.int .i64 t.kind, tsv t.text, .int .i64 t.many]
def tks (l : List Tk) : List Value := l.flatMap Tk.cells
def Tk.fits (t : Tk) : Prop := t.text.length ≤ maxLen

theorem tks_len (l : List Tk) : (tks l).length = l.length * 3 := by
  induction l with
  | nil => rfl
  | cons t l ih => simp [tks, Tk.cells] at *; omega
theorem tks_at : ∀ (l : List Tk) (i : Nat) (t : Tk), l[i]? = some t → (tks l)[i * 3]? = some (.int .i64 t.kind) ∧ (tks l)[i * 3 + 1]? = some (tsv t.text) ∧ (tks l)[i * 3 + 2]? = some (.int .i64 t.many)
  | [], i, t, h => by simp at h
  | a :: l, 0, t, h => by
    have : a = t := by simpa using h
    subst this
    exact ⟨rfl, rfl, rfl⟩
  | a :: l, i + 1, t, h => by
    have := tks_at l i t (by simpa using h)
    have e : ∀ j, (tks (a :: l))[(i + 1) * 3 + j]? = (tks l)[i * 3 + j]? := fun j => by
      show (Tk.cells a ++ tks l)[(i + 1) * 3 + j]? = _
      rw [List.getElem?_append_right (by simp [Tk.cells]; omega)]
      congr 1
      simp [Tk.cells]; omega
    exact ⟨(e 0).trans this.1, (e 1).trans this.2.1, (e 2).trans this.2.2⟩

theorem add_one (a : Addr) (k : Nat) : a.add (k + 1) = ⟨(a.add k).block, (a.add k).off + 1, none⟩ := by
  unfold Addr.add
  by_cases h : k = 0
  · subst h; rfl
  · simp [h, Nat.add_assoc]
theorem add_two (a : Addr) (k : Nat) : a.add (k + 2) = ⟨(a.add k).block, (a.add k).off + 2, none⟩ := by
  unfold Addr.add
  by_cases h : k = 0
  · subst h; rfl
  · simp [h, Nat.add_assoc]

theorem one_at {cs : List Value} {j : Nat} {v : Value} (h : (cs.drop j).take 1 = [v]) : cs[j]? = some v := by
  have := congrArg (fun l : List Value => l[0]?) h
  simpa using this

/-- From each place on there is a call: then there is a row of them. -/
theorem takes_row (W : World) (ad : Addr) : ∀ n : Nat, (∀ i, i < n → ∃ t : Tk, t.fits ∧ W.cell? (ad.add (i * 3)) = some (.int .i64 t.kind) ∧ W.cell? (ad.add (i * 3 + 1)) = some (tsv t.text) ∧ W.cell? (ad.add (i * 3 + 2)) = some (.int .i64 t.many)) →
    ∃ ts : List Tk, ts.length = n ∧ (∀ t ∈ ts, t.fits) ∧ ∀ i t, ts[i]? = some t → W.cell? (ad.add (i * 3)) = some (.int .i64 t.kind) ∧ W.cell? (ad.add (i * 3 + 1)) = some (tsv t.text) ∧ W.cell? (ad.add (i * 3 + 2)) = some (.int .i64 t.many)
  | 0, _ => ⟨[], rfl, by simp, by simp⟩
  | n + 1, h => by
    obtain ⟨ts, h1, h2, h3⟩ := takes_row W ad n (fun i hi => h i (by omega))
    obtain ⟨t, g1, g2⟩ := h n (by omega)
    refine ⟨ts ++ [t], by simp [h1], ?_, ?_⟩
    · intro u hu
      rcases List.mem_append.1 hu with hu | hu
      · exact h2 u hu
      · have : u = t := by simpa using hu
        rw [this]; exact g1
    · intro i u hu
      rcases Nat.lt_or_ge i ts.length with hlt | hge
      · rw [List.getElem?_append_left hlt] at hu
        exact h3 i u hu
      · rw [List.getElem?_append_right hge] at hu
        have hi : i = n := by
          rcases Nat.lt_or_ge (i - ts.length) 1 with h4 | h4
          · omega
          · rw [List.getElem?_eq_none (by simpa using h4)] at hu; cases hu
        subst hi
        rw [h1, Nat.sub_self] at hu
        have : t = u := by simpa using hu
        rw [← this]; exact g2

theorem tks_back : ∀ (l : List Tk) (j : Nat) (u : Value), (tks l)[j]? = some u → ∃ t, l[j / 3]? = some t ∧ ((j % 3 = 0 ∧ u = .int .i64 t.kind) ∨ (j % 3 = 1 ∧ u = tsv t.text) ∨ (j % 3 = 2 ∧ u = .int .i64 t.many))
  | [], j, u, h => by simp [tks] at h
  | a :: l, j, u, h => by
    have e : (Tk.cells a ++ tks l)[j]? = some u := h
    rcases Nat.lt_or_ge j 3 with hlt | hge
    · rw [List.getElem?_append_left (by simp [Tk.cells]; omega)] at e
      refine ⟨a, by rw [show j / 3 = 0 by omega]; rfl, ?_⟩
      obtain rfl | rfl | rfl : j = 0 ∨ j = 1 ∨ j = 2 := by omega
      · exact .inl ⟨rfl, (Option.some.inj e).symm⟩
      · exact .inr (.inl ⟨rfl, (Option.some.inj e).symm⟩)
      · exact .inr (.inr ⟨rfl, (Option.some.inj e).symm⟩)
    · rw [List.getElem?_append_right (by simp [Tk.cells]; omega)] at e
      have e2 : (tks l)[j - 3]? = some u := e
      obtain ⟨t, h1, h2⟩ := tks_back l (j - 3) u e2
      refine ⟨t, by rw [show j / 3 = (j - 3) / 3 + 1 by omega]; simpa using h1, ?_⟩
      rw [show j % 3 = (j - 3) % 3 by omega]
      exact h2

theorem open_acts {H : Type} {enc : TypeId × Value → H} {P : Program} {W : World} {t e : TypeId} {f0 f1 f2 : Field} {v : Value} {d : DataW H} {ps : List MemPlace} {r : Reach} {b0 : Nat} (ht : P.underlying t = some (.slice e)) (he : P.underlying e = some (.struct #[f0, f1, f2])) (hc : P.cellsOf e = 3)
    (u0 : P.underlying f0.type = some (.int .i64)) (u1 : P.underlying f1.type = some .string) (u2 : P.underlying f2.type = some (.int .i64)) (c0 : P.cellsOf f0.type = 1) (c1 : P.cellsOf f1.type = 1) (c2 : P.cellsOf f2.type = 1) (o0 : f0.offset = 0) (o1 : f1.offset = 1) (o2 : f2.offset = 2)
    (hval : Value.okWide P W r b0 t v) (hd : DataW.Trod enc P W 0 (fun _ => true) true t v d ps) :
    ∃ (A : Option Addr) (n c : Nat) (ts : List Tk), v = .slice A n c ∧ n ≤ c ∧ (∀ t ∈ ts, t.fits) ∧ Reads W W.heap.size 3 A n (tks ts) := by
  obtain ⟨a, n, c, rfl⟩ := okWide_slice ht hval
  obtain ⟨fuel, hf⟩ := hd
  rcases Go.Deep.open_slice ht hf with ⟨hcs, _⟩ | ⟨ad, len, cap, m, k, D, Pl, hcs, _, hl, _, hm, _, hi⟩
  · have h0 : Value.slice a n c = .slice none 0 0 := by simpa [Value.cells] using hcs
    cases h0
    exact ⟨none, 0, 0, [], rfl, Nat.le_refl _, by simp, by simp [tks], fun h => absurd h (by omega)⟩
  · have h0 : Value.slice a n c = .slice (some ad) len cap := by simpa [Value.cells] using hcs
    cases h0
    have hnm : n ≤ m := by rw [hm]; simp; exact hl
    have hall : ∀ i, i < n → ∃ t : Tk, t.fits ∧ W.cell? (ad.add (i * 3)) = some (.int .i64 t.kind) ∧ W.cell? (ad.add (i * 3 + 1)) = some (tsv t.text) ∧ W.cell? (ad.add (i * 3 + 2)) = some (.int .i64 t.many) := by
      intro i hin
      obtain ⟨cs, hcell, htr⟩ := hi i (by omega)
      rw [hc] at hcell
      obtain ⟨_, _, hat⟩ := World.cells?_some hcell
      obtain ⟨y0, y1, y2, n', _, _, g0, g1, g2⟩ := trod_struct3 he htr
      rw [c0, o0] at g0
      rw [c1, o1] at g1
      rw [c2, o2] at g2
      obtain ⟨z0, e0, _, _⟩ := DataW.trod_int u0 g0
      obtain ⟨z1, e1, _, w1⟩ := DataW.trod_string u1 g1
      obtain ⟨z2, e2, _, w2⟩ := DataW.trod_int u2 g2
      refine ⟨⟨z0, z1.data.toList, z2⟩, by unfold Tk.fits; rw [Array.length_toList]; exact w1, ?_, ?_, ?_⟩
      · have h := hat 0 (by omega)
        rw [add_of_add, one_at e0] at h
        exact h
      · have h := hat 1 (by omega)
        rw [add_of_add, one_at e1] at h
        show _ = some (tsv z1.data.toList)
        rw [tsv, tx_back0]
        exact h
      · have h := hat 2 (by omega)
        rw [add_of_add, one_at e2] at h
        exact h
    obtain ⟨ts, h1, h2, h3⟩ := takes_row W ad n hall
    refine ⟨some ad, n, c, ts, rfl, hl, h2, by rw [tks_len, h1], fun hn => ⟨ad, rfl, ?_, fun j u hu => ?_⟩⟩
    · obtain ⟨t, _, h4, _⟩ := hall 0 hn
      have := cell_lt h4
      rwa [block_of_add] at this
    · obtain ⟨t, g1, g2⟩ := tks_back ts j u hu
      obtain ⟨q0, q1, q2⟩ := h3 _ t g1
      rcases g2 with ⟨hj, rfl⟩ | ⟨hj, rfl⟩ | ⟨hj, rfl⟩
      · rw [show j / 3 * 3 = j by omega] at q0; exact q0
      · rw [show j / 3 * 3 + 1 = j by omega] at q1; exact q1
      · rw [show j / 3 * 3 + 2 = j by omega] at q2; exact q2

end Go.Proofs.Ytfdeafhmfmeafaa
