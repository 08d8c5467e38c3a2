/- A row of texts sorted where it lies; a value stored into a row of one's own; levels by names. -/
import Derived.Laws.IdiomMaps
import Derived.Laws.IdiomCopy
import Derived.WalkKit
import Derived.Sort.OwnSorted
import Derived.Deep.MidRow
import Derived.Test.YtcfmpajdhbcimaaShl
import Derived.Test.YtcfmpajdhbcimaaQc
import Derived.Test.YtcfmpajdhbcimaaWt0
namespace Go.Proofs.Ytcfmpajdhbcimaa
open Go.RowKit Go.Sort Go.Maps Go.ChangeMaps Go.WideMaps

/-- slices.Sort of a row of texts of one's own. -/
theorem sortrow_any (base q : Nat) (v : Value) (ss : List (List UInt8)) (hq : 0 < q) (hq1 : q ≤ 1000000) (w : World) (h : w.ownsRow base 9 1 v q (ss.map tsv)) :
    Calls Try.prog 11 #[v] w fun e w' => e = .returned (.tuple #[]) ∧ w'.ownsRow base 9 1 v q ((srt ss).map tsv) ∧ w.grownBy w' v.ownBlock := by
  have hl : ss.length = q := by have := h.1; simpa using this
  rcases h.2 with ⟨_, h0⟩ | ⟨g, cap, cur, rfl, hbase, hb, h1, h2, h3, h4⟩
  · omega
  · have hH : Holds encStr w g 0 ss.toArray := holds_of_block hb (by
      have h5 := h4
      rw [Nat.mul_one] at h5
      rw [hl]
      exact h5)
    have hgl : g < w.heap.size := (Array.getElem?_eq_some_iff.1 hb).1
    have hc := Go.Proofs.Try.slices_Sort_string g 0 cap ss w hH hgl (by omega)
    rw [hl] at hc
    refine hc.mono ?_
    rintro e w2 ⟨rfl, nn, os, rfl⟩
    refine ⟨rfl, ?_, grownBy_sorted _⟩
    rw [← hl] at h1 ⊢
    exact ownsRow_sorted (by simp) hbase hb h1 h2 h3

/-- A value of one cell stored into a row of one's own. -/
theorem wp_store_rowcell {o : Oper} {a : Act} {w : World} {K : Act → World → Prop} {Q : Exit → Act → World → Prop} (x y : Operand) (ho : o.op = .store 33 x y)
    (g i : Nat) (A : Option Addr) (m c : Nat) (hx : a.eval x = .pointer (some ⟨g, i, none⟩)) (hy : a.eval y = .slice A m c)
    (base n cap : Nat) (ys : List Value) (hown : w.ownsRow base 33 1 (.slice (some ⟨g, 0, none⟩) n cap) n ys) (hi : i < n)
    (h : ∀ w', w'.ownsRow base 33 1 (.slice (some ⟨g, 0, none⟩) n cap) n (ys.set i (.slice A m c)) → w.grownBy w' (some g) → K (a.put o.dst undef) w') : o.wp Try.prog a w K Q := by
  obtain ⟨h1, h2⟩ := hown.stored i (.slice A m c)
  have hl := hown.1
  have hcell : w.cell? ⟨g, i, none⟩ = ys[i]? := hown.cellAt i (by omega)
  have hfr : w.frozen? ⟨g, i, none⟩ = false := hown.frozenAt i
  have hsome : ys[i]? = some ys[i] := List.getElem?_eq_getElem (by omega)
  rw [hsome] at hcell
  unfold Oper.wp execOp
  simp only [ho, hx, hy]
  go_simp
  exact h _ h1 h2
theorem own_pos {w : World} {base size n : Nat} {e : TypeId} {v : Value} {xs : List Value} (h : w.ownsRow base e size v n xs) (hn : 0 < n) : ∃ g cap, v = .slice (some ⟨g, 0, none⟩) n cap ∧ base ≤ g ∧ g < w.heap.size := by
  rcases h.2 with ⟨_, h0⟩ | ⟨g, cap, _, rfl, hb, hg, _⟩
  · omega
  · exact ⟨g, cap, rfl, hb, (Array.getElem?_eq_some_iff.1 hg).1⟩
theorem own_cellq {w : World} {base size g n cap : Nat} {e : TypeId} {xs : List Value} {u : Value} (h : w.ownsRow base e size (.slice (some ⟨g, 0, none⟩) n cap) n xs) (j : Nat) (hu : xs[j]? = some u) : w.cell? ⟨g, j, none⟩ = some u := by
  have h1 := h.cells (g := g) rfl j u hu
  rwa [Addr.add_mid, Nat.zero_add] at h1
theorem info_rows : (Try.prog.info? 33).map (fun i => (i.zero, i.size, i.bytes)) = some (some (.slice none 0 0), 1, 24) := by kernel_rfl
theorem info_textq : (Try.prog.info? 9).map (fun i => (i.zero, i.size, i.bytes)) = some (some (.string ⟨#[]⟩), 1, 16) := by kernel_rfl

/-- Levels of the first names. -/
def levF (l : List Nd) (i : Nat) : List UInt8 → Option Value := fun s => if s ∈ (nmO l).take i then some (.int .i64 (lev l s : Nat)) else none
theorem levF_start (l : List Nd) (u : List UInt8) : (fun _ => none : List UInt8 → Option Value) u = levF l 0 u := by simp [levF]
theorem levF_step {l : List Nd} {i : Nat} {a : List UInt8} (h : (nmO l)[i]? = some a) (u : List UInt8) : fput (levF l i) a (.int .i64 (lev l a : Nat)) u = levF l (i + 1) u := by
  unfold fput levF
  rw [List.take_add_one, h]
  by_cases e : u = a
  · subst e
    rw [if_pos rfl, if_pos (by simp)]
  · rw [if_neg e]
    have : u ∈ (nmO l).take i ++ (some a).toList ↔ u ∈ (nmO l).take i := by simp [e]
    simp only [this]
theorem levF_get {l : List Nd} {i : Nat} {s : List UInt8} {z : Value} (h : s ∈ (nmO l).take i) : (levF l i s).getD z = .int .i64 (lev l s : Nat) := by
  unfold levF
  rw [if_pos h]
  rfl
theorem mem_ahead {P : List (List UInt8)} {i : Nat} {s : List UInt8} (h : s ∈ P) (hi : P.idxOf s < i) : s ∈ P.take i := by
  refine List.mem_of_getElem? (i := P.idxOf s) ?_
  rw [List.getElem?_take, if_pos hi]
  exact at_idx h
theorem lev_lt {l : List Nd} {i : Nat} {s : List UInt8} (h : s ∈ (nmO l).take i) : lev l s < wvN l i := levOf_ge h

end Go.Proofs.Ytcfmpajdhbcimaa
