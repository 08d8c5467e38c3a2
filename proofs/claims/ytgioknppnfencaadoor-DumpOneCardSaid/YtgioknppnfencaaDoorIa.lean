/- A table of texts: what it is, and how it lies in memory. -/
import Derived.Maps.OwnSet
import Derived.Shelf.SlMaps.Clone
import Derived.WalkKit
import Derived.Lib.Hide
import Derived.Test.YtgioknppnfencaaDoorProg
import Derived.Test.YtgioknppnfencaaDoorS
import Derived.Test.YtgioknppnfencaaDoorK2
import Derived.Test.YtgioknppnfencaaDoorMw
import Derived.Test.YtgioknppnfencaaDoorItx
namespace Go.Proofs.YtgioknppnfencaaDoor
open Go.RowKit Go.Maps Go.ChangeMaps Go.WideMaps


/-- A text's number; 0 if it isn't there. -/
def tnum (l : List (List UInt8)) (s : List UInt8) : Nat := if s ∈ l then l.idxOf s else 0

theorem tnum_lt {l : List (List UInt8)} {s : List UInt8} (h : s ∈ l) : tnum l s < l.length := by
  rw [tnum, if_pos h]; exact List.idxOf_lt_length_of_mem h
theorem tnum_at {l : List (List UInt8)} {s : List UInt8} (h : s ∈ l) : l[tnum l s]? = some s := by
  rw [tnum, if_pos h]
  rw [List.getElem?_eq_getElem (List.idxOf_lt_length_of_mem h), List.getElem_idxOf]
theorem tnum_of {l : List (List UInt8)} (hd : l.Nodup) {i : Nat} {s : List UInt8} (h : l[i]? = some s) : s ∈ l ∧ tnum l s = i := by
  have hm := List.mem_of_getElem? h
  refine ⟨hm, ?_⟩
  obtain ⟨h1, h2⟩ := List.getElem?_eq_some_iff.1 h
  obtain ⟨h3, h4⟩ := List.getElem?_eq_some_iff.1 (tnum_at hm)
  exact (List.getElem_inj hd).1 (h4.trans h2.symm)

theorem tkey : Keyed Tryd.prog 9 := string_keyed Tryd.underlying9
theorem zeroU (w : World) : (zeroValue 32).run Tryd.prog w = .ok (.int .u64 0) w := by kernel_rfl
def u0 : DataW Nat := .lit (.int .u64 0)

/-- The numbers that the map tells are those of the texts. -/
def NumOf (D : DataW Nat) (l : List (List UInt8)) : Prop :=
  IsMap D ∧ ∀ s : List UInt8, Maps.has D (.string s) = decide (s ∈ l) ∧ D.atKey (.string s) u0 = .lit (.int .u64 (tnum l s : Int))

theorem numOf_nil : NumOf (.map []) [] := ⟨isMap_empty, fun s => ⟨by simp [Maps.has], rfl⟩⟩
theorem numOf_put {D : DataW Nat} {l : List (List UInt8)} {s : List UInt8} (h : NumOf D l) (hs : s ∉ l) : NumOf (D.put (.string s) (.lit (.int .u64 (l.length : Int)))) (l ++ [s]) := by
  refine ⟨h.1.put _ _, fun t => ?_⟩
  by_cases ht : t = s
  · subst ht
    refine ⟨by rw [has_put_same h.1 (k := .string t) (show WideAt.IsKeyLit (.string t) from trivial)]; simp, ?_⟩
    rw [atKey_put_same h.1 (k := .string t) (show WideAt.IsKeyLit (.string t) from trivial)]
    have : tnum (l ++ [t]) t = l.length := by
      rw [tnum, if_pos (by simp), List.idxOf_append, if_neg hs]; simp
    rw [this]
  · have hne : Lit.string t ≠ Lit.string s := fun e => ht (by injection e)
    refine ⟨by rw [has_put_other hne, (h.2 t).1]; simp [ht], ?_⟩
    rw [atKey_put_other hne, (h.2 t).2]
    have : tnum (l ++ [s]) t = tnum l t := by
      by_cases hm : t ∈ l
      · rw [tnum, tnum, if_pos (by simp [hm]), if_pos hm, List.idxOf_append, if_pos hm]
      · rw [tnum, tnum, if_neg (by simp [hm, ht]), if_neg hm]
    rw [this]

/-- Of the texts that come first those behind k are deleted one by one: j are left to delete. -/
def NumTill (D : DataW Nat) (l : List (List UInt8)) (k j : Nat) : Prop :=
  IsMap D ∧ ∀ s : List UInt8, Maps.has D (.string s) = decide (s ∈ l ∧ ¬ (k ≤ tnum l s ∧ tnum l s < j)) ∧ (s ∈ l → ¬ (k ≤ tnum l s ∧ tnum l s < j) → D.atKey (.string s) u0 = .lit (.int .u64 (tnum l s : Int))) ∧ (¬ (s ∈ l ∧ ¬ (k ≤ tnum l s ∧ tnum l s < j)) → D.atKey (.string s) u0 = u0)

theorem numTill_start {D : DataW Nat} {l : List (List UInt8)} (k : Nat) (h : NumOf D l) : NumTill D l k k := by
  refine ⟨h.1, fun s => ⟨by rw [(h.2 s).1]; congr 1; exact propext ⟨fun hh => ⟨hh, by omega⟩, fun hh => hh.1⟩, fun _ _ => (h.2 s).2, fun hn => ?_⟩⟩
  have hm : s ∉ l := fun hm => hn ⟨hm, by omega⟩
  rw [(h.2 s).2, tnum, if_neg hm]; rfl

theorem numTill_step {D : DataW Nat} {l : List (List UInt8)} {k j : Nat} {s : List UInt8} (hd : l.Nodup) (hkj : k ≤ j) (hs : l[j]? = some s) (h : NumTill D l k j) : NumTill (D.del (.string s)) l k (j + 1) := by
  obtain ⟨hsm, hsn⟩ := tnum_of hd hs
  refine ⟨h.1.del _, fun t => ?_⟩
  by_cases ht : t = s
  · subst ht
    refine ⟨by rw [has_del_same, hsn]; symm; rw [decide_eq_false_iff_not]; rintro ⟨_, h2⟩; exact h2 ⟨hkj, by omega⟩, fun _ h2 => absurd ⟨by omega, by omega⟩ h2, fun _ => atKey_del_same _⟩
  · have hne : Lit.string t ≠ Lit.string s := fun e => ht (by injection e)
    obtain ⟨h1, h2, h3⟩ := h.2 t
    have hiff : t ∈ l → ((k ≤ tnum l t ∧ tnum l t < j + 1) ↔ (k ≤ tnum l t ∧ tnum l t < j)) := by
      intro hm
      have : tnum l t ≠ j := by
        intro e
        have h4 := tnum_at hm
        rw [e, hs] at h4
        exact ht (Option.some.inj h4).symm
      omega
    refine ⟨?_, fun hm hn => by rw [atKey_del_other hne]; exact h2 hm (fun hh => hn ((hiff hm).2 hh)), fun hn => by rw [atKey_del_other hne]; exact h3 (fun ⟨hm, hh⟩ => hn ⟨hm, fun h4 => hh ((hiff hm).1 h4)⟩)⟩
    rw [has_del_other hne, h1]
    congr 1
    apply propext
    constructor
    · rintro ⟨hm, hh⟩; exact ⟨hm, fun h4 => hh ((hiff hm).1 h4)⟩
    · rintro ⟨hm, hh⟩; exact ⟨hm, fun h4 => hh ((hiff hm).2 h4)⟩

theorem mem_take_iff {l : List (List UInt8)} (hd : l.Nodup) {k : Nat} {s : List UInt8} : s ∈ l.take k ↔ s ∈ l ∧ tnum l s < k := by
  constructor
  · intro h
    obtain ⟨i, hi⟩ := List.mem_iff_getElem?.1 h
    rw [List.getElem?_take] at hi
    split at hi
    · obtain ⟨h1, h2⟩ := tnum_of hd hi
      exact ⟨h1, by omega⟩
    · cases hi
  · rintro ⟨h1, h2⟩
    have h3 := tnum_at h1
    exact List.mem_of_getElem? (i := tnum l s) (by rw [List.getElem?_take, if_pos h2]; exact h3)
theorem tnum_take {l : List (List UInt8)} (hd : l.Nodup) {k : Nat} {s : List UInt8} (h : s ∈ l.take k) : tnum (l.take k) s = tnum l s := by
  have h1 := tnum_at h
  rw [List.getElem?_take] at h1
  split at h1
  · exact (tnum_of hd h1).2.symm
  · cases h1

theorem numTill_end {D : DataW Nat} {l : List (List UInt8)} {k : Nat} (hd : l.Nodup) (h : NumTill D l k l.length) : NumOf D (l.take k) := by
  refine ⟨h.1, fun s => ?_⟩
  obtain ⟨h1, h2, h3⟩ := h.2 s
  have hiff : (s ∈ l ∧ ¬ (k ≤ tnum l s ∧ tnum l s < l.length)) ↔ s ∈ l.take k := by
    rw [mem_take_iff hd]
    constructor
    · rintro ⟨hm, hh⟩; have := tnum_lt hm; exact ⟨hm, by omega⟩
    · rintro ⟨hm, hh⟩; exact ⟨hm, by omega⟩
  refine ⟨by rw [h1]; congr 1; exact propext hiff, ?_⟩
  by_cases hs : s ∈ l.take k
  · have hm := hiff.2 hs
    rw [h2 hm.1 hm.2, tnum_take hd hs]
  · rw [h3 (fun hh => hs (hiff.1 hh)), tnum, if_neg hs]; rfl

/-- A table lies in block b, and in others of S: its texts, and how many entries its map has had at most. -/
def Tab (w : World) (S : Nat → Prop) (b N : Nat) (l : List (List UInt8)) : Prop :=
  ∃ (L : Option Addr) (c : Nat) (mv : Option Nat), w.heap[b]? = some (.cells #[.slice L l.length c, .map mv] 110 (0, 0)) ∧ S b ∧ w.ownsRow 0 9 1 (.slice L l.length c) l.length (l.map tsv) ∧
    (∀ g, (Value.slice L l.length c).ownBlock = some g → S g) ∧ ((mv = none ∧ l = []) ∨ ∃ (mb : Nat) (D : DataW Nat), mv = some mb ∧ S mb ∧ w.ownsMap Tryd.prog 9 (plainElem Tryd.prog 32) mb N D ∧ NumOf D l) ∧
    l.Nodup ∧ ∀ s ∈ l, s.length ≤ maxLen

theorem map_heap {w w' : World} {b n : Nat} {D : DataW Nat} {k : TypeId} {R : Value → Option (DataW Nat × List MemPlace)} (h : w.ownsMap Tryd.prog k R b n D) (hk : w'.heap[b]? = w.heap[b]?) : w'.ownsMap Tryd.prog k R b n D := by
  obtain ⟨es, clock, hb, r⟩ := h
  exact ⟨es, clock, hk.trans hb, r⟩

/-- It stays where none of its blocks turns. -/
theorem Tab.keep {w w' : World} {S : Nat → Prop} {b N : Nat} {l : List (List UInt8)} (h : Tab w S b N l) (hk : ∀ k, S k → k < w.heap.size → w'.heap[k]? = w.heap[k]?) : Tab w' S b N l := by
  obtain ⟨L, c, mv, h1, h2, h3, h4, h5, h6⟩ := h
  have hb := (Array.getElem?_eq_some_iff.1 h1).1
  refine ⟨L, c, mv, (hk b h2 hb).trans h1, h2, own_heap h3 (fun g hg => hk g (h4 g hg) (own_lt h3 g hg)), h4, ?_, h6⟩
  rcases h5 with h5 | ⟨mb, D, e, hs, hm, hn⟩
  · exact .inl h5
  · exact .inr ⟨mb, D, e, hs, map_heap hm (hk mb hs hm.lt), hn⟩
theorem Tab.turn {w w' : World} {S S2 : Nat → Prop} {b N : Nat} {l : List (List UInt8)} (h : Tab w S b N l) (ht : Turn S2 w w') (hs : ∀ k, S k → k < w.heap.size → ¬ S2 k) : Tab w' S b N l :=
  h.keep fun k h1 h2 => ht.2.2.2.2 k h2 (hs k h1 h2)
theorem Tab.wide {w : World} {S S2 : Nat → Prop} {b N : Nat} {l : List (List UInt8)} (h : Tab w S b N l) (hs : ∀ k, S k → k < w.heap.size → S2 k) : Tab w S2 b N l := by
  obtain ⟨L, c, mv, h1, h2, h3, h4, h5, h6⟩ := h
  refine ⟨L, c, mv, h1, hs b h2 (Array.getElem?_eq_some_iff.1 h1).1, h3, fun g hg => hs g (h4 g hg) (own_lt h3 g hg), ?_, h6⟩
  rcases h5 with h5 | ⟨mb, D, e, hs', hm, hn⟩
  · exact .inl h5
  · exact .inr ⟨mb, D, e, hs mb hs' hm.lt, hm, hn⟩
theorem Tab.more {w : World} {S : Nat → Prop} {b N N' : Nat} {l : List (List UInt8)} (h : Tab w S b N l) (hN : N ≤ N') : Tab w S b N' l := by
  obtain ⟨L, c, mv, h1, h2, h3, h4, h5, h6⟩ := h
  refine ⟨L, c, mv, h1, h2, h3, h4, ?_, h6⟩
  rcases h5 with h5 | ⟨mb, D, e, hs', hm, hn⟩
  · exact .inl h5
  · exact .inr ⟨mb, D, e, hs', hm.mono hN, hn⟩

end Go.Proofs.YtgioknppnfencaaDoor
