/- What the sum's walk is handed: the table stays, rows of bytes stay, one part, '[]byte(s)'. -/
import Derived.Test.YtgioknppnfencaaDoorCb
namespace Go.Proofs.YtgioknppnfencaaDoor
open Go.RowKit

/-- A row of bytes that was just laid. -/
theorem reads_lit (W : World) (e : TypeId) (bs : List UInt8) (fr : Nat × Nat) : Reads (W.alloc (.cells (bs.map bv).toArray e fr)) (W.heap.size + 1) 1 (some ⟨W.heap.size, 0, none⟩) bs.length (bs.map bv) :=
  ⟨by simp, fun _ => ⟨_, rfl, by simp, fun j u hu => by
    have h0 : Addr.add ⟨W.heap.size, 0, none⟩ j = ⟨W.heap.size, j, none⟩ := by
      unfold Addr.add
      split
      · rename_i h; rw [h]
      · simp
    rw [h0]
    simp only [World.cell?, World.alloc, Array.getElem?_push_size]
    simpa using hu⟩⟩

theorem Laid.below {w w' : World} (h : Laid w) (hb : Below w.heap.size w w') : Laid w' := fun i hi => by
  have h1 := h i hi
  have h2 : 0 < w.heap.size := by
    rcases Nat.lt_or_ge 0 w.heap.size with hlt | hge
    · exact hlt
    · rw [World.cell?, Array.getElem?_eq_none hge] at h1
      cases h1
  exact (hb.cell (p := ⟨0, i, none⟩) h2).trans h1

theorem PRow.below {w w' : World} {B : Nat} {v : Value} {bs : List UInt8} (h : PRow w B v bs) (hb : Below B w w') : PRow w' B v bs := by
  obtain ⟨A, n, c, rfl, h1, h2, hr⟩ := h
  exact ⟨A, n, c, rfl, h1, h2, hr.below hb⟩
theorem PRow.more {w : World} {B B' : Nat} {v : Value} {bs : List UInt8} (h : PRow w B v bs) (hB : B ≤ B') : PRow w B' v bs := by
  obtain ⟨A, n, c, rfl, h1, h2, hr⟩ := h
  exact ⟨A, n, c, rfl, h1, h2, hr.more hB⟩

/-- The sum of one part, in a slice of parts that was just laid. -/
theorem sum_one (W : World) (v : Value) (bs : List UInt8) (hl : Laid W) (hr : PRow W W.heap.size v bs) :
    Calls Tryd.prog 36 #[.slice (some ⟨W.heap.size, 0, none⟩) 1 1] (W.alloc (.cells #[v] 39)) fun e w' => e = .returned (wv (crc bs)) ∧ W.alloc (.cells #[v] 39) = w' := by
  have hb : Below W.heap.size W (W.alloc (.cells #[v] 39)) := (Below.refl _ W).alloc (Nat.le_refl _) _
  have h := sum_any (some ⟨W.heap.size, 0, none⟩) 1 1 [v] [bs] (by omega) (W.alloc (.cells #[v] 39)) (hl.below hb)
    ⟨rfl, fun _ => ⟨_, rfl, by simp, fun j u hu => by
      cases j with
      | zero =>
        have hu' : v = u := by simpa using hu
        subst hu'
        simp [Addr.add]
      | succ j => simp at hu⟩⟩
    ⟨rfl, fun i u hu => by
      cases i with
      | zero =>
        have hu' : v = u := by simpa using hu
        subst hu'
        exact ⟨bs, rfl, (hr.below hb).more (by simp)⟩
      | succ i => simp at hu⟩
  simpa using h

theorem PRows.below {w w' : World} {B : Nat} {vs : List Value} {ps : List (List UInt8)} (h : PRows w B vs ps) (hb : Below B w w') : PRows w' B vs ps :=
  ⟨h.1, fun i v hv => by
    obtain ⟨bs, h1, h2⟩ := h.2 i v hv
    exact ⟨bs, h1, h2.below hb⟩⟩
theorem PRows.more {w : World} {B B' : Nat} {vs : List Value} {ps : List (List UInt8)} (h : PRows w B vs ps) (hB : B ≤ B') : PRows w B' vs ps :=
  ⟨h.1, fun i v hv => by
    obtain ⟨bs, h1, h2⟩ := h.2 i v hv
    exact ⟨bs, h1, h2.more hB⟩⟩

theorem text_row (W : World) (bs : List UInt8) (cap : Nat) (fr : Nat × Nat) (hb : bs.length ≤ 1073741824) (hc : bs.length ≤ cap) :
    PRow (W.alloc (.cells (bytesRow (tx bs) cap) 5 fr)) (W.heap.size + 1) (.slice (some ⟨W.heap.size, 0, none⟩) bs.length cap) bs :=
  ⟨_, _, _, rfl, hc, hb, by simp, fun _ => ⟨_, rfl, by simp, fun j u hu => by
    have h0 : Addr.add ⟨W.heap.size, 0, none⟩ j = ⟨W.heap.size, j, none⟩ := by
      unfold Addr.add
      split
      · rename_i h; rw [h]
      · simp
    have hj : j < bs.length := by
      have := (List.getElem?_eq_some_iff.1 hu).1
      simpa using this
    rw [h0]
    simp only [World.cell?, World.alloc, Array.getElem?_push_size]
    rw [bytesRow_at (tx bs) cap j (by simpa [tx] using hj)]
    rw [List.getElem?_map, List.getElem?_eq_getElem hj] at hu
    have hu' : bv bs[j] = u := by simpa using hu
    rw [← hu']
    rfl⟩⟩

/-- The sum of '[]byte(s)', in a slice of parts that was just laid. -/
theorem text_sum (bs : List UInt8) (hb : bs.length ≤ 1073741824) (W : World) (hl : Laid W) (X : World)
    (hX : X = (W.drew.alloc (.cells (bytesRow (tx bs) (grownCap W (tx bs).size 0 5)) 5 ((bytesRow (tx bs) (grownCap W (tx bs).size 0 5)).size, (bytesRow (tx bs) (grownCap W (tx bs).size 0 5)).size + 1))).alloc (.cells #[.slice (some ⟨W.heap.size, 0, none⟩) (tx bs).size (grownCap W (tx bs).size 0 5)] 39)) :
    Calls Tryd.prog 36 #[.slice (some ⟨W.heap.size + 1, 0, none⟩) 1 1] X fun e w' => e = .returned (wv (crc bs)) ∧ X = w' := by
  have hge := grownCap_ge W (tx bs).size 0 5
  generalize grownCap W (tx bs).size 0 5 = cap at hge hX
  generalize ((bytesRow (tx bs) cap).size, (bytesRow (tx bs) cap).size + 1) = fr at hX
  subst hX
  rw [tx_size] at hge ⊢
  have hrow := text_row W.drew bs cap fr hb hge
  have hld : Laid (W.drew.alloc (.cells (bytesRow (tx bs) cap) 5 fr)) := hl.below ((Below.refl _ W).drew.alloc (by simp) _)
  have h := sum_one (W.drew.alloc (.cells (bytesRow (tx bs) cap) 5 fr)) (.slice (some ⟨W.heap.size, 0, none⟩) bs.length cap) bs hld (hrow.more (by simp))
  have e : (W.drew.alloc (.cells (bytesRow (tx bs) cap) 5 fr)).heap.size = W.heap.size + 1 := by simp
  rw [e] at h
  exact h

end Go.Proofs.YtgioknppnfencaaDoor
