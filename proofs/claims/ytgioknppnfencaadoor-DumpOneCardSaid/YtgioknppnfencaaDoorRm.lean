/- record.mayTime, mayTag, named. -/
import Derived.Test.YtgioknppnfencaaDoorRl
import Derived.Test.YtgioknppnfencaaDoorIf0
import Derived.Test.YtgioknppnfencaaDoorMw
import Derived.Test.YtgioknppnfencaaDoorRn0
namespace Go.Proofs.YtgioknppnfencaaDoor
open Go.RowKit

/-- The names of a record's deps. -/
def names (l : List Dp) : List (List UInt8) := l.map Dp.name

def TimeP (v : Int) (r : Rc) : Prop := r.time = 0 ∨ 2 ≤ v
def TagP (v : Int) (r : Rc) : Prop := r.tag = [] ∨ (3 ≤ v ∧ r.tag.length ≤ 64)

set_option maxRecDepth 100000 in
set_option maxHeartbeats 1000000 in
theorem time_any (v : Int) (r : Rc) (A : Option Addr) (n c : Nat) (w : World) :
    Calls Tryd.prog 46 #[.int .i64 v, rcv r A n c] w fun e w' => ∃ q : Bool, (q = true ↔ TimeP v r) ∧ e = .returned (.bool q) ∧ Below w.heap.size w w' := by
  obtain ⟨k, t, u, o, m, g⟩ := r
  by_cases h1 : m = 0
  · subst h1
    have HB := Lib.hid ((Below.refl w.heap.size w).alloc (Nat.le_refl _) (.cells (rcells ⟨k, t, u, o, 0, g⟩ A n c) 35))
    have q5 := at_cell (i := 5) (one_new w (.cells (rcells ⟨k, t, u, o, 0, g⟩ A n c) 35)) rfl
    unfold rcells at HB q5
    unfold rcv rsv
    have HP : Hid (TimeP v ⟨k, t, u, o, 0, g⟩) := .inl rfl
    go_enter Tryd.func46, Tryd.ntmps46
    go_wp2
    go_ret
    first | exact ⟨true, by simp [HP.out], rfl, HB.out⟩ | exact .inr ⟨HP.out, rfl, HB.out⟩ | exact .inl ⟨HP.out, rfl, HB.out⟩
  · have h2 : (m == 0) = false := by rw [beq_eq_false_iff_ne]; exact h1
    have HB := Lib.hid ((Below.refl w.heap.size w).alloc (Nat.le_refl _) (.cells (rcells ⟨k, t, u, o, m, g⟩ A n c) 35))
    have q5 := at_cell (i := 5) (one_new w (.cells (rcells ⟨k, t, u, o, m, g⟩ A n c) 35)) rfl
    unfold rcells at HB q5
    unfold rcv rsv
    have h4 : decide (m = 0) = false := decide_eq_false h1
    by_cases h3 : 2 ≤ v
    · have HP : Hid (TimeP v ⟨k, t, u, o, m, g⟩) := .inr h3
      have h5 : decide (2 ≤ v) = true := decide_eq_true h3
      clear h1
      go_enter Tryd.func46, Tryd.ntmps46
      go_wp2
      go_ret
      first | exact ⟨true, by simp [HP.out], rfl, HB.out⟩ | exact .inr ⟨HP.out, by first | rfl | simp [h3], HB.out⟩ | exact .inl ⟨HP.out, by first | rfl | simp [h3], HB.out⟩
    · have HP : Hid (¬ TimeP v ⟨k, t, u, o, m, g⟩) := fun h => by rcases h with h | h; exact h1 h; exact h3 h
      have h5 : decide (2 ≤ v) = false := decide_eq_false h3
      clear h1
      go_enter Tryd.func46, Tryd.ntmps46
      go_wp2
      go_ret
      first | exact ⟨false, by simp [HP.out], rfl, HB.out⟩ | exact .inl ⟨HP.out, by first | rfl | simp [h3], HB.out⟩ | exact .inr ⟨HP.out, by first | rfl | simp [h3], HB.out⟩

set_option maxRecDepth 100000 in
set_option maxHeartbeats 1000000 in
theorem tag_any (v : Int) (r : Rc) (A : Option Addr) (n c : Nat) (w : World) :
    Calls Tryd.prog 47 #[.int .i64 v, rcv r A n c] w fun e w' => ∃ q : Bool, (q = true ↔ TagP v r) ∧ e = .returned (.bool q) ∧ Below w.heap.size w w' := by
  have HB := Lib.hid ((Below.refl w.heap.size w).alloc (Nat.le_refl _) (.cells (rcells r A n c) 35))
  have q6 := at_cell (i := 6) (one_new w (.cells (rcells r A n c) 35)) rfl
  obtain ⟨k, t, u, o, m, g⟩ := r
  unfold rcells at HB q6
  unfold rcv rsv
  have hs := tx_size0 g
  by_cases h1 : g = []
  · have HP : Hid (TagP v ⟨k, t, u, o, m, g⟩) := .inl h1
    subst h1
    have he : (tx ([] : List UInt8)).toList = [] := by simp [tx]
    go_enter Tryd.func47, Tryd.ntmps47
    go_wp2
    go_ret
    first | exact ⟨true, by simp [HP.out], by first | rfl | simp, HB.out⟩ | exact .inr ⟨HP.out, by first | rfl | simp, HB.out⟩ | exact .inl ⟨HP.out, by first | rfl | simp, HB.out⟩
  · have he := tx_empty g h1
    obtain ⟨x, hx⟩ : ∃ x, x = g.length := ⟨_, rfl⟩
    rw [← hx] at hs
    by_cases h3 : 3 ≤ v
    · by_cases h4 : x ≤ 64
      · have HP : Hid (TagP v ⟨k, t, u, o, m, g⟩) := .inr ⟨h3, hx ▸ h4⟩
        have h5 : decide (3 ≤ v) = true := decide_eq_true h3
        have h6 : decide ((x : Int) ≤ 64) = true := decide_eq_true (by omega)
        clear h1 hx
        go_enter Tryd.func47, Tryd.ntmps47
        go_wp2
        go_ret
        first | exact ⟨true, by simp [HP.out], by first | rfl | simp, HB.out⟩ | exact .inr ⟨HP.out, by first | rfl | simp, HB.out⟩ | exact .inl ⟨HP.out, by first | rfl | simp, HB.out⟩
      · have HP : Hid (¬ TagP v ⟨k, t, u, o, m, g⟩) := fun h => by rcases h with h | h; exact h1 h; exact h4 (hx ▸ h.2)
        have h5 : decide (3 ≤ v) = true := decide_eq_true h3
        have h6 : decide ((x : Int) ≤ 64) = false := decide_eq_false (by omega)
        clear h1 hx
        go_enter Tryd.func47, Tryd.ntmps47
        go_wp2
        go_ret
        first | exact ⟨false, by simp [HP.out], by first | rfl | simp, HB.out⟩ | exact .inl ⟨HP.out, by first | rfl | simp, HB.out⟩ | exact .inr ⟨HP.out, by first | rfl | simp, HB.out⟩
    · have HP : Hid (¬ TagP v ⟨k, t, u, o, m, g⟩) := fun h => by rcases h with h | h; exact h1 h; exact h3 h.1
      have h5 : decide (3 ≤ v) = false := decide_eq_false h3
      clear h1 hx
      go_enter Tryd.func47, Tryd.ntmps47
      go_wp2
      go_ret
      first | exact ⟨false, by simp [HP.out], by first | rfl | simp, HB.out⟩ | exact .inl ⟨HP.out, by first | rfl | simp, HB.out⟩ | exact .inr ⟨HP.out, by first | rfl | simp, HB.out⟩

theorem tab_lt {w : World} {S : Nat → Prop} {b N : Nat} {l : List (List UInt8)} (h : Tab w S b N l) : b < w.heap.size := by
  obtain ⟨L, c, mv, h1, _⟩ := h
  rcases Nat.lt_or_ge b w.heap.size with h2 | h2
  · exact h2
  · rw [Array.getElem?_eq_none h2] at h1; cases h1

def NdRel (w : World) (b : Nat) (t : List UInt8) (ns : List (List UInt8)) (idx : Value) (wr : World) : Prop :=
  ∃ i : Nat, i ≤ ns.length ∧ idx = .int .i64 (i : Int) ∧ Tab wr (fun k => w.heap.size + 2 ≤ k) b (1 + i) (tnew (t :: ns.take i)) ∧ Below w.heap.size w wr ∧ w.heap.size + 2 < wr.heap.size

set_option maxRecDepth 100000 in
set_option maxHeartbeats 1000000 in
theorem named_any (r : Rc) (A : Option Addr) (n c : Nat) (l : List Dp) (hn : n ≤ 1000) (ht : r.target.length ≤ maxLen) (hl : ∀ d ∈ l, d.name.length ≤ maxLen) (w : World) (h : Reads w w.heap.size 3 A n (dps l)) :
    Calls Tryd.prog 61 #[rcv r A n c] w fun e w' => ∃ b, e = .returned (.pointer (some ⟨b, 0, none⟩)) ∧ w.heap.size ≤ b ∧ b < w'.heap.size ∧ Tab w' (fun k => w.heap.size ≤ k) b (1 + n) (tnew (r.target :: names l)) ∧ Below w.heap.size w w' := by
  have HL : Hid (l.length = n) := by have := h.1; rw [dps_len] at this; show _ = _; omega
  have HF := Lib.hid hl
  have H1 := Lib.hid h
  have h0 := one_new w (.cells (rcells r A n c) 35)
  have hb0 := (Below.refl w.heap.size w).alloc (Nat.le_refl _) (.cells (rcells r A n c) 35)
  have q1 := at_cell (i := 1) h0 rfl
  have HNEW := Lib.hid (New_any (some ⟨w.heap.size + 1, 0, none⟩) 1 1 (w.heap.size + 2) [r.target] (by omega) (by simpa using ht) ((w.alloc (.cells (rcells r A n c) 35)).alloc (.cells #[.string (tx r.target)] 9)) (by simp) (by
    have := reads_tsv (w.alloc (.cells (rcells r A n c) 35)) 9 [r.target]
    simpa [tsv] using this))
  have HB0 := Lib.hid hb0
  have H0 := Lib.hid h0
  clear hl h ht h0 hb0
  unfold rcells at *
  unfold rcv rsv
  have hsz : ∀ a b : Obj, ((w.alloc a).alloc b).heap.size = w.heap.size + 2 := fun a b => by simp
  rw [hsz] at HNEW
  clear hsz
  go_enter Tryd.func61, Tryd.ntmps61
  go_wp2_with (go_at_call 72; refine HNEW.out.mono ?_; rintro e w1 ⟨rfl, ht1, hb1⟩; have q3 := (hb1.cell (p := ⟨w.heap.size, 3, none⟩) (show w.heap.size < w.heap.size + 2 by omega)).trans ((World.cell?_alloc_lt _ _ _ (by show w.heap.size < _; simp)).trans (at_cell (i := 3) H0.out rfl)); have HB1 := Lib.hid ((HB0.out.alloc (by simp) _).trans (hb1.mono (by omega))); have HT1 := Lib.hid ht1; have HSZ : Hid (w.heap.size + 2 < w1.heap.size) := tab_lt ht1; clear ht1 hb1)
  go_loopw [13] (fun idx wr => NdRel w (w.heap.size + 2) r.target (names l) idx wr) (fun idx wr => n - (intOf idx).toNat)
  case atStart => exact ⟨0, by omega, rfl, by rw [List.take_zero]; exact HT1.out.wide (fun k hk _ => by omega), HB1.out, HSZ.out⟩
  case round =>
    obtain ⟨i, hi, rfl, htb, hb, hz⟩ := hrel
    have hnl : (names l).length = n := by unfold names; rw [List.length_map]; exact HL.out
    rw [hnl] at hi
    have HTB := Lib.hid htb
    have HBR := Lib.hid hb
    by_cases hlt : i < n
    · obtain ⟨x, hx⟩ : ∃ x, l[i]? = some x := ⟨_, List.getElem?_eq_getElem (by rw [HL.out]; exact hlt)⟩
      obtain ⟨ad, rfl, _, hcx⟩ := (H1.out.below hb).2 (by omega)
      obtain ⟨x0, x1, x2⟩ := dps_at l i x hx
      have k0 := hcx _ _ x0
      have k1 := hcx _ _ x1
      have k2 := hcx _ _ x2
      rw [add_one] at k1
      rw [add_two] at k2
      have htk : (names l).take (i + 1) = (names l).take i ++ [x.name] := by rw [List.take_add_one]; unfold names; rw [List.getElem?_map, hx]; rfl
      have hln : (tnew (r.target :: (names l).take i)).length ≤ 1 + i := by have := tnew_len (r.target :: (names l).take i); rw [List.length_cons, List.length_take] at this; omega
      have hid := ID_any _ (w.heap.size + 2) (1 + i) (tnew (r.target :: (names l).take i)) x.name (HF.out x (List.mem_of_getElem? hx)) (by omega) (by omega) (wr.alloc (.cells #[.string (tx x.name), .int .u64 x.hash, .bool x.order] 56)) (htb.keep (fun k _ hk => Below.heap_alloc _ _ _ hk))
      rw [← tnew_snoc, List.cons_append, ← htk] at hid
      have HID := Lib.hid hid
      have hnb := one_new wr (.cells #[.string (tx x.name), .int .u64 x.hash, .bool x.order] 56)
      have p0 := at_cell (i := 0) hnb rfl
      have hbn := Lib.hid (hb.alloc (by omega) (.cells #[.string (tx x.name), .int .u64 x.hash, .bool x.order] 56))
      have hi0 : (0 : Int) ≤ (i : Int) := by omega
      have hi1 : (i : Int) < (n : Int) := by omega
      obtain ⟨xn, xh, xo⟩ := x
      unfold rsv at k0
      unfold tsv at HID
      simp only at k0 k1 k2 p0 HID hbn
      clear hcx x0 x1 x2 hx htk hln hid htb hb hnb hnl
      go_wp2_with (go_at_call 73; refine HID.out.mono ?_; rintro e w2 ⟨rfl, ht2, htu2⟩)
      have hsz := hbn.out.size
      exact ⟨⟨i + 1, by unfold names; rw [List.length_map, HL.out]; omega, by go_num, (ht2.wide (fun k hk _ => by rcases hk with hk | hk; omega; (have : (wr.alloc (.cells #[.string (tx xn), .int .u64 xh, .bool xo] 56)).heap.size = wr.heap.size + 1 := by simp); omega)).more (by omega), hbn.out.trans (htu2.below (fun k hk => by omega) hsz), by have := htu2.2.2.2.1; simp at this; omega⟩, by simp [intOf]; omega⟩
    · obtain rfl : i = n := by omega
      have hall : (names l).take i = names l := List.take_of_length_le (by omega)
      rw [hall] at HTB
      clear hb htb
      go_wp2
      go_ret
      exact ⟨_, rfl, by omega, by omega, HTB.out.wide (fun k hk _ => by omega), HBR.out⟩

end Go.Proofs.YtgioknppnfencaaDoor
