/- Texts of one proof, one behind the other. -/
import Derived.Test.YtidkahmjjknkmaaMh6
import Derived.Test.YtidkahmjjknkmaaMh3
import Derived.Test.YtidkahmjjknkmaaMh4
import Derived.Laws.StructEq

/- What a table answers where a text is there; texts in memory; what a table has. -/
namespace Go.Proofs.Ytidkahmjjknkmaa
open Go.RowKit Go.Maps Go.ChangeMaps Go.WideMaps

set_option maxRecDepth 100000 in
set_option maxHeartbeats 400000 in
theorem ID_in (S : Nat → Prop) (b N : Nat) (l : List (List UInt8)) (s : List UInt8) (hin : s ∈ l) (w : World) (h : Tab w S b N l) :
    Calls Try.prog 20 #[.pointer (some ⟨b, 0, none⟩), tsv s] w fun e w' => e = .returned (.tuple #[.int .u64 (tnum l s : Int), .bool false]) ∧ w = w' := by
  have hnum : Hid (Calls Try.prog 39 #[.pointer (some ⟨b, 0, none⟩), tsv s] w fun e w' => e = .returned (.tuple #[.int .u64 (tnum l s : Int), .bool false]) ∧ w = w') := by
    show Calls _ _ _ _ _
    obtain ⟨L, c, mv, h1, hSb, h3, h4, h5, hnd, hlen⟩ := h
    have hc1 : w.cell? ⟨b, 1, none⟩ = some (.map mv) := field_cell h1 rfl
    have hkey := tkeyOf (hlen s hin)
    unfold tsv at hkey ⊢
    obtain ⟨mb, D, rfl, hSm, hm, hn⟩ : ∃ (mb : Nat) (D : DataW Nat), mv = some mb ∧ S mb ∧ w.ownsMap Try.prog 9 (plainElem Try.prog 23) mb N D ∧ NumOf D l := by
      rcases h5 with ⟨_, e⟩ | h5
      · rw [e] at hin; simp at hin
      · exact h5
    obtain ⟨e1, e2⟩ := hn.2 s
    rw [decide_eq_true hin] at e1
    have E2 := Lib.hid e2
    clear e2 h1 h3 h4 h5 hnd hlen hin
    go_enter Try.func39, Try.ntmps39
    go_wp2_with (at_lookup; refine wpList_lookup_own_ok_int _ rfl _ _ 56 rfl 9 23 .u64 tkey Try.underlying56 Try.underlying23 (zeroU _) mb N D rfl hm _ _ rfl hkey ?_; intro cv hat hwc)
    go_ret2
    have e3 := E2.out
    unfold u0 at e3
    rw [e3] at hat
    have : cv = (tnum l s : Int) := by injection hat with hat; injection hat with _ hat; exact hat.symm
    rw [this]
    exact ⟨rfl, rfl⟩
  unfold tsv at hnum ⊢
  clear h hin
  go_enter Try.func20, Try.ntmps20
  go_wp2_with (first
    | (go_at_call 38; refine (all_any b _).mono ?_; rintro e w1 ⟨rfl, rfl⟩)
    | (go_at_call 39; refine hnum.out.mono ?_; rintro e w1 ⟨rfl, rfl⟩))
  go_ret2
  exact ⟨rfl, rfl⟩

theorem reads_tsv (W : World) (e : TypeId) (ts : List (List UInt8)) : Reads (W.alloc (.cells (ts.map tsv).toArray e)) (W.heap.size + 1) 1 (some ⟨W.heap.size, 0, none⟩) ts.length (ts.map tsv) :=
  ⟨by simp, fun _ => ⟨_, rfl, by simp, fun j u hu => by
    have h0 : Addr.add ⟨W.heap.size, 0, none⟩ j = ⟨W.heap.size, j, none⟩ := by
      unfold Addr.add
      split
      · rename_i h; rw [h]
      · simp
    rw [h0]
    simp only [World.cell?, World.alloc, Array.getElem?_push_size]
    simpa using hu⟩⟩

theorem tput_mem {l : List (List UInt8)} {s t : List UInt8} (h : t ∈ l ∨ t = s) : t ∈ tput l s := by
  unfold tput
  split
  · rename_i hs
    rcases h with h | rfl
    · exact h
    · exact hs
  · rcases h with h | rfl <;> simp [*]
theorem tfold_mem : ∀ (ts l : List (List UInt8)) (s : List UInt8), s ∈ l ∨ s ∈ ts → s ∈ ts.foldl tput l
  | [], l, s, h => by simpa using h
  | t :: ts, l, s, h => tfold_mem ts (tput l t) s (by
    rcases h with h | h
    · exact .inl (tput_mem (.inl h))
    · rcases List.mem_cons.1 h with h | h
      · exact .inl (tput_mem (.inr h))
      · exact .inr h)
theorem tnew_mem {ts : List (List UInt8)} {s : List UInt8} (h : s ∈ ts) : s ∈ tnew ts := tfold_mem ts [] s (.inr h)
theorem tnum_inj {l : List (List UInt8)} {s u : List UInt8} (hs : s ∈ l) (hu : u ∈ l) (h : tnum l s = tnum l u) : s = u := by
  have h1 := tnum_at hs
  have h2 := tnum_at hu
  rw [h, h2] at h1
  exact (Option.some.inj h1).symm

theorem tnum_snoc {l : List (List UInt8)} {s : List UInt8} (h : s ∉ l) : tnum (l ++ [s]) s = l.length := by
  unfold tnum
  rw [if_pos (by simp), List.idxOf_append, if_neg h]
  simp

end Go.Proofs.Ytidkahmjjknkmaa

/- record.mayTime, mayTag, named. -/
namespace Go.Proofs.Ytidkahmjjknkmaa
open Go.RowKit

/-- The names of a record's deps. -/
def names (l : List Dp) : List (List UInt8) := l.map Dp.name

def TimeP (v : Int) (r : Rc) : Prop := r.time = 0 ∨ 2 ≤ v
def TagP (v : Int) (r : Rc) : Prop := r.tag = [] ∨ (3 ≤ v ∧ r.tag.length ≤ 64)

set_option maxRecDepth 100000 in
set_option maxHeartbeats 1000000 in
theorem time_any (v : Int) (r : Rc) (A : Option Addr) (n c : Nat) (w : World) :
    Calls Try.prog 41 #[.int .i64 v, rcv r A n c] w fun e w' => ∃ q : Bool, (q = true ↔ TimeP v r) ∧ e = .returned (.bool q) ∧ Below w.heap.size w w' := by
  obtain ⟨k, t, u, o, m, g⟩ := r
  by_cases h1 : m = 0
  · subst h1
    have HB := Lib.hid ((Below.refl w.heap.size w).alloc (Nat.le_refl _) (.cells (rcells ⟨k, t, u, o, 0, g⟩ A n c) 26))
    have q5 := at_cell (i := 5) (one_new w (.cells (rcells ⟨k, t, u, o, 0, g⟩ A n c) 26)) rfl
    unfold rcells at HB q5
    unfold rcv rsv
    have HP : Hid (TimeP v ⟨k, t, u, o, 0, g⟩) := .inl rfl
    go_enter Try.func41, Try.ntmps41
    go_wp2
    go_ret
    first | exact ⟨true, by simp [HP.out], rfl, HB.out⟩ | exact .inr ⟨HP.out, rfl, HB.out⟩ | exact .inl ⟨HP.out, rfl, HB.out⟩
  · have h2 : (m == 0) = false := by rw [beq_eq_false_iff_ne]; exact h1
    have HB := Lib.hid ((Below.refl w.heap.size w).alloc (Nat.le_refl _) (.cells (rcells ⟨k, t, u, o, m, g⟩ A n c) 26))
    have q5 := at_cell (i := 5) (one_new w (.cells (rcells ⟨k, t, u, o, m, g⟩ A n c) 26)) rfl
    unfold rcells at HB q5
    unfold rcv rsv
    have h4 : decide (m = 0) = false := decide_eq_false h1
    by_cases h3 : 2 ≤ v
    · have HP : Hid (TimeP v ⟨k, t, u, o, m, g⟩) := .inr h3
      have h5 : decide (2 ≤ v) = true := decide_eq_true h3
      clear h1
      go_enter Try.func41, Try.ntmps41
      go_wp2
      go_ret
      first | exact ⟨true, by simp [HP.out], rfl, HB.out⟩ | exact .inr ⟨HP.out, by first | rfl | simp [h3], HB.out⟩ | exact .inl ⟨HP.out, by first | rfl | simp [h3], HB.out⟩
    · have HP : Hid (¬ TimeP v ⟨k, t, u, o, m, g⟩) := fun h => by rcases h with h | h; exact h1 h; exact h3 h
      have h5 : decide (2 ≤ v) = false := decide_eq_false h3
      clear h1
      go_enter Try.func41, Try.ntmps41
      go_wp2
      go_ret
      first | exact ⟨false, by simp [HP.out], rfl, HB.out⟩ | exact .inl ⟨HP.out, by first | rfl | simp [h3], HB.out⟩ | exact .inr ⟨HP.out, by first | rfl | simp [h3], HB.out⟩

set_option maxRecDepth 100000 in
set_option maxHeartbeats 1000000 in
theorem tag_any (v : Int) (r : Rc) (A : Option Addr) (n c : Nat) (w : World) :
    Calls Try.prog 42 #[.int .i64 v, rcv r A n c] w fun e w' => ∃ q : Bool, (q = true ↔ TagP v r) ∧ e = .returned (.bool q) ∧ Below w.heap.size w w' := by
  have HB := Lib.hid ((Below.refl w.heap.size w).alloc (Nat.le_refl _) (.cells (rcells r A n c) 26))
  have q6 := at_cell (i := 6) (one_new w (.cells (rcells r A n c) 26)) rfl
  obtain ⟨k, t, u, o, m, g⟩ := r
  unfold rcells at HB q6
  unfold rcv rsv
  have hs := tx_size0 g
  by_cases h1 : g = []
  · have HP : Hid (TagP v ⟨k, t, u, o, m, g⟩) := .inl h1
    subst h1
    have he : (tx ([] : List UInt8)).toList = [] := by simp [tx]
    go_enter Try.func42, Try.ntmps42
    go_wp2
    go_ret
    first | exact ⟨true, by simp [HP.out], by first | rfl | simp, HB.out⟩ | exact .inr ⟨HP.out, by first | rfl | simp, HB.out⟩ | exact .inl ⟨HP.out, by first | rfl | simp, HB.out⟩
  · have he := tx_empty g h1
    obtain ⟨x, hx⟩ : ∃ x, x = g.length := ⟨_, rfl⟩
    rw [← hx] at hs
    by_cases h3 : 3 ≤ v
    · by_cases h4 : x ≤ 64
      · have HP : Hid (TagP v ⟨k, t, u, o, m, g⟩) := .inr ⟨h3, hx ▸ h4⟩
        have h5 : decide (3 ≤ v) = true := decide_eq_true h3
        have h6 : decide ((x : Int) ≤ 64) = true := decide_eq_true (by omega)
        clear h1 hx
        go_enter Try.func42, Try.ntmps42
        go_wp2
        go_ret
        first | exact ⟨true, by simp [HP.out], by first | rfl | simp, HB.out⟩ | exact .inr ⟨HP.out, by first | rfl | simp, HB.out⟩ | exact .inl ⟨HP.out, by first | rfl | simp, HB.out⟩
      · have HP : Hid (¬ TagP v ⟨k, t, u, o, m, g⟩) := fun h => by rcases h with h | h; exact h1 h; exact h4 (hx ▸ h.2)
        have h5 : decide (3 ≤ v) = true := decide_eq_true h3
        have h6 : decide ((x : Int) ≤ 64) = false := decide_eq_false (by omega)
        clear h1 hx
        go_enter Try.func42, Try.ntmps42
        go_wp2
        go_ret
        first | exact ⟨false, by simp [HP.out], by first | rfl | simp, HB.out⟩ | exact .inl ⟨HP.out, by first | rfl | simp, HB.out⟩ | exact .inr ⟨HP.out, by first | rfl | simp, HB.out⟩
    · have HP : Hid (¬ TagP v ⟨k, t, u, o, m, g⟩) := fun h => by rcases h with h | h; exact h1 h; exact h3 h.1
      have h5 : decide (3 ≤ v) = false := decide_eq_false h3
      clear h1 hx
      go_enter Try.func42, Try.ntmps42
      go_wp2
      go_ret
      first | exact ⟨false, by simp [HP.out], by first | rfl | simp, HB.out⟩ | exact .inl ⟨HP.out, by first | rfl | simp, HB.out⟩ | exact .inr ⟨HP.out, by first | rfl | simp, HB.out⟩

theorem tab_lt {w : World} {S : Nat → Prop} {b N : Nat} {l : List (List UInt8)} (h : Tab w S b N l) : b < w.heap.size := by
  obtain ⟨L, c, mv, h1, _⟩ := h
  rcases Nat.lt_or_ge b w.heap.size with h2 | h2
  · exact h2
  · rw [Array.getElem?_eq_none h2] at h1; cases h1

def NdRel (w : World) (b : Nat) (t : List UInt8) (ns : List (List UInt8)) (idx : Value) (wr : World) : Prop :=
  ∃ i : Nat, i ≤ ns.length ∧ idx = .int .i64 (i : Int) ∧ Tab wr (fun k => w.heap.size + 2 ≤ k) b (1 + i) (tnew (t :: ns.take i)) ∧ Below w.heap.size w wr ∧ w.heap.size + 2 < wr.heap.size

set_option maxRecDepth 100000 in
set_option maxHeartbeats 1000000 in
theorem named_any (r : Rc) (A : Option Addr) (n c : Nat) (l : List Dp) (hn : n ≤ 1000) (ht : r.target.length ≤ maxLen) (hl : ∀ d ∈ l, d.name.length ≤ maxLen) (w : World) (h : Reads w w.heap.size 3 A n (dps l)) :
    Calls Try.prog 69 #[rcv r A n c] w fun e w' => ∃ b, e = .returned (.pointer (some ⟨b, 0, none⟩)) ∧ w.heap.size ≤ b ∧ b < w'.heap.size ∧ Tab w' (fun k => w.heap.size ≤ k) b (1 + n) (tnew (r.target :: names l)) ∧ Below w.heap.size w w' := by
  have HL : Hid (l.length = n) := by have := h.1; rw [dps_len] at this; show _ = _; omega
  have HF := Lib.hid hl
  have H1 := Lib.hid h
  have h0 := one_new w (.cells (rcells r A n c) 26)
  have hb0 := (Below.refl w.heap.size w).alloc (Nat.le_refl _) (.cells (rcells r A n c) 26)
  have q1 := at_cell (i := 1) h0 rfl
  have HNEW := Lib.hid (New_any (some ⟨w.heap.size + 1, 0, none⟩) 1 1 (w.heap.size + 2) [r.target] (by omega) (by simpa using ht) ((w.alloc (.cells (rcells r A n c) 26)).alloc (.cells #[.string (tx r.target)] 9)) (by simp) (by
    have := reads_tsv (w.alloc (.cells (rcells r A n c) 26)) 9 [r.target]
    simpa [tsv] using this))
  have HB0 := Lib.hid hb0
  have H0 := Lib.hid h0
  clear hl h ht h0 hb0
  unfold rcells at *
  unfold rcv rsv
  have hsz : ∀ a b : Obj, ((w.alloc a).alloc b).heap.size = w.heap.size + 2 := fun a b => by simp
  rw [hsz] at HNEW
  clear hsz
  go_enter Try.func69, Try.ntmps69
  go_wp2_with (go_at_call 9; refine HNEW.out.mono ?_; rintro e w1 ⟨rfl, ht1, hb1⟩; have q3 := (hb1.cell (p := ⟨w.heap.size, 3, none⟩) (show w.heap.size < w.heap.size + 2 by omega)).trans ((World.cell?_alloc_lt _ _ _ (by show w.heap.size < _; simp)).trans (at_cell (i := 3) H0.out rfl)); have HB1 := Lib.hid ((HB0.out.alloc (by simp) _).trans (hb1.mono (by omega))); have HT1 := Lib.hid ht1; have HSZ : Hid (w.heap.size + 2 < w1.heap.size) := tab_lt ht1; clear ht1 hb1)
  go_loopw [13] (fun idx wr => NdRel w (w.heap.size + 2) r.target (names l) idx wr) (fun idx wr => n - (intOf idx).toNat)
  case atStart => exact ⟨0, by omega, rfl, by rw [List.take_zero]; exact HT1.out.wide (fun k hk _ => by omega), HB1.out, HSZ.out⟩
  case round =>
    obtain ⟨i, hi, rfl, htb, hb, hz⟩ := hrel
    have hnl : (names l).length = n := by unfold names; rw [List.length_map]; exact HL.out
    rw [hnl] at hi
    have HTB := Lib.hid htb
    have HBR := Lib.hid hb
    by_cases hlt : i < n
    · obtain ⟨x, hx⟩ : ∃ x, l[i]? = some x := ⟨_, List.getElem?_eq_getElem (by rw [HL.out]; exact hlt)⟩
      obtain ⟨ad, rfl, _, hcx⟩ := (H1.out.below hb).2 (by omega)
      obtain ⟨x0, x1, x2⟩ := dps_at l i x hx
      have k0 := hcx _ _ x0
      have k1 := hcx _ _ x1
      have k2 := hcx _ _ x2
      rw [add_one] at k1
      rw [add_two] at k2
      have htk : (names l).take (i + 1) = (names l).take i ++ [x.name] := by rw [List.take_add_one]; unfold names; rw [List.getElem?_map, hx]; rfl
      have hln : (tnew (r.target :: (names l).take i)).length ≤ 1 + i := by have := tnew_len (r.target :: (names l).take i); rw [List.length_cons, List.length_take] at this; omega
      have hid := ID_any _ (w.heap.size + 2) (1 + i) (tnew (r.target :: (names l).take i)) x.name (HF.out x (List.mem_of_getElem? hx)) (by omega) (by omega) (wr.alloc (.cells #[.string (tx x.name), .int .u64 x.hash, .bool x.order] 55)) (htb.keep (fun k _ hk => Below.heap_alloc _ _ _ hk))
      rw [← tnew_snoc, List.cons_append, ← htk] at hid
      have HID := Lib.hid hid
      have hnb := one_new wr (.cells #[.string (tx x.name), .int .u64 x.hash, .bool x.order] 55)
      have p0 := at_cell (i := 0) hnb rfl
      have hbn := Lib.hid (hb.alloc (by omega) (.cells #[.string (tx x.name), .int .u64 x.hash, .bool x.order] 55))
      have hi0 : (0 : Int) ≤ (i : Int) := by omega
      have hi1 : (i : Int) < (n : Int) := by omega
      obtain ⟨xn, xh, xo⟩ := x
      unfold rsv at k0
      unfold tsv at HID
      simp only at k0 k1 k2 p0 HID hbn
      clear hcx x0 x1 x2 hx htk hln hid htb hb hnb hnl
      go_wp2_with (go_at_call 20; refine HID.out.mono ?_; rintro e w2 ⟨rfl, ht2, htu2⟩)
      have hsz := hbn.out.size
      exact ⟨⟨i + 1, by unfold names; rw [List.length_map, HL.out]; omega, by go_num, (ht2.wide (fun k hk _ => by rcases hk with hk | hk; omega; (have : (wr.alloc (.cells #[.string (tx xn), .int .u64 xh, .bool xo] 55)).heap.size = wr.heap.size + 1 := by simp); omega)).more (by omega), hbn.out.trans (htu2.below (fun k hk => by omega) hsz), by have := htu2.2.2.2.1; simp at this; omega⟩, by simp [intOf]; omega⟩
    · obtain rfl : i = n := by omega
      have hall : (names l).take i = names l := List.take_of_length_le (by omega)
      rw [hall] at HTB
      clear hb htb
      go_wp2
      go_ret
      exact ⟨_, rfl, by omega, by omega, HTB.out.wide (fun k hk _ => by omega), HBR.out⟩

end Go.Proofs.Ytidkahmjjknkmaa

/- Name, in record. -/
namespace Go.Proofs.Ytidkahmjjknkmaa
open Go.RowKit

def isName (t : List UInt8) : Bool := decide (1 ≤ t.length ∧ t.length ≤ 64)

set_option maxRecDepth 100000 in
set_option maxHeartbeats 400000 in
theorem name_any (t : List UInt8) (w : World) : Calls Try.prog 40 #[rsv t] w fun e w' => e = .returned (.bool (isName t)) ∧ w = w' := by
  unfold rsv
  have hsz := tx_size0 t
  by_cases h0 : t = []
  · subst h0
    have he : (tx ([] : List UInt8)).toList = [] := by simp [tx]
    go_enter Try.func40, Try.ntmps40
    go_wp2
    go_ret
    exact ⟨rfl, rfl⟩
  · have h1 := tx_empty t h0
    have hl : 1 ≤ t.length := by
      rcases t with _ | ⟨a, t⟩
      · exact absurd rfl h0
      · simp
    obtain ⟨n, hn⟩ : ∃ n, n = t.length := ⟨_, rfl⟩
    rw [← hn] at hsz hl
    by_cases h2 : n ≤ 64
    · have hi : Hid (isName t = true) := by show isName t = true; unfold isName; rw [← hn]; exact decide_eq_true ⟨hl, h2⟩
      clear hn h0
      go_enter Try.func40, Try.ntmps40
      go_wp2
      go_ret
      exact ⟨by rw [hi.out]; first | rfl | (congr 2; simp; omega), rfl⟩
    · have hi : Hid (isName t = false) := by show isName t = false; unfold isName; rw [← hn]; exact decide_eq_false (by omega)
      have h3 : decide ((n : Int) ≤ 64) = false := by rw [decide_eq_false_iff_not]; omega
      clear hn h0
      go_enter Try.func40, Try.ntmps40
      go_wp2
      go_ret
      exact ⟨by rw [hi.out]; first | rfl | (congr 2; simp; omega), rfl⟩

end Go.Proofs.Ytidkahmjjknkmaa

/- record.mayDeps. -/
namespace Go.Proofs.Ytidkahmjjknkmaa
open Go.RowKit

theorem tfold_nodup : ∀ (ts l : List (List UInt8)), l.Nodup → ((ts.foldl tput l).length = l.length + ts.length ↔ ts.Nodup ∧ ∀ s ∈ ts, s ∉ l)
  | [], l, _ => by simp
  | s :: ts, l, hl => by
    rw [List.foldl_cons, List.nodup_cons]
    by_cases hs : s ∈ l
    · rw [tput_in hs]
      have := tfold_len ts l
      refine ⟨fun h => ?_, fun h => absurd hs (h.2 s (by simp))⟩
      simp at h; omega
    · have ih := tfold_nodup ts (tput l s) (tput_nodup hl)
      rw [tput_new hs] at ih ⊢
      simp only [List.length_append, List.length_cons, List.length_nil, List.mem_append, List.mem_cons, List.not_mem_nil, or_false] at ih ⊢
      rw [show l.length + (ts.length + 1) = l.length + (0 + 1) + ts.length by omega, ih]
      constructor
      · rintro ⟨h1, h2⟩
        refine ⟨⟨fun h => h2 s h (.inr rfl), h1⟩, ?_⟩
        rintro t (rfl | ht)
        · exact hs
        · exact fun h => h2 t ht (.inl h)
      · rintro ⟨⟨h1, h2⟩, h3⟩
        refine ⟨h2, fun t ht h => ?_⟩
        rcases h with h | h
        · exact h3 t (.inr ht) h
        · subst h; exact h1 ht
theorem tnew_nodup (ts : List (List UInt8)) : (tnew ts).length = ts.length ↔ ts.Nodup := by
  have := tfold_nodup ts [] List.nodup_nil
  simpa [tnew] using this

def DepP (v : Int) (d : Dp) : Prop := isName d.name = true ∧ (d.order = true → 3 ≤ v)
def DepsP (v : Int) (r : Rc) (l : List Dp) : Prop := l.length ≤ 16 ∧ (∀ d ∈ l, DepP v d) ∧ (r.target :: names l).Nodup

def MdRel (v : Int) (w : World) (o : Obj) (l : List Dp) (idx : Value) (wr : World) : Prop :=
  ∃ i : Nat, i ≤ l.length ∧ idx = .int .i64 (i : Int) ∧ (∀ d ∈ l.take i, DepP v d) ∧ Below w.heap.size w wr ∧ wr.heap[w.heap.size]? = some o ∧ w.heap.size < wr.heap.size

set_option maxRecDepth 100000 in
set_option maxHeartbeats 1000000 in
theorem deps_any (v : Int) (r : Rc) (A : Option Addr) (n c : Nat) (l : List Dp) (hn : n ≤ 1000) (ht : r.target.length ≤ maxLen) (hl : ∀ d ∈ l, d.name.length ≤ maxLen) (w : World) (h : Reads w w.heap.size 3 A n (dps l)) :
    Calls Try.prog 43 #[.int .i64 v, rcv r A n c] w fun e w' => Tells (DepsP v r l) e ∧ Below w.heap.size w w' := by
  have HL : Hid (l.length = n) := by have := h.1; rw [dps_len] at this; show _ = _; omega
  have HF := Lib.hid hl
  have HT := Lib.hid ht
  have H1 := Lib.hid h
  have h0 := one_new w (.cells (rcells r A n c) 26)
  have hb0 := (Below.refl w.heap.size w).alloc (Nat.le_refl _) (.cells (rcells r A n c) 26)
  have q3 := at_cell (i := 3) h0 rfl
  have HB0 := Lib.hid hb0
  have H0 := Lib.hid h0
  have HS0 : Hid (w.heap.size < (w.alloc (.cells (rcells r A n c) 26)).heap.size) := by show w.heap.size < _; simp
  clear hl h ht h0 hb0
  by_cases h16 : n ≤ 16
  · have d16 : decide ((n : Int) > 16) = false := decide_eq_false (by omega)
    unfold rcells at *
    unfold rcv rsv
    go_enter Try.func43, Try.ntmps43
    go_wp2
    go_loopw [14] (fun idx wr => MdRel v w (.cells (rcells r A n c) 26) l idx wr) (fun idx wr => n - (intOf idx).toNat)
    case atStart => exact ⟨0, by omega, rfl, by simp, HB0.out, H0.out, HS0.out⟩
    case round =>
      obtain ⟨i, hi, rfl, hok, hb, hbx, hz⟩ := hrel
      have HOK := Lib.hid hok
      have HBR := Lib.hid hb
      have HBX := Lib.hid hbx
      have HZ := Lib.hid hz
      rw [HL.out] at hi
      by_cases hlt : i < n
      · obtain ⟨x, hx⟩ : ∃ x, l[i]? = some x := ⟨_, List.getElem?_eq_getElem (by rw [HL.out]; exact hlt)⟩
        obtain ⟨ad, rfl, _, hcx⟩ := (H1.out.below hb).2 (by omega)
        obtain ⟨x0, x1, x2⟩ := dps_at l i x hx
        have k0 := hcx _ _ x0
        have k1 := hcx _ _ x1
        have k2 := hcx _ _ x2
        rw [add_one] at k1
        rw [add_two] at k2
        have hnb := one_new wr (.cells #[.string (tx x.name), .int .u64 x.hash, .bool x.order] 55)
        have p0 := at_cell (i := 0) hnb rfl
        have p1 := at_cell (i := 1) hnb rfl
        have p2 := at_cell (i := 2) hnb rfl
        have hbn := Lib.hid (hb.alloc (by omega) (.cells #[.string (tx x.name), .int .u64 x.hash, .bool x.order] 55))
        have hbxn := Lib.hid ((Below.heap_alloc wr (.cells #[.string (tx x.name), .int .u64 x.hash, .bool x.order] 55) w.heap.size hz).trans hbx)
        have hzn : Hid (w.heap.size < (wr.alloc (.cells #[.string (tx x.name), .int .u64 x.hash, .bool x.order] 55)).heap.size) := by show w.heap.size < _; simp; omega
        have hname := Lib.hid (name_any x.name)
        have hi0 : (0 : Int) ≤ (i : Int) := by omega
        have hi1 : (i : Int) < (n : Int) := by omega
        have HIN : Hid (DepP v x → ∀ d ∈ l.take (i + 1), DepP v d) := fun hp d hd => by
          rw [List.take_add_one, hx, List.mem_append] at hd
          rcases hd with hd | hd
          · exact HOK.out d hd
          · simp at hd; subst hd; exact hp
        have HOUT : Hid (¬ DepP v x → ¬ DepsP v r l) := fun hp hd => hp (hd.2.1 x (List.mem_of_getElem? hx))
        obtain ⟨xn, xh, xo⟩ := x
        unfold rsv at k0 hname
        simp only at k0 k1 k2 p0 p1 p2 hbn hbxn hzn hname
        clear hcx x0 x1 x2 hx hok hb hbx hz hnb
        cases hq : isName xn
        · have HNO := Lib.hid (HOUT.out (fun hp => by have := hp.1; simp only at this; rw [hq] at this; cases this))
          rw [hq] at hname
          go_wp2_with (go_at_call 40; refine (hname.out _).mono ?_; rintro e w2 ⟨rfl, rfl⟩)
          go_ret
          exact ⟨tells_false HNO.out, hbn.out⟩
        · rw [hq] at hname
          cases xo
          · have HGO := Lib.hid (HIN.out ⟨hq, fun h => by cases h⟩)
            go_wp2_with (go_at_call 40; refine (hname.out _).mono ?_; rintro e w2 ⟨rfl, rfl⟩)
            exact ⟨⟨i + 1, by rw [HL.out]; omega, by go_num, HGO.out, hbn.out, hbxn.out, hzn.out⟩, by simp [intOf]; omega⟩
          · by_cases hv : v < 3
            · have HNO := Lib.hid (HOUT.out (fun hp => by have := hp.2 rfl; omega))
              have dv : decide (v < 3) = true := decide_eq_true hv
              go_wp2_with (go_at_call 40; refine (hname.out _).mono ?_; rintro e w2 ⟨rfl, rfl⟩)
              go_ret
              exact ⟨tells_false HNO.out, hbn.out⟩
            · have HGO := Lib.hid (HIN.out ⟨hq, fun _ => by omega⟩)
              have dv : decide (v < 3) = false := decide_eq_false hv
              go_wp2_with (go_at_call 40; refine (hname.out _).mono ?_; rintro e w2 ⟨rfl, rfl⟩)
              exact ⟨⟨i + 1, by rw [HL.out]; omega, by go_num, HGO.out, hbn.out, hbxn.out, hzn.out⟩, by simp [intOf]; omega⟩
      · obtain rfl : i = n := by omega
        rw [List.take_of_length_le (by rw [HL.out]; omega)] at HOK
        have hnl : (names l).length = i := by unfold names; rw [List.length_map]; exact HL.out
        have hnm := named_any r A i c l hn HT.out HF.out wr.drew ((H1.out.below (hb.drew)).more (by show w.heap.size ≤ wr.heap.size; omega))
        have HNM := Lib.hid hnm
        have HNL := Lib.hid hnl
        have hq3 := at_cell (i := 3) hbx rfl
        clear hnm hnl hok hb hbx
        by_cases hd : (tnew (r.target :: names l)).length = 1 + i
        · have HP : Hid (DepsP v r l) := ⟨by rw [HL.out]; exact h16, HOK.out, (tnew_nodup _).1 (by rw [hd, List.length_cons, HNL.out]; omega)⟩
          go_wp2_with fail
          have hde : decide ((((tnew (r.target :: names l)).length : Nat) : Int) = 1 + (i : Int)) = true := decide_eq_true (by omega)
          have hdf : ((((tnew (r.target :: names l)).length : Nat) : Int) == 1 + (i : Int)) = true := by rw [beq_iff_eq]; omega
          refine wp_region_held (S := fun v1 => Below wr.heap.size wr v1) (by kernel_rfl) ?_
          have hS : Below wr.heap.size wr wr.drew := (Below.refl _ wr).drew
          refine h_take 0 (rcv r A i c) rfl (by kernel_rfl) (by kernel_rfl) (by kernel_rfl) (fun _ _ _ h => h) (by kernel_rfl) hS (by intro v1 hv; have q0 := (hv.cell (p := ⟨w.heap.size, 0, none⟩) HZ.out).trans (at_cell (i := 0) HBX.out rfl); have q1 := (hv.cell (p := ⟨w.heap.size, 1, none⟩) HZ.out).trans (at_cell (i := 1) HBX.out rfl); have q2 := (hv.cell (p := ⟨w.heap.size, 2, none⟩) HZ.out).trans (at_cell (i := 2) HBX.out rfl); have q3 := (hv.cell (p := ⟨w.heap.size, 3, none⟩) HZ.out).trans (at_cell (i := 3) HBX.out rfl); have q4 := (hv.cell (p := ⟨w.heap.size, 4, none⟩) HZ.out).trans (at_cell (i := 4) HBX.out rfl); have q5 := (hv.cell (p := ⟨w.heap.size, 5, none⟩) HZ.out).trans (at_cell (i := 5) HBX.out rfl); have q6 := (hv.cell (p := ⟨w.heap.size, 6, none⟩) HZ.out).trans (at_cell (i := 6) HBX.out rfl); go_simp; rfl) ?_
          refine h_take 3 (.pointer (some ⟨w.heap.size, 3, none⟩)) rfl (by kernel_rfl) (by kernel_rfl) (by kernel_rfl) (fun _ _ _ h => h) (by kernel_rfl) hS (fun _ _ => by kernel_rfl) ?_
          refine h_take 4 (.slice A i c) rfl (by kernel_rfl) (by kernel_rfl) (by kernel_rfl) (fun _ _ _ h => h) (by kernel_rfl) hS (by intro v1 hv; have q3 := (hv.cell (p := ⟨w.heap.size, 3, none⟩) HZ.out).trans (at_cell (i := 3) HBX.out rfl); go_simp; try rfl) ?_
          refine h_take 5 (.int .i64 (i : Int)) rfl (by kernel_rfl) (by kernel_rfl) (by kernel_rfl) (fun _ _ _ h => h) (by kernel_rfl) hS (by intro v1 hv; go_simp) ?_
          refine h_take 6 (.int .i64 (1 + (i : Int))) rfl (by kernel_rfl) (by kernel_rfl) (by kernel_rfl) (fun _ _ _ h => h) (by kernel_rfl) hS (by intro v1 hv; go_simp; exact wrap_small (by omega) (by omega)) ?_
          refine h_one 1 rfl (by kernel_rfl) (by kernel_rfl) (fun K hK => ?_)
          go_simp
          refine HNM.out.mono ?_
          rintro e w2 ⟨tb, rfl, htb0, htb1, htab, hb2⟩
          have hb3 : Below wr.heap.size wr.drew w2 := hb2
          have hS2 : Below wr.heap.size wr w2 := (Below.refl _ wr).drew.trans hb2
          refine hK _ _ hS2 ?_
          clear hK K
          refine h_one 2 rfl (by kernel_rfl) (by kernel_rfl) (fun K hK => ?_)
          go_simp
          refine (Len_any _ tb _ _ w2 htab).mono ?_
          rintro e w3 ⟨rfl, rfl⟩
          refine hK _ _ hS2 ?_
          clear hK K
          refine h_take 7 (.bool true) rfl (by kernel_rfl) (by kernel_rfl) (by kernel_rfl) (fun _ _ _ h => h) (by kernel_rfl) hS2 (by intro v1 hv; go_simp) ?_
          refine h_take 8 (.bool true) rfl (by kernel_rfl) (by kernel_rfl) (by kernel_rfl) (fun _ _ _ h => h) (by kernel_rfl) hS2 (fun _ _ => by kernel_rfl) ?_
          refine wpAnyH_done (by kernel_rfl) ?_ _
          go_simp
          go_wp2
          go_ret
          exact ⟨tells_true HP.out, HBR.out.drew.trans (hb3.mono (by show w.heap.size ≤ wr.heap.size; exact Nat.le_of_lt HZ.out))⟩
        · have HP : Hid (¬ DepsP v r l) := fun h => hd (by have := (tnew_nodup _).2 h.2.2; rw [this, List.length_cons, HNL.out]; omega)
          go_wp2_with fail
          have hde : decide ((((tnew (r.target :: names l)).length : Nat) : Int) = 1 + (i : Int)) = false := decide_eq_false (by omega)
          have hdf : ((((tnew (r.target :: names l)).length : Nat) : Int) == 1 + (i : Int)) = false := by rw [beq_eq_false_iff_ne]; omega
          refine wp_region_held (S := fun v1 => Below wr.heap.size wr v1) (by kernel_rfl) ?_
          have hS : Below wr.heap.size wr wr.drew := (Below.refl _ wr).drew
          refine h_take 0 (rcv r A i c) rfl (by kernel_rfl) (by kernel_rfl) (by kernel_rfl) (fun _ _ _ h => h) (by kernel_rfl) hS (by intro v1 hv; have q0 := (hv.cell (p := ⟨w.heap.size, 0, none⟩) HZ.out).trans (at_cell (i := 0) HBX.out rfl); have q1 := (hv.cell (p := ⟨w.heap.size, 1, none⟩) HZ.out).trans (at_cell (i := 1) HBX.out rfl); have q2 := (hv.cell (p := ⟨w.heap.size, 2, none⟩) HZ.out).trans (at_cell (i := 2) HBX.out rfl); have q3 := (hv.cell (p := ⟨w.heap.size, 3, none⟩) HZ.out).trans (at_cell (i := 3) HBX.out rfl); have q4 := (hv.cell (p := ⟨w.heap.size, 4, none⟩) HZ.out).trans (at_cell (i := 4) HBX.out rfl); have q5 := (hv.cell (p := ⟨w.heap.size, 5, none⟩) HZ.out).trans (at_cell (i := 5) HBX.out rfl); have q6 := (hv.cell (p := ⟨w.heap.size, 6, none⟩) HZ.out).trans (at_cell (i := 6) HBX.out rfl); go_simp; rfl) ?_
          refine h_take 3 (.pointer (some ⟨w.heap.size, 3, none⟩)) rfl (by kernel_rfl) (by kernel_rfl) (by kernel_rfl) (fun _ _ _ h => h) (by kernel_rfl) hS (fun _ _ => by kernel_rfl) ?_
          refine h_take 4 (.slice A i c) rfl (by kernel_rfl) (by kernel_rfl) (by kernel_rfl) (fun _ _ _ h => h) (by kernel_rfl) hS (by intro v1 hv; have q3 := (hv.cell (p := ⟨w.heap.size, 3, none⟩) HZ.out).trans (at_cell (i := 3) HBX.out rfl); go_simp; try rfl) ?_
          refine h_take 5 (.int .i64 (i : Int)) rfl (by kernel_rfl) (by kernel_rfl) (by kernel_rfl) (fun _ _ _ h => h) (by kernel_rfl) hS (by intro v1 hv; go_simp) ?_
          refine h_take 6 (.int .i64 (1 + (i : Int))) rfl (by kernel_rfl) (by kernel_rfl) (by kernel_rfl) (fun _ _ _ h => h) (by kernel_rfl) hS (by intro v1 hv; go_simp; exact wrap_small (by omega) (by omega)) ?_
          refine h_one 1 rfl (by kernel_rfl) (by kernel_rfl) (fun K hK => ?_)
          go_simp
          refine HNM.out.mono ?_
          rintro e w2 ⟨tb, rfl, htb0, htb1, htab, hb2⟩
          have hb3 : Below wr.heap.size wr.drew w2 := hb2
          have hS2 : Below wr.heap.size wr w2 := (Below.refl _ wr).drew.trans hb2
          refine hK _ _ hS2 ?_
          clear hK K
          refine h_one 2 rfl (by kernel_rfl) (by kernel_rfl) (fun K hK => ?_)
          go_simp
          refine (Len_any _ tb _ _ w2 htab).mono ?_
          rintro e w3 ⟨rfl, rfl⟩
          refine hK _ _ hS2 ?_
          clear hK K
          refine h_take 7 (.bool false) rfl (by kernel_rfl) (by kernel_rfl) (by kernel_rfl) (fun _ _ _ h => h) (by kernel_rfl) hS2 (by intro v1 hv; go_simp) ?_
          refine h_take 8 (.bool false) rfl (by kernel_rfl) (by kernel_rfl) (by kernel_rfl) (fun _ _ _ h => h) (by kernel_rfl) hS2 (fun _ _ => by kernel_rfl) ?_
          refine wpAnyH_done (by kernel_rfl) ?_ _
          go_simp
          go_wp2
          go_ret
          exact ⟨tells_false HP.out, HBR.out.drew.trans (hb3.mono (by show w.heap.size ≤ wr.heap.size; exact Nat.le_of_lt HZ.out))⟩
  · have d16 : decide ((n : Int) > 16) = true := decide_eq_true (by omega)
    have HP : Hid (¬ DepsP v r l) := fun h => h16 (by have := h.1; rw [HL.out] at this; exact this)
    unfold rcells at *
    unfold rcv rsv
    go_enter Try.func43, Try.ntmps43
    go_wp2
    go_ret
    exact ⟨tells_false HP.out, HB0.out⟩

end Go.Proofs.Ytidkahmjjknkmaa

/- Structs compared as structs: two records' rests, two deps. -/
namespace Go.Proofs.Ytidkahmjjknkmaa
open Go.RowKit

theorem fields_rest : Try.prog.underlying 111 = some (.struct (Try.prog.fieldsOf 111)) := by kernel_rfl
theorem held_rest : Try.prog.stoodInHeld 111 = false := by kernel_rfl
theorem fields_dep : Try.prog.underlying 55 = some (.struct (Try.prog.fieldsOf 55)) := by kernel_rfl
theorem held_dep : Try.prog.stoodInHeld 55 = false := by kernel_rfl

set_option maxRecDepth 100000 in
theorem rest_neq (r1 r2 : Rc) (w : World) : ∃ q : Bool, (q = true ↔ r1 ≠ r2) ∧ (binOp .neq 111 (restv r1) (restv r2)).run Try.prog w = .ok (.bool q) w := by
  obtain ⟨k1, t1, u1, o1, m1, g1⟩ := r1
  obtain ⟨k2, t2, u2, o2, m2, g2⟩ := r2
  unfold restv rsv
  rw [run_neq_struct, show (10000 : Nat) = 9999 + 1 from rfl, run_equalIn_agg _ _ _ _ _ fields_rest held_rest]
  simp only [Program.fieldsOf, Try.underlying111]
  by_cases e1 : k1 = k2
  · by_cases e2 : t1 = t2
    · by_cases e3 : g1 = g2
      · by_cases e4 : u1 = u2
        · by_cases e5 : o1 = o2
          · by_cases e6 : m1 = m2
            · subst e1 e2 e3 e4 e5 e6
              exact ⟨false, by simp, by go_simp⟩
            · subst e1 e2 e3 e4 e5
              have h : (m1 == m2) = false := by rw [beq_eq_false_iff_ne]; exact e6
              exact ⟨true, by simp [e6], by go_simp⟩
          · subst e1 e2 e3 e4
            have h : (o1 == o2) = false := by rw [beq_eq_false_iff_ne]; exact e5
            exact ⟨true, by simp [e5], by go_simp⟩
        · subst e1 e2 e3
          have h : (u1 == u2) = false := by rw [beq_eq_false_iff_ne]; exact e4
          exact ⟨true, by simp [e4], by go_simp⟩
      · subst e1 e2
        have h := tx_unlike e3
        exact ⟨true, by simp [e3], by go_simp⟩
    · subst e1
      have h := tx_unlike e2
      exact ⟨true, by simp [e2], by go_simp⟩
  · have h : (k1 == k2) = false := by rw [beq_eq_false_iff_ne]; exact e1
    exact ⟨true, by simp [e1], by go_simp⟩

def Dp.val (d : Dp) : Value := .agg #[rsv d.name, .int .u64 d.hash, .bool d.order]

set_option maxRecDepth 100000 in
theorem dep_neq (r1 r2 : Dp) (w : World) : ∃ q : Bool, (q = true ↔ r1 ≠ r2) ∧ (binOp .neq 55 r1.val r2.val).run Try.prog w = .ok (.bool q) w := by
  obtain ⟨t1, u1, o1⟩ := r1
  obtain ⟨t2, u2, o2⟩ := r2
  unfold Dp.val rsv
  rw [run_neq_struct, show (10000 : Nat) = 9999 + 1 from rfl, run_equalIn_agg _ _ _ _ _ fields_dep held_dep]
  simp only [Program.fieldsOf, Try.underlying55]
  by_cases e2 : t1 = t2
  · by_cases e4 : u1 = u2
    · by_cases e5 : o1 = o2
      · subst e2 e4 e5
        exact ⟨false, by simp, by go_simp⟩
      · subst e2 e4
        have h : (o1 == o2) = false := by rw [beq_eq_false_iff_ne]; exact e5
        exact ⟨true, by simp [e5], by go_simp⟩
    · subst e2
      have h : (u1 == u2) = false := by rw [beq_eq_false_iff_ne]; exact e4
      exact ⟨true, by simp [e4], by go_simp⟩
  · have h := tx_unlike e2
    exact ⟨true, by simp [e2], by go_simp⟩

end Go.Proofs.Ytidkahmjjknkmaa
