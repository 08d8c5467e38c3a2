/- Texts of one proof, one behind the other. -/
import Derived.Lib.AppendStr
import Derived.Lib.ConvBytes
import Derived.Laws.EntriesVeiled
import Derived.Lib.SliceRun
import Derived.Deep.Upon
import Derived.Test.YtfidfhajnobonaaMg2

/- record.Names. -/
namespace Go.Proofs.Ytfidfhajnobonaa
open Go.RowKit

/-- A record's texts, each once. -/
def rnames (r : Rc) (l : List Dp) : List (List UInt8) := tnew (r.target :: names l ++ (if r.tag = [] then [] else [r.tag]))

theorem fill_step (T Z : List Value) (i : Nat) (u : Value) (hl : Z.length = T.length) (hu : T[i]? = some u) : (T.take i ++ Z.drop i).set i u = T.take (i + 1) ++ Z.drop (i + 1) := by
  have hi : i < T.length := (List.getElem?_eq_some_iff.1 hu).1
  have h1 : (T.take i).length = i := by rw [List.length_take]; omega
  have h2 : Z.drop i = Z[i]'(by omega) :: Z.drop (i + 1) := List.drop_eq_getElem_cons (by omega)
  rw [h2, List.take_add_one, hu, List.set_append_right _ _ (by omega), h1, Nat.sub_self]
  show T.take i ++ (u :: Z.drop (i + 1)) = _
  simp

def NmRel (w : World) (b g N : Nat) (ts : List (List UInt8)) (Z : List Value) (idx : Value) (wr : World) : Prop :=
  ∃ i : Nat, i ≤ ts.length ∧ idx = .int .i64 (i : Int) ∧ Tab wr (fun k => k < g) b N ts ∧ Below w.heap.size w wr ∧ wr.heap[g]? = some (.cells ((ts.map tsv).take i ++ Z.drop i).toArray 9 (0, 0))

theorem tnew_pos (t : List UInt8) (ts : List (List UInt8)) : 0 < (tnew (t :: ts)).length := by
  have h : t ∈ tnew (t :: ts) := tnew_mem (by simp)
  exact List.length_pos_of_mem h

set_option maxRecDepth 100000 in
set_option maxHeartbeats 2000000 in
theorem names_any (r : Rc) (A : Option Addr) (n c : Nat) (l : List Dp) (hn : n ≤ 1000) (hfit : Fits r l) (w : World) (h : Reads w w.heap.size 3 A n (dps l)) :
    Calls Try.prog 46 #[rcv r A n c] w fun e w' => ∃ v, e = .returned v ∧ Own w' w.heap.size v (rnames r l) ∧ Below w.heap.size w w' := by
  obtain ⟨i0, hi0, hz0, hz1, hz2⟩ := info_parts tinfo
  have hl : l.length = n := by have := h.1; rw [dps_len] at this; omega
  have hz : (w.alloc (.cells (rcells r A n c) 26)).heap.size = w.heap.size + 1 := by simp
  have h0 := one_new w (.cells (rcells r A n c) 26)
  have hb0 := (Below.refl w.heap.size w).alloc (Nat.le_refl _) (.cells (rcells r A n c) 26)
  have HNAMED := Lib.hid (named_any r A n c l hn hfit.1 hfit.2.2 (w.alloc (.cells (rcells r A n c) 26)) ((h.below hb0).more (by rw [hz]; omega)))
  have hlen0 : (tnew (r.target :: names l)).length ≤ 1 + n := by have := tnew_len (r.target :: names l); rw [List.length_cons, show (names l).length = n from by unfold names; rw [List.length_map, hl]] at this; omega
  have HPOS := Lib.hid (tnew_pos r.target (names l))
  have HZ := Lib.hid hz
  have HB0 := Lib.hid hb0
  have q0 := at_cell (i := 0) h0 rfl
  have q1 := at_cell (i := 1) h0 rfl
  have q2 := at_cell (i := 2) h0 rfl
  have q3 := at_cell (i := 3) h0 rfl
  have q4 := at_cell (i := 4) h0 rfl
  have q5 := at_cell (i := 5) h0 rfl
  have q6 := at_cell (i := 6) h0 rfl
  have Q6 := Lib.hid q6
  obtain ⟨k, t, u, o, m, g⟩ := r
  have hfg := hfit.2.1
  have HFG := Lib.hid hfg
  simp only at hlen0 HPOS hfg HFG
  clear h hb0 hz h0 hfit hl
  unfold rcells at *
  unfold rcv rsv at *
  by_cases hg : g = []
  · subst hg
    have he : (tx ([] : List UInt8)).toList = [] := by simp [tx]
    have hT : Hid (tnew (t :: names l) = rnames ⟨k, t, u, o, m, []⟩ l) := by show _ = _; unfold rnames; simp
    obtain ⟨T, hTT⟩ : ∃ T, T = tnew (t :: names l) := ⟨_, rfl⟩
    rw [← hTT] at hT HPOS hlen0 HNAMED
    clear hTT
    go_enter Try.func46, Try.ntmps46
    go_wp2_with (first
      | (at_make; have hk := HB2.out.size; refine wpList_make_at _ rfl (.tmp 16) (.tmp 16) 22 rfl 9 i0 (.string { data := #[] }) Try.underlying22 hi0 hz0 hz1 .i64 .i64 _ _ T.length T.length rfl rfl rfl rfl (Nat.le_refl _) (by rw [hz2]; omega) (by unfold maxLen; omega) ?_; intro Z HZL HZ2; clear HZ2)
      | (go_at_call 31; have hk := HB2.out.size; refine (Len_any _ _ _ _ _ HT2.out).mono ?_; rintro e w3 ⟨rfl, rfl⟩)
      | (go_at_call 70; refine HNAMED.out.mono ?_; rintro e w2 ⟨tb, rfl, htb0, htb1, ht2, hb2⟩; have p6 := (hb2.cell (p := ⟨w.heap.size, 6, none⟩) (show w.heap.size < _ by rw [HZ.out]; omega)).trans Q6.out; have HB2 := Lib.hid (HB0.out.trans (hb2.mono HB0.out.size)); have HT2 := Lib.hid ht2; clear ht2 hb2 htb0 htb1))
    have HB3 := Lib.hid (HB2.out.alloc HB2.out.size (.cells Z.toArray 9))
    have HT3 := Lib.hid (((HT2.out).wide (S2 := fun k => k < w2.heap.size) (fun k _ hk => hk)).keep (w' := w2.alloc (.cells Z.toArray 9)) (fun k _ hk => Below.heap_alloc _ _ _ hk))
    have HG3 := Lib.hid (one_new w2 (.cells Z.toArray 9))
    have HW2 : Hid (w.heap.size ≤ w2.heap.size) := HB2.out.size
    go_loopw [20] (fun idx wr => NmRel w tb w2.heap.size _ T Z idx wr) (fun idx wr => T.length - (intOf idx).toNat)
    case atStart => exact ⟨0, by omega, rfl, HT3.out, HB3.out, by simpa using HG3.out⟩
    case round =>
      obtain ⟨i, hi, rfl, htb, hb, hgr⟩ := hrel
      have HTB := Lib.hid htb
      have HBR := Lib.hid hb
      have HGR := Lib.hid hgr
      by_cases hlt : i < T.length
      · obtain ⟨s, hs⟩ : ∃ s, T[i]? = some s := ⟨_, List.getElem?_eq_getElem hlt⟩
        have htx := Text_any _ tb _ T i (by omega) wr htb
        have hts : ttext T i = s := by unfold ttext; rw [hs]; rfl
        rw [hts, decide_eq_true hlt] at htx
        have HTX := Lib.hid htx
        unfold tsv at HTX
        have hfz := at_frozen (i := i) hgr
        have hclen : i < ((T.map tsv).take i ++ Z.drop i).length := by have h2 : Z.length = T.length := HZL; simp; omega
        obtain ⟨old, hold⟩ : ∃ u, ((T.map tsv).take i ++ Z.drop i)[i]? = some u := ⟨_, List.getElem?_eq_getElem hclen⟩
        have hcell := at_cell (i := i) hgr (by simpa using hold)
        have HSET : Hid ((wr.setCell ⟨w2.heap.size, i, none⟩ (.string (tx s))).heap[w2.heap.size]? = some (.cells ((T.map tsv).take (i + 1) ++ Z.drop (i + 1)).toArray 9 (0, 0))) := by
          show _ = _
          rw [set_same hgr i (.string (tx s))]
          have := fill_step (T.map tsv) Z i (.string (tx s)) (by rw [List.length_map]; exact HZL) (by rw [List.getElem?_map, hs]; rfl)
          rw [← this]
          simp
        have hi0 : (0 : Int) ≤ (i : Int) := by omega
        have hi1 : (i : Int) < (T.length : Int) := by omega
        clear htb hb hgr htx hts hs hold hclen
        go_wp2_with (go_at_call 32; refine HTX.out.mono ?_; rintro e w3 ⟨rfl, rfl⟩)
        exact ⟨⟨i + 1, by omega, by go_num, HTB.out.keep (fun k hk _ => Below.heap_setCell _ _ _ _ (by show k ≠ w2.heap.size; omega)), HBR.out.setCell HW2.out _, HSET.out⟩, by simp [intOf]; omega⟩
      · obtain rfl : i = T.length := by omega
        have h2 : Z.length = T.length := HZL
        have HGR2 : Hid (wr.heap[w2.heap.size]? = some (.cells (T.map tsv).toArray 9 (0, 0))) := by
          show _ = _
          rw [hgr, List.take_of_length_le (by simp), List.drop_of_length_le (by omega), List.append_nil]
        clear htb hb hgr
        go_wp2
        go_ret
        refine ⟨_, rfl, ?_, HBR.out⟩
        rw [← hT.out]
        exact ownsRow_of_block HW2.out HGR2.out (Nat.le_refl _) (by unfold maxLen; omega) (by simp) (by rw [List.take_of_length_le (by simp)])
  · have he := tx_empty g hg
    have hT : Hid (tput (tnew (t :: names l)) g = rnames ⟨k, t, u, o, m, g⟩ l) := by show _ = _; unfold rnames; simp only [if_neg hg]; rw [tnew_snoc]
    have hlen1 : Hid ((tnew (t :: names l)).length + 1 ≤ 1073741824) := by show _ ≤ _; omega
    obtain ⟨T, hTT⟩ : ∃ T, T = tput (tnew (t :: names l)) g := ⟨_, rfl⟩
    have hlen0' : T.length ≤ 2 + n := by rw [hTT]; have := tput_len (tnew (t :: names l)) g; omega
    have HTT := Lib.hid hTT
    rw [← hTT] at hT
    have hlen0 := hlen0'
    clear hTT hlen0' HPOS hg
    go_enter Try.func46, Try.ntmps46
    go_wp2_with (first
      | (at_make; have hk := HB2.out.size; refine wpList_make_at _ rfl (.tmp 16) (.tmp 16) 22 rfl 9 i0 (.string { data := #[] }) Try.underlying22 hi0 hz0 hz1 .i64 .i64 _ _ T.length T.length rfl rfl rfl rfl (Nat.le_refl _) (by rw [hz2]; omega) (by unfold maxLen; omega) ?_; intro Z HZL HZ2; clear HZ2)
      | (go_at_call 31; have hk := HB2.out.size; refine (Len_any _ _ _ _ _ HT2.out).mono ?_; rintro e w3 ⟨rfl, rfl⟩)
      | (go_at_call 21; have hk := HB1.out.size; refine (ID_any _ _ _ _ g HFG.out hlen1.out (by omega) _ HT1.out).mono ?_; rintro e w2 ⟨rfl, ht2, htu2⟩; rw [← HTT.out] at ht2; have HB2 := Lib.hid (HB1.out.trans (htu2.below (fun k hk => by have := HZ.out; omega) HB1.out.size)); have HT2 := Lib.hid ht2; clear ht2 htu2)
      | (go_at_call 70; refine HNAMED.out.mono ?_; rintro e w1 ⟨tb, rfl, htb0, htb1, ht1, hb1⟩; have p6 := (hb1.cell (p := ⟨w.heap.size, 6, none⟩) (show w.heap.size < _ by rw [HZ.out]; omega)).trans Q6.out; have HB1 := Lib.hid (HB0.out.trans (hb1.mono HB0.out.size)); have HT1 := Lib.hid ht1; clear ht1 hb1 htb0 htb1))
    have HB3 := Lib.hid (HB2.out.alloc HB2.out.size (.cells Z.toArray 9))
    have HT3 := Lib.hid (((HT2.out).wide (S2 := fun k => k < w2.heap.size) (fun k _ hk => hk)).keep (w' := w2.alloc (.cells Z.toArray 9)) (fun k _ hk => Below.heap_alloc _ _ _ hk))
    have HG3 := Lib.hid (one_new w2 (.cells Z.toArray 9))
    have HW2 : Hid (w.heap.size ≤ w2.heap.size) := HB2.out.size
    go_loopw [20] (fun idx wr => NmRel w tb w2.heap.size _ T Z idx wr) (fun idx wr => T.length - (intOf idx).toNat)
    case atStart => exact ⟨0, by omega, rfl, HT3.out, HB3.out, by simpa using HG3.out⟩
    case round =>
      obtain ⟨i, hi, rfl, htb, hb, hgr⟩ := hrel
      have HTB := Lib.hid htb
      have HBR := Lib.hid hb
      have HGR := Lib.hid hgr
      by_cases hlt : i < T.length
      · obtain ⟨s, hs⟩ : ∃ s, T[i]? = some s := ⟨_, List.getElem?_eq_getElem hlt⟩
        have htx := Text_any _ tb _ T i (by omega) wr htb
        have hts : ttext T i = s := by unfold ttext; rw [hs]; rfl
        rw [hts, decide_eq_true hlt] at htx
        have HTX := Lib.hid htx
        unfold tsv at HTX
        have hfz := at_frozen (i := i) hgr
        have hclen : i < ((T.map tsv).take i ++ Z.drop i).length := by have h2 : Z.length = T.length := HZL; simp; omega
        obtain ⟨old, hold⟩ : ∃ u, ((T.map tsv).take i ++ Z.drop i)[i]? = some u := ⟨_, List.getElem?_eq_getElem hclen⟩
        have hcell := at_cell (i := i) hgr (by simpa using hold)
        have HSET : Hid ((wr.setCell ⟨w2.heap.size, i, none⟩ (.string (tx s))).heap[w2.heap.size]? = some (.cells ((T.map tsv).take (i + 1) ++ Z.drop (i + 1)).toArray 9 (0, 0))) := by
          show _ = _
          rw [set_same hgr i (.string (tx s))]
          have := fill_step (T.map tsv) Z i (.string (tx s)) (by rw [List.length_map]; exact HZL) (by rw [List.getElem?_map, hs]; rfl)
          rw [← this]
          simp
        have hi0 : (0 : Int) ≤ (i : Int) := by omega
        have hi1 : (i : Int) < (T.length : Int) := by omega
        clear htb hb hgr htx hts hs hold hclen
        go_wp2_with (go_at_call 32; refine HTX.out.mono ?_; rintro e w3 ⟨rfl, rfl⟩)
        exact ⟨⟨i + 1, by omega, by go_num, HTB.out.keep (fun k hk _ => Below.heap_setCell _ _ _ _ (by show k ≠ w2.heap.size; omega)), HBR.out.setCell HW2.out _, HSET.out⟩, by simp [intOf]; omega⟩
      · obtain rfl : i = T.length := by omega
        have h2 : Z.length = T.length := HZL
        have HGR2 : Hid (wr.heap[w2.heap.size]? = some (.cells (T.map tsv).toArray 9 (0, 0))) := by
          show _ = _
          rw [hgr, List.take_of_length_le (by simp), List.drop_of_length_le (by omega), List.append_nil]
        clear htb hb hgr
        go_wp2
        go_ret
        refine ⟨_, rfl, ?_, HBR.out⟩
        rw [← hT.out]
        exact ownsRow_of_block HW2.out HGR2.out (Nat.le_refl _) (by unfold maxLen; omega) (by simp) (by rw [List.take_of_length_le (by simp)])

end Go.Proofs.Ytfidfhajnobonaa

/- Rows of payloads; schema.freshTexts. -/
namespace Go.Proofs.Ytfidfhajnobonaa
open Go.RowKit

/-- Payloads in memory of their own, none of it in S. -/
def RowsV (w : World) (base : Nat) (S : Nat → Prop) (va : Value) (ps : List (List UInt8)) (vs : List Value) : Prop :=
  w.ownsRow base 44 1 va ps.length vs ∧ (∀ g, va.ownBlock = some g → ¬ S g) ∧ vs.length = ps.length ∧ ∀ (i : Nat) (p : List UInt8), ps[i]? = some p → ∃ v, vs[i]? = some v ∧ w.ownsRow base 5 1 v p.length (p.map bv) ∧ (∀ g, v.ownBlock = some g → ¬ S g)
def Rows (w : World) (base : Nat) (S : Nat → Prop) (va : Value) (ps : List (List UInt8)) : Prop := ∃ vs, RowsV w base S va ps vs

theorem RowsV.turn {w w' : World} {base : Nat} {S S2 : Nat → Prop} {va : Value} {ps : List (List UInt8)} {vs : List Value} (h : RowsV w base S va ps vs) (ht : Turn S2 w w') (hs : ∀ k, k < w.heap.size → S2 k → S k) : RowsV w' base S va ps vs := by
  obtain ⟨h1, h2, h3, h4⟩ := h
  refine ⟨own_heap h1 (fun g hg => ht.2.2.2.2 g (own_lt h1 g hg) (fun h5 => h2 g hg (hs g (own_lt h1 g hg) h5))), h2, h3, fun i p hp => ?_⟩
  obtain ⟨v, h5, h6, h7⟩ := h4 i p hp
  exact ⟨v, h5, own_heap h6 (fun g hg => ht.2.2.2.2 g (own_lt h6 g hg) (fun h8 => h7 g hg (hs g (own_lt h6 g hg) h8))), h7⟩
theorem RowsV.below {w w' : World} {base : Nat} {S : Nat → Prop} {va : Value} {ps : List (List UInt8)} {vs : List Value} (h : RowsV w base S va ps vs) (hb : Below w.heap.size w w') : RowsV w' base S va ps vs := h.turn (S2 := fun _ => False) (Turn.of_below hb) (fun _ _ h => h.elim)
/-- Another set, alike where there is memory. -/
theorem RowsV.set {w : World} {base : Nat} {S S2 : Nat → Prop} {va : Value} {ps : List (List UInt8)} {vs : List Value} (h : RowsV w base S va ps vs) (hs : ∀ k, k < w.heap.size → S2 k → S k) : RowsV w base S2 va ps vs := by
  obtain ⟨h1, h2, h3, h4⟩ := h
  refine ⟨h1, fun g hg h5 => h2 g hg (hs g (own_lt h1 g hg) h5), h3, fun i p hp => ?_⟩
  obtain ⟨v, h5, h6, h7⟩ := h4 i p hp
  exact ⟨v, h5, h6, fun g hg h8 => h7 g hg (hs g (own_lt h6 g hg) h8)⟩
theorem RowsV.push {w w' : World} {base : Nat} {S : Nat → Prop} {va va' v : Value} {ps : List (List UInt8)} {p : List UInt8} {vs : List Value} (h : RowsV w base S va ps vs) (hv : w.ownsRow base 5 1 v p.length (p.map bv)) (hvs : ∀ g, v.ownBlock = some g → ¬ S g)
    (ho : w'.ownsRow base 44 1 va' (ps.length + 1) (vs ++ [v])) (hg : w.grownBy w' va.ownBlock) (he : va'.ownBlock = va.ownBlock ∨ va'.ownBlock = some w.heap.size) (hn : ¬ S w.heap.size) : RowsV w' base S va' (ps ++ [p]) (vs ++ [v]) := by
  obtain ⟨h1, h2, h3, h4⟩ := h
  refine ⟨by rw [List.length_append]; exact ho, fun g h5 => ?_, by simp [h3], fun i q hq => ?_⟩
  · rcases he with he | he
    · exact h2 g (he ▸ h5)
    · rw [he] at h5
      obtain rfl : w.heap.size = g := by simpa using h5
      exact hn
  · rcases Nat.lt_or_ge i ps.length with hlt | hge
    · rw [List.getElem?_append_left hlt] at hq
      obtain ⟨u, h5, h6, h7⟩ := h4 i q hq
      exact ⟨u, by rw [List.getElem?_append_left (by rw [h3]; exact hlt)]; exact h5, own_kept h6 (own_apart h1 h6 (by decide)) hg, h7⟩
    · have hi : i = ps.length := by
        rcases Nat.lt_or_ge (i - ps.length) 1 with h5 | h5
        · omega
        · rw [List.getElem?_append_right hge, List.getElem?_eq_none (by simpa using h5)] at hq; cases hq
      subst hi
      obtain rfl : p = q := by simpa using hq
      exact ⟨v, by rw [← h3]; simp, own_kept hv (own_apart h1 hv (by decide)) hg, hvs⟩
theorem rows_nil (w : World) (base : Nat) (S : Nat → Prop) : RowsV w base S (.slice none 0 0) [] [] := ⟨World.ownsRow_nil _ _ _ _, fun g hg => by simp [Value.ownBlock] at hg, rfl, by simp⟩

/-- The payloads of texts that aren't in a table, one behind the other. -/
def freshL : List (List UInt8) → List (List UInt8) → List (List UInt8)
  | _, [] => []
  | tl, s :: ns => if s ∈ tl then freshL tl ns else (0 :: s) :: freshL (tl ++ [s]) ns
theorem freshL_snoc : ∀ (ns tl : List (List UInt8)) (s : List UInt8), freshL tl (ns ++ [s]) = freshL tl ns ++ (if s ∈ ns.foldl tput tl then [] else [0 :: s])
  | [], tl, s => by
    show (if s ∈ tl then [] else [0 :: s]) = [] ++ (if s ∈ tl then [] else [0 :: s])
    simp
  | a :: ns, tl, s => by
    show (if a ∈ tl then freshL tl (ns ++ [s]) else (0 :: a) :: freshL (tl ++ [a]) (ns ++ [s])) = (if a ∈ tl then freshL tl ns else (0 :: a) :: freshL (tl ++ [a]) ns) ++ (if s ∈ ns.foldl tput (tput tl a) then [] else [0 :: s])
    by_cases h : a ∈ tl
    · rw [if_pos h, if_pos h, freshL_snoc, tput_in h]
    · rw [if_neg h, if_neg h, freshL_snoc, tput_new h]
      rfl
theorem freshL_len : ∀ (ns tl : List (List UInt8)), (freshL tl ns).length ≤ ns.length
  | [], _ => by simp [freshL]
  | a :: ns, tl => by
    unfold freshL
    split
    · have := freshL_len ns tl; simp; omega
    · have := freshL_len ns (tl ++ [a]); simp; omega

/-- What stands at a round of freshTexts. -/
def FtRel (S : Nat → Prop) (bt N : Nat) (tl ns : List (List UInt8)) (w : World) (vn va idx : Value) (wr : World) : Prop :=
  ∃ (i : Nat) (S' : Nat → Prop) (va' : Value), va' = va ∧ i ≤ ns.length ∧ idx = .int .i64 (i : Int) ∧ Tab wr S' bt (N + i) ((ns.take i).foldl tput tl) ∧ (∀ k, S' k → k < wr.heap.size ∧ (S k ∨ w.heap.size ≤ k)) ∧ wr.ownsRow w.heap.size 9 1 vn ns.length (ns.map tsv) ∧ (∀ g, vn.ownBlock = some g → ¬ S' g) ∧ Rows wr w.heap.size S' va' (freshL tl (ns.take i)) ∧ Turn S w wr

set_option maxRecDepth 100000 in
set_option maxHeartbeats 4000000 in
theorem fresh_two (S : Nat → Prop) (bt N n c : Nat) (ver : Int) (hv : ¬ ver < 2) (tl : List (List UInt8)) (r : Rc) (A : Option Addr) (l : List Dp) (hn : n ≤ 1000) (hfit : Fits r l) (hnl : ∀ s ∈ rnames r l, s.length ≤ 64) (htl : tl.length ≤ 1000000000) (hN : N ≤ 1000000000) (hns : (rnames r l).length ≤ 2000) (w : World) (hT : Tab w S bt N tl) (hr : Reads w w.heap.size 3 A n (dps l)) :
    Calls Try.prog 23 #[.int .i64 ver, .pointer (some ⟨bt, 0, none⟩), .agg #[.int .i64 r.kind, .string (tx r.target), .int .u64 r.rule, .slice A n c, .int .u64 r.out, .int .u64 r.time, .string (tx r.tag)]] w fun e w' => ∃ (va : Value) (S' : Nat → Prop), e = .returned va ∧ Tab w' S' bt (N + (rnames r l).length) ((rnames r l).foldl tput tl) ∧ (∀ k, S' k → k < w'.heap.size ∧ (S k ∨ w.heap.size ≤ k)) ∧ Rows w' w.heap.size S' va (freshL tl (rnames r l)) ∧ Turn S w w' := by
  obtain ⟨i0, ii0, iz0, iz1, iz2⟩ := info_parts (show (Try.prog.info? 44).map (fun i => (i.zero, i.size, i.bytes)) = some (some (.slice none 0 0), 1, 24) from by kernel_rfl)
  obtain ⟨i5, ji0, jz0, jz1, jz2⟩ := info_parts info5
  have hz : (w.alloc (.cells #[.int .i64 r.kind, .string (tx r.target), .int .u64 r.rule, .slice A n c, .int .u64 r.out, .int .u64 r.time, .string (tx r.tag)] 26)).heap.size = w.heap.size + 1 := by simp
  have hb0 := (Below.refl w.heap.size w).alloc (Nat.le_refl _) (.cells #[.int .i64 r.kind, .string (tx r.target), .int .u64 r.rule, .slice A n c, .int .u64 r.out, .int .u64 r.time, .string (tx r.tag)] 26)
  have h0 := one_new w (.cells #[.int .i64 r.kind, .string (tx r.target), .int .u64 r.rule, .slice A n c, .int .u64 r.out, .int .u64 r.time, .string (tx r.tag)] 26)
  have HNAMES := Lib.hid (names_any r A n c l hn hfit (w.alloc (.cells #[.int .i64 r.kind, .string (tx r.target), .int .u64 r.rule, .slice A n c, .int .u64 r.out, .int .u64 r.time, .string (tx r.tag)] 26)) ((hr.below hb0).more (by rw [hz]; omega)))
  unfold rcv rsv at HNAMES
  have q0 := at_cell (i := 0) h0 rfl
  have q1 := at_cell (i := 1) h0 rfl
  have q2 := at_cell (i := 2) h0 rfl
  have q3 := at_cell (i := 3) h0 rfl
  have q4 := at_cell (i := 4) h0 rfl
  have q5 := at_cell (i := 5) h0 rfl
  have q6 := at_cell (i := 6) h0 rfl
  have d1 : decide (ver < 2) = false := decide_eq_false hv
  obtain ⟨ns, hnse⟩ : ∃ ns, ns = rnames r l := ⟨_, rfl⟩
  rw [← hnse] at HNAMES hnl hns ⊢
  obtain ⟨m, hm⟩ : ∃ m, m = ns.length := ⟨_, rfl⟩
  have HM := Lib.hid hm
  have HNL := Lib.hid hnl
  have HT := Lib.hid hT
  have HB0 := Lib.hid hb0
  have HZ := Lib.hid hz
  have hm2 : m ≤ 2000 := by omega
  have HTL := Lib.hid htl
  have HNN := Lib.hid hN
  clear h0 hb0 hz hT hr hv hnl hns hnse hm hfit htl hN
  go_enter Try.func23, Try.ntmps23
  go_wp2_with (go_at_call 46; refine HNAMES.out.mono ?_; rintro e w5 ⟨v5, rfl, ho5, hb5⟩; unfold Own at ho5; rw [← HM.out] at ho5; obtain ⟨A5, c5, rfl, hc5⟩ := own_slice ho5; have HO5 := Lib.hid ho5; have HB5 := Lib.hid (HB0.out.trans (hb5.mono HB0.out.size)); clear ho5 hb5)
  go_loopw [7, 17] (fun va idx wr => FtRel S bt N tl ns w (.slice A5 m c5) va idx wr) (fun va idx wr => m - (intOf idx).toNat)
  case atStart =>
    refine ⟨0, fun k => S k ∧ k < w.heap.size, _, rfl, by omega, rfl, ?_, fun k hk => ⟨by have h1 := HB5.out.size; omega, .inl hk.1⟩, ?_, ?_, ⟨[], rows_nil _ _ _⟩, Turn.of_below HB5.out⟩
    · exact (HT.out.wide (fun k h1 h2 => ⟨h1, h2⟩)).keep (fun k hk _ => HB5.out.block k hk.2)
    · rw [← HM.out]
      exact own_less HO5.out (by rw [HZ.out]; omega)
    · exact own_set HO5.out (fun k hk => by rw [HZ.out]; omega)
  case round =>
    obtain ⟨i, S', va, rfl, hi, rfl, ht, hs', hon, hgn, hrows, htu⟩ := hrel
    rw [← HM.out] at hi hon
    have HON := Lib.hid hon
    have HTU := Lib.hid htu
    have HS' := Lib.hid hs'
    by_cases hlt : i < m
    · obtain ⟨vs, hvs⟩ := hrows
      have HVS := Lib.hid hvs
      obtain ⟨s, hs⟩ : ∃ s, ns[i]? = some s := ⟨_, List.getElem?_eq_getElem (by rw [← HM.out]; exact hlt)⟩
      obtain ⟨ad, rfl, _, hcx⟩ := (Reads.of_own hon).2 (by omega)
      have k0 := hcx i (tsv s) (by rw [List.getElem?_map, hs]; rfl)
      have hsl := HNL.out s (List.mem_of_getElem? hs)
      have htk : (ns.take (i + 1)).foldl tput tl = tput ((ns.take i).foldl tput tl) s := by rw [List.take_add_one, hs, List.foldl_append]; rfl
      have hfl : freshL tl (ns.take (i + 1)) = freshL tl (ns.take i) ++ (if s ∈ (ns.take i).foldl tput tl then [] else [0 :: s]) := by rw [List.take_add_one, hs]; exact freshL_snoc _ _ _
      have HTK := Lib.hid htk
      have HFL := Lib.hid hfl
      have hlen := tfold_len (ns.take i) tl
      have hlen2 := freshL_len (ns.take i) tl
      rw [List.length_take] at hlen hlen2
      have HID := Lib.hid (ID_any S' bt (N + i) _ s (by unfold maxLen; omega) (by have := HTL.out; omega) (by have := HNN.out; omega) wr ht)
      unfold tsv at k0 HID
      obtain ⟨q, hq⟩ : ∃ q, q = decide (s ∈ (ns.take i).foldl tput tl) := ⟨_, rfl⟩
      rw [← hq] at HID
      have HQ := Lib.hid hq
      have hssz : (tx s).size = s.length := tx_size s
      have HSSZ := Lib.hid hssz
      have HSL := Lib.hid hsl
      have HLEN2 : Hid ((freshL tl (ns.take i)).length ≤ 2000) := by show _ ≤ _; omega
      -- behind ID: the table's set, cut off at what there is
      have BEH : Hid (∀ w6, Tab w6 (fun k => S' k ∨ wr.heap.size ≤ k) bt (N + i + 1) (tput ((ns.take i).foldl tput tl) s) → Turn S' wr w6 → (Tab w6 (fun k => (S' k ∨ wr.heap.size ≤ k) ∧ k < w6.heap.size) bt (N + (i + 1)) ((ns.take (i + 1)).foldl tput tl) ∧ (∀ k, ((S' k ∨ wr.heap.size ≤ k) ∧ k < w6.heap.size) → k < w6.heap.size ∧ (S k ∨ w.heap.size ≤ k)) ∧ w6.ownsRow w.heap.size 9 1 (.slice (some ad) m c5) m (ns.map tsv) ∧ (∀ g, (Value.slice (some ad) m c5).ownBlock = some g → ¬ ((S' g ∨ wr.heap.size ≤ g) ∧ g < w6.heap.size)) ∧ Turn S w w6 ∧ RowsV w6 w.heap.size (fun k => (S' k ∨ wr.heap.size ≤ k) ∧ k < w6.heap.size) va (freshL tl (ns.take i)) vs)) := fun w6 h1 h2 => by
        refine ⟨by rw [HTK.out]; exact (h1.wide (fun k a b => ⟨a, b⟩)), fun k hk => ⟨hk.2, ?_⟩, own_heap HON.out (fun g hg => h2.2.2.2.2 g (own_lt HON.out g hg) (hgn g hg)), fun g hg h3 => ?_, htu.trans h2 (fun k h3 h4 => ?_), ?_⟩
        · rcases hk.1 with h3 | h3
          · exact (HS'.out k h3).2
          · exact .inr (by have := htu.2.2.2.1; omega)
        · rcases h3.1 with h4 | h4
          · exact hgn g hg h4
          · have := own_lt HON.out g hg; omega
        · rcases (HS'.out k h4).2 with h5 | h5
          · exact h5
          · omega
        · obtain ⟨e1, e2, e3, e4⟩ := HVS.out
          obtain ⟨g1, g2, g3, g4⟩ := HVS.out.turn h2 (fun _ _ h => h)
          refine ⟨g1, fun g hg h5 => ?_, g3, fun j p hp => ?_⟩
          · rcases h5.1 with h6 | h6
            · exact g2 g hg h6
            · have := own_lt e1 g hg; omega
          · obtain ⟨v, f1, f2, f3⟩ := g4 j p hp
            obtain ⟨v', c1, c2, c3⟩ := e4 j p hp
            obtain rfl : v = v' := by rw [f1] at c1; exact Option.some.inj c1
            refine ⟨v, f1, f2, fun g hg h5 => ?_⟩
            rcases h5.1 with h6 | h6
            · exact f3 g hg h6
            · have := own_lt c2 g hg; omega
      have hi0 : (0 : Int) ≤ (i : Int) := by omega
      have hi1 : (i : Int) < (m : Int) := by omega
      clear hcx hs htk hfl hlen hlen2 ht hs' hon hgn hvs htu hq hssz hsl
      cases q with
      | true =>
        have HIN := Lib.hid (of_decide_eq_true HQ.out.symm)
        go_wp2_with (go_at_call 21; refine HID.out.mono ?_; rintro e w6 ⟨rfl, ht6, htu6⟩; have HB := Lib.hid (BEH.out w6 ht6 htu6); clear ht6 htu6)
        refine ⟨⟨i + 1, _, _, rfl, by rw [← HM.out]; omega, by go_num, HB.out.1, HB.out.2.1, by rw [← HM.out]; exact HB.out.2.2.1, HB.out.2.2.2.1, ?_, HB.out.2.2.2.2.1⟩, by simp [intOf]; omega⟩
        rw [HFL.out, if_pos HIN.out, List.append_nil]
        exact ⟨vs, HB.out.2.2.2.2.2⟩
      | false =>
        have HIN := Lib.hid (of_decide_eq_false HQ.out.symm)
        go_wp2_with (first
          | (at_builtin; refine wpList_append_told _ rfl (.tmp 28) (.tmp 32) 32 rfl w.heap.size 44 i0 _ 1 24 Try.underlying32 ii0 iz0 iz1 iz2 rfl (by decide) va _ vs rfl HRV9.out.1 (some ⟨w8.heap.size, 0, none⟩) 1 1 (w8.heap.size + 1) [.slice A8 (1 + s.length) c8] rfl (by simp) HR9.out (fun u hu => by obtain rfl := List.mem_singleton.1 hu; rfl) (by have := HLEN2.out; unfold maxLen; omega) (by have := HLEN2.out; omega) (by have h1 := HB9.out.size; have h2 := HB.out.2.2.2.2.1.2.2.2.1; omega) ?_; intro v10 w10 ho10 hg10 hv10; have HO10 := Lib.hid ho10; have HG10 := Lib.hid hg10; have HV10 := Lib.hid hv10; clear ho10 hg10 hv10)
          | (at_builtin; have ho7 := ownsRow_of_block (base := w6.heap.size) (cap := 1) (n := 1) (cs := [bv 0]) (xs := [bv 0]) (Nat.le_refl _) (one_new w6 (.cells #[.int .u8 0] 5)) (Nat.le_refl _) (by unfold maxLen; omega) rfl rfl; refine Lib.wpList_append_own_string _ rfl (.tmp 29) (.tmp 30) 44 9 rfl w6.heap.size 5 i5 Try.underlying44 Try.underlying9 ji0 jz0 jz1 jz2 (.slice (some ⟨w6.heap.size, 0, none⟩) 1 1) 1 [bv 0] rfl ho7 (tx s) rfl (by rw [HSSZ.out]; have := HSL.out; unfold maxLen; omega) (by rw [HSSZ.out]; have := HSL.out; omega) (by simp) ?_; intro v8 w8 ho8 hg8 _; rw [HSSZ.out, strCells_tx] at ho8; obtain ⟨A8, c8, rfl, hc8⟩ := own_slice ho8; have HO8 := Lib.hid (World.ownsRow.alloc ho8 (.cells #[.slice A8 (1 + s.length) c8] 44)); have HC8 := Lib.hid hc8; have HB9 := Lib.hid ((((Below.refl w6.heap.size w6).alloc (Nat.le_refl _) (.cells #[.int .u8 0] 5)).grown hg8 (by simp) (fun g hg => by have h1 : w6.heap.size = g := (by simpa [Value.ownBlock] using hg); omega)).alloc (by have h1 := hg8.size; simp at h1; omega) (.cells #[.slice A8 (1 + s.length) c8] 44)); have HR9 := Lib.hid (reads_one_row w8 44 (.slice A8 (1 + s.length) c8)); have HRV9 := Lib.hid (HB.out.2.2.2.2.2.below HB9.out); clear ho7 ho8 hg8 hc8)
          | (go_at_call 21; refine HID.out.mono ?_; rintro e w6 ⟨rfl, ht6, htu6⟩; have HB := Lib.hid (BEH.out w6 ht6 htu6); clear ht6 htu6))
        have htu10 : Turn (fun k => va.ownBlock = some k) w6 w10 := (Turn.of_below HB9.out).grown HG10.out (fun k hk _ => hk)
        have hvb := HB.out.2.2.2.2.2.2.1
        refine ⟨⟨i + 1, _, _, rfl, by rw [← HM.out]; omega, by go_num, HB.out.1.turn htu10 (fun k h1 _ h2 => hvb k h2 h1), fun k hk => ⟨Nat.lt_of_lt_of_le hk.2 htu10.2.2.2.1, (HB.out.2.1 k hk).2⟩, by rw [← HM.out]; exact own_heap HB.out.2.2.1 (fun g hg => htu10.2.2.2.2 g (own_lt HB.out.2.2.1 g hg) (fun h => own_apart HB.out.2.2.1 HB.out.2.2.2.2.2.1 (by decide) g hg h)), HB.out.2.2.2.1, ?_, HB.out.2.2.2.2.1.trans htu10 (fun k h1 h2 => by have := own_block HB.out.2.2.2.2.2.1 k h2; omega)⟩, by simp [intOf]; omega⟩
        rw [HFL.out, if_neg HIN.out]
        refine ⟨_, HRV9.out.push (v := .slice A8 (1 + s.length) c8) (p := 0 :: s) ?_ ?_ HO10.out HG10.out HV10.out ?_⟩
        · have h1 := own_less HO8.out (show w.heap.size ≤ w6.heap.size from HB.out.2.2.2.2.1.2.2.2.1)
          rw [show (0 :: s).length = 1 + s.length by simp; omega]
          exact h1
        · exact own_set HO8.out (fun k hk => hk.2)
        · intro h
          have h1 := HB9.out.size
          have h2 := h.2
          omega
    · obtain rfl : i = m := by omega
      rw [HM.out, List.take_length] at ht hrows
      have HTT := Lib.hid ht
      have HRR := Lib.hid hrows
      clear ht hrows hs' hon hgn htu
      go_wp2
      go_ret
      exact ⟨_, S', rfl, HTT.out, HS'.out, HRR.out, HTU.out⟩

end Go.Proofs.Ytfidfhajnobonaa

/- What Put lays; schema.written at a record that may be. -/
namespace Go.Proofs.Ytfidfhajnobonaa
open Go.RowKit

/-- The table behind Put. -/
def tabT (ver : Int) (tl : List (List UInt8)) (r : Rc) (l : List Dp) : List (List UInt8) := if ver < 2 then tl else (rnames r l).foldl tput tl
/-- The texts' payloads. -/
def freT (ver : Int) (tl : List (List UInt8)) (r : Rc) (l : List Dp) : List (List UInt8) := if ver < 2 then [] else freshL tl (rnames r l)
/-- A record's last payload, by the table then. -/
def payB (ver : Int) (tl : List (List UInt8)) (r : Rc) (l : List Dp) : List UInt8 :=
  if r.kind = 2 then 2 :: nmB ver tl r.target
  else 1 :: (nmB ver tl r.target ++ (vb r.rule.toNat ++ (fDeps ver tl l ++ (vb r.out.toNat ++ ((if ver < 2 then [] else vb r.time.toNat) ++ (if ver < 3 then [] else fTag tl r))))))
/-- All payloads. -/
def payL (ver : Int) (tl : List (List UInt8)) (r : Rc) (l : List Dp) : List (List UInt8) := freT ver tl r l ++ [payB ver (tabT ver tl r l) r l]

theorem may_names {v : Int} {r : Rc} {l : List Dp} (h : MayP v r l) : r.target.length ≤ 64 ∧ r.tag.length ≤ 64 ∧ l.length ≤ 16 ∧ ∀ d ∈ l, d.name.length ≤ 64 := by
  obtain ⟨_, _, ht, h⟩ := h
  have h0 : r.target.length ≤ 64 := (of_decide_eq_true ht).2
  rcases h with ⟨_, _, hg, hd⟩ | ⟨_, hr, hl⟩
  · refine ⟨h0, ?_, hd.1, fun d hm => ?_⟩
    · rcases hg with hg | hg
      · rw [hg]; simp
      · exact hg.2
    · exact (of_decide_eq_true (hd.2.1 d hm).1).2
  · refine ⟨h0, ?_, by rw [hl]; simp, by rw [hl]; simp⟩
    rw [hr]; simp
theorem tnew_in {ts : List (List UInt8)} {s : List UInt8} (h : s ∈ tnew ts) : s ∈ ts := by
  have key : ∀ (ts l : List (List UInt8)), s ∈ ts.foldl tput l → s ∈ l ∨ s ∈ ts := by
    intro ts
    induction ts with
    | nil => intro l h; exact .inl h
    | cons a ts ih =>
      intro l h
      rcases ih (tput l a) h with h | h
      · unfold tput at h
        split at h
        · exact .inl h
        · rcases List.mem_append.1 h with h | h
          · exact .inl h
          · exact .inr (by simp at h; simp [h])
      · exact .inr (by simp [h])
  rcases key ts [] h with h | h
  · simp at h
  · exact h
theorem rnames_le {v : Int} {r : Rc} {l : List Dp} (h : MayP v r l) : (∀ s ∈ rnames r l, s.length ≤ 64) ∧ (rnames r l).length ≤ 18 := by
  obtain ⟨h1, h2, h3, h4⟩ := may_names h
  refine ⟨fun s hs => ?_, ?_⟩
  · have hm := tnew_in hs
    rcases List.mem_append.1 hm with hm | hm
    · rcases List.mem_cons.1 hm with rfl | hm
      · exact h1
      · obtain ⟨d, hd, rfl⟩ := List.mem_map.1 hm
        exact h4 d hd
    · split at hm
      · simp at hm
      · obtain rfl : s = r.tag := by simpa using hm
        exact h2
  · have := tnew_len (r.target :: names l ++ (if r.tag = [] then [] else [r.tag]))
    unfold rnames
    have h5 : (r.target :: names l ++ (if r.tag = [] then [] else [r.tag])).length ≤ 18 := by
      rw [List.length_append, List.length_cons, show (names l).length = l.length from List.length_map _]
      split <;> simp <;> omega
    omega

theorem fDeps_len {ver : Int} {tl : List (List UInt8)} {l : List Dp} (hl : l.length ≤ 16) (hd : ∀ d ∈ l, d.name.length ≤ 64) (hh : ∀ d ∈ l, 0 ≤ d.hash ∧ d.hash < 18446744073709551616) (ht : tl.length ≤ 1073741824) : (fDeps ver tl l).length ≤ 10000 := by
  unfold fDeps
  rw [List.length_append]
  have h1 := fDeps_take ver tl l (m := l.length) hd hh ht
  rw [List.take_length] at h1
  have h2 := vb_len l.length (small_vb (by omega))
  omega
theorem fTag_len {tl : List (List UInt8)} {r : Rc} (ht : tl.length ≤ 1073741824) : (fTag tl r).length ≤ 10 := by
  unfold fTag
  split
  · exact vb_len 0 (small_vb (by omega))
  · exact vb_len _ (small_vb (by have := tnum_le (s := r.tag) ht; omega))

theorem kind_may {v : Int} {r : Rc} {l : List Dp} (h : MayP v r l) : (r.kind = 1 ∧ 1 ≤ v ∧ v ≤ 3) ∨ r.kind = 2 := by
  obtain ⟨h1, h2, _, h⟩ := h
  rcases h with ⟨h, _⟩ | ⟨h, _⟩
  · exact .inl ⟨h, h1, h2⟩
  · exact .inr h

theorem written_any (T : Nat → Prop) (bt N n c : Nat) (ver : Int) (tl : List (List UInt8)) (r : Rc) (A : Option Addr) (l : List Dp) (hm : MayP ver r l) (hnu : Nums r l) (htl : tl.length ≤ 1073741824) (w : World) (hT : Tab w T bt N tl) (hr : Reads w w.heap.size 3 A n (dps l)) :
    Calls Try.prog 24 #[.int .i64 ver, .pointer (some ⟨bt, 0, none⟩), rcv r A n c] w fun e w' => ∃ v, e = .returned v ∧ w'.ownsRow w.heap.size 5 1 v (payB ver tl r l).length ((payB ver tl r l).map bv) ∧ Below w.heap.size w w' := by
  obtain ⟨h1, h2, h3, h4⟩ := may_names hm
  have hn : n ≤ 1000 := by have := hr.1; rw [dps_len] at this; omega
  have hvt := vb_len _ (num_nat hnu.1).2
  have hvo := vb_len _ (num_nat hnu.2.1).2
  have hvw := vb_len _ (num_nat hnu.2.2.1).2
  have hnm := nmB_len (ver := ver) h1 htl
  have hfd := fDeps_len (ver := ver) h3 h4 hnu.2.2.2 htl
  have hfg := fTag_len (r := r) htl
  have L0 : ∀ (S T : Nat → Prop) (B : Nat), Lays 47 S (w.heap.size + 1 + 1) ver bt w.heap.size (fun W => Env W S T bt N tl w.heap.size r A n c l B) (nmB ver tl r.target) := fun S T B => lays_target S T _ bt N _ n c B ver tl r A l htl h1
  have L1 : ∀ (S T : Nat → Prop) (B : Nat), Lays 48 S (w.heap.size + 1 + 1) ver bt w.heap.size (fun W => Env W S T bt N tl w.heap.size r A n c l B) (vb r.rule.toNat) := fun S T B => lays_rule S T _ bt N _ n c B ver tl r A l hnu
  have L2 : ∀ (S T : Nat → Prop) (B : Nat), Lays 49 S (w.heap.size + 1 + 1) ver bt w.heap.size (fun W => Env W S T bt N tl w.heap.size r A n c l B) (fDeps ver tl l) := fun S T B => lays_deps S T _ bt N _ n c B ver tl r A l htl hnu h4 hn
  have L3 : ∀ (S T : Nat → Prop) (B : Nat), Lays 50 S (w.heap.size + 1 + 1) ver bt w.heap.size (fun W => Env W S T bt N tl w.heap.size r A n c l B) (vb r.out.toNat) := fun S T B => lays_out S T _ bt N _ n c B ver tl r A l hnu
  have L4 : ∀ (S T : Nat → Prop) (B : Nat), Lays 51 S (w.heap.size + 1 + 1) ver bt w.heap.size (fun W => Env W S T bt N tl w.heap.size r A n c l B) (vb r.time.toNat) := fun S T B => lays_when S T _ bt N _ n c B ver tl r A l hnu
  have L5 : ∀ (S T : Nat → Prop) (B : Nat), Lays 52 S (w.heap.size + 1 + 1) ver bt w.heap.size (fun W => Env W S T bt N tl w.heap.size r A n c l B) (fTag tl r) := fun S T B => lays_tag S T _ bt N _ n c B ver tl r A l htl h2
  rcases kind_may hm with ⟨hk, hv1, hv2⟩ | hk
  · have hv : ver = 1 ∨ ver = 2 ∨ ver = 3 := by omega
    rcases hv with rfl | rfl | rfl
    · have hp : payB 1 tl r l = 1 :: flat [(47, nmB 1 tl r.target), (48, vb r.rule.toNat), (49, fDeps 1 tl l), (50, vb r.out.toNat)] := by
        unfold payB
        rw [if_neg (by omega)]
        simp [flat]
      rw [hp]
      refine written_core T bt N n c 1 tl r A l 1 hk (by decide) [(47, nmB 1 tl r.target), (48, vb r.rule.toNat), (49, fDeps 1 tl l), (50, vb r.out.toNat)] (by simp) ?_ ?_ w hT hr ?_ ?_
      · intro x hx
        simp only [List.mem_cons, List.not_mem_nil, or_false] at hx
        rcases hx with rfl | rfl | rfl | rfl <;> (simp only []; omega)
      · intro x hx
        simp only [List.mem_cons, List.not_mem_nil, or_false] at hx
        rcases hx with rfl | rfl | rfl | rfl <;> simp
      · intro W
        rw [hk]
        exact of_11 47 48 49 50 51 52 (.pointer (some ⟨w.heap.size + 1 + 1, 0, none⟩)) W
      · intro x hx S T B
        simp only [List.mem_cons, List.not_mem_nil, or_false] at hx
        rcases hx with rfl | rfl | rfl | rfl
        · exact L0 S T B
        · exact L1 S T B
        · exact L2 S T B
        · exact L3 S T B
    · have hp : payB 2 tl r l = 1 :: flat [(47, nmB 2 tl r.target), (48, vb r.rule.toNat), (49, fDeps 2 tl l), (50, vb r.out.toNat), (51, vb r.time.toNat)] := by
        unfold payB
        rw [if_neg (by omega)]
        simp [flat]
      rw [hp]
      refine written_core T bt N n c 2 tl r A l 1 hk (by decide) [(47, nmB 2 tl r.target), (48, vb r.rule.toNat), (49, fDeps 2 tl l), (50, vb r.out.toNat), (51, vb r.time.toNat)] (by simp) ?_ ?_ w hT hr ?_ ?_
      · intro x hx
        simp only [List.mem_cons, List.not_mem_nil, or_false] at hx
        rcases hx with rfl | rfl | rfl | rfl | rfl <;> (simp only []; omega)
      · intro x hx
        simp only [List.mem_cons, List.not_mem_nil, or_false] at hx
        rcases hx with rfl | rfl | rfl | rfl | rfl <;> simp
      · intro W
        rw [hk]
        exact of_21 47 48 49 50 51 52 (.pointer (some ⟨w.heap.size + 1 + 1, 0, none⟩)) W
      · intro x hx S T B
        simp only [List.mem_cons, List.not_mem_nil, or_false] at hx
        rcases hx with rfl | rfl | rfl | rfl | rfl
        · exact L0 S T B
        · exact L1 S T B
        · exact L2 S T B
        · exact L3 S T B
        · exact L4 S T B
    · have hp : payB 3 tl r l = 1 :: flat [(47, nmB 3 tl r.target), (48, vb r.rule.toNat), (49, fDeps 3 tl l), (50, vb r.out.toNat), (51, vb r.time.toNat), (52, fTag tl r)] := by
        unfold payB
        rw [if_neg (by omega)]
        simp [flat]
      rw [hp]
      refine written_core T bt N n c 3 tl r A l 1 hk (by decide) [(47, nmB 3 tl r.target), (48, vb r.rule.toNat), (49, fDeps 3 tl l), (50, vb r.out.toNat), (51, vb r.time.toNat), (52, fTag tl r)] (by simp) ?_ ?_ w hT hr ?_ ?_
      · intro x hx
        simp only [List.mem_cons, List.not_mem_nil, or_false] at hx
        rcases hx with rfl | rfl | rfl | rfl | rfl | rfl <;> (simp only []; omega)
      · intro x hx
        simp only [List.mem_cons, List.not_mem_nil, or_false] at hx
        rcases hx with rfl | rfl | rfl | rfl | rfl | rfl <;> simp
      · intro W
        rw [hk]
        exact of_31 47 48 49 50 51 52 (.pointer (some ⟨w.heap.size + 1 + 1, 0, none⟩)) W
      · intro x hx S T B
        simp only [List.mem_cons, List.not_mem_nil, or_false] at hx
        rcases hx with rfl | rfl | rfl | rfl | rfl | rfl
        · exact L0 S T B
        · exact L1 S T B
        · exact L2 S T B
        · exact L3 S T B
        · exact L4 S T B
        · exact L5 S T B
  · have hp : payB ver tl r l = 2 :: flat [(47, nmB ver tl r.target)] := by
      unfold payB
      rw [if_pos hk]
      simp [flat]
    rw [hp]
    refine written_core T bt N n c ver tl r A l 2 hk (by decide) [(47, nmB ver tl r.target)] (by simp) ?_ ?_ w hT hr ?_ ?_
    · intro x hx
      obtain rfl := List.mem_singleton.1 hx
      simp only []; omega
    · intro x hx
      obtain rfl := List.mem_singleton.1 hx
      simp
    · intro W
      rw [hk]
      exact of_2 47 48 49 50 51 52 (.pointer (some ⟨w.heap.size + 1 + 1, 0, none⟩)) ver W
    · intro x hx S T B
      obtain rfl := List.mem_singleton.1 hx
      exact L0 S T B

end Go.Proofs.Ytfidfhajnobonaa

/- schema.Put. -/
namespace Go.Proofs.Ytfidfhajnobonaa
open Go.RowKit

theorem cell_block {w w' : World} {p : Addr} (h : w'.heap[p.block]? = w.heap[p.block]?) : w'.cell? p = w.cell? p := by simp [World.cell?, h]
theorem reads_turn {w w' : World} {S : Nat → Prop} {B size n : Nat} {A : Option Addr} {xs : List Value} (h : Reads w B size A n xs) (ha : ∀ ad, A = some ad → 0 < n → ¬ S ad.block) (ht : Turn S w w') (hB : B ≤ w.heap.size) : Reads w' B size A n xs :=
  ⟨h.1, fun hn => by
    obtain ⟨ad, e, h1, h2⟩ := h.2 hn
    refine ⟨ad, e, h1, fun j u hu => (cell_block ?_).trans (h2 j u hu)⟩
    rw [block_of_add]
    exact ht.2.2.2.2 _ (Nat.lt_of_lt_of_le h1 hB) (ha ad e hn)⟩
theorem RowsV.less {w : World} {base base' : Nat} {S : Nat → Prop} {va : Value} {ps : List (List UInt8)} {vs : List Value} (h : RowsV w base S va ps vs) (hb : base' ≤ base) : RowsV w base' S va ps vs := by
  obtain ⟨h1, h2, h3, h4⟩ := h
  refine ⟨own_less h1 hb, h2, h3, fun i p hp => ?_⟩
  obtain ⟨v, h5, h6, h7⟩ := h4 i p hp
  exact ⟨v, h5, own_less h6 hb, h7⟩

/-- What Put answers where it lays something. -/
def PutPost (S : Nat → Prop) (bt N : Nat) (tl' : List (List UInt8)) (ps : List (List UInt8)) (w : World) (e : Ending) (w' : World) : Prop :=
  ∃ (va : Value) (S' : Nat → Prop), e = .returned (.tuple #[va, .int .i64 0]) ∧ Tab w' S' bt (N + 18) tl' ∧ (∀ k, S' k → k < w'.heap.size ∧ (S k ∨ w.heap.size ≤ k)) ∧ Rows w' w.heap.size S' va ps ∧ Turn S w w'

theorem fresh_one (bt n c : Nat) (ver : Int) (hv : ver < 2) (r : Rc) (A : Option Addr) (w : World) :
    Calls Try.prog 23 #[.int .i64 ver, .pointer (some ⟨bt, 0, none⟩), .agg #[.int .i64 r.kind, .string (tx r.target), .int .u64 r.rule, .slice A n c, .int .u64 r.out, .int .u64 r.time, .string (tx r.tag)]] w fun e w' => e = .returned (.slice none 0 0) ∧ Below w.heap.size w w' := by
  have HB := Lib.hid ((Below.refl w.heap.size w).alloc (Nat.le_refl _) (.cells #[.int .i64 r.kind, .string (tx r.target), .int .u64 r.rule, .slice A n c, .int .u64 r.out, .int .u64 r.time, .string (tx r.tag)] 26))
  have d1 : decide (ver < 2) = true := decide_eq_true hv
  clear hv
  go_enter Try.func23, Try.ntmps23
  go_wp2
  go_ret
  exact ⟨rfl, HB.out⟩

theorem tfold_tnew_len (ts l : List (List UInt8)) : (ts.foldl tput l).length ≤ l.length + ts.length := tfold_len ts l
theorem payL_len {ver : Int} {tl : List (List UInt8)} {r : Rc} {l : List Dp} (h : MayP ver r l) : (payL ver tl r l).length ≤ 19 := by
  unfold payL freT
  rw [List.length_append]
  split
  · simp
  · have h1 := freshL_len (rnames r l) tl
    have h2 := (rnames_le h).2
    simp; omega

/-- freshTexts, at whichever version. -/
theorem fresh_any (S : Nat → Prop) (bt N n c : Nat) (ver : Int) (tl : List (List UInt8)) (r : Rc) (A : Option Addr) (l : List Dp) (hm : MayP ver r l) (hfit : Fits r l) (htl : tl.length ≤ 1000000000) (hN : N ≤ 1000000000) (w : World) (hT : Tab w S bt N tl) (hr : Reads w w.heap.size 3 A n (dps l)) :
    Calls Try.prog 23 #[.int .i64 ver, .pointer (some ⟨bt, 0, none⟩), .agg #[.int .i64 r.kind, .string (tx r.target), .int .u64 r.rule, .slice A n c, .int .u64 r.out, .int .u64 r.time, .string (tx r.tag)]] w fun e w' => ∃ (va : Value) (S' : Nat → Prop), e = .returned va ∧ Tab w' S' bt (N + 18) (tabT ver tl r l) ∧ (∀ k, S' k → k < w'.heap.size ∧ (S k ∨ w.heap.size ≤ k)) ∧ Rows w' w.heap.size S' va (freT ver tl r l) ∧ Turn S w w' := by
  obtain ⟨h1, h2, h3, h4⟩ := may_names hm
  have hn : n ≤ 1000 := by have := hr.1; rw [dps_len] at this; omega
  unfold tabT freT
  by_cases hv : ver < 2
  · rw [if_pos hv, if_pos hv]
    refine (fresh_one bt n c ver hv r A w).mono ?_
    rintro e w' ⟨rfl, hb⟩
    have h5 := hT.keep (fun k _ hk => hb.block k hk)
    exact ⟨_, fun k => S k ∧ k < w.heap.size, rfl, ((hT.wide (S2 := fun k => S k ∧ k < w.heap.size) (fun k a b => ⟨a, b⟩)).keep (fun k _ hk => hb.block k hk)).more (by omega), fun k hk => ⟨Nat.lt_of_lt_of_le hk.2 hb.size, .inl hk.1⟩, ⟨[], rows_nil _ _ _⟩, Turn.of_below hb⟩
  · rw [if_neg hv, if_neg hv]
    have hle := rnames_le hm
    refine (fresh_two S bt N n c ver hv tl r A l hn hfit hle.1 htl hN (by omega) w hT hr).mono ?_
    rintro e w' ⟨va, S', rfl, h5, h6, h7, h8⟩
    exact ⟨va, S', rfl, h5.more (by omega), h6, h7, h8⟩

theorem tabT_len {ver : Int} {tl : List (List UInt8)} {r : Rc} {l : List Dp} (h : MayP ver r l) : (tabT ver tl r l).length ≤ tl.length + 18 := by
  unfold tabT
  split
  · omega
  · have h1 := tfold_len (rnames r l) tl
    have h2 := (rnames_le h).2
    omega

set_option maxRecDepth 100000 in
set_option maxHeartbeats 4000000 in
theorem put_ok (S : Nat → Prop) (bt N n c : Nat) (ver : Int) (tl : List (List UInt8)) (r : Rc) (A : Option Addr) (l : List Dp) (hm : MayP ver r l) (hfit : Fits r l) (hnu : Nums r l) (htl : tl.length ≤ 1000000000) (hN : N ≤ 1000000000) (w : World) (hT : Tab w S bt N tl) (hap : ∀ ad, A = some ad → 0 < n → ¬ S ad.block) (hr : Reads w w.heap.size 3 A n (dps l)) :
    Calls Try.prog 11 #[.int .i64 ver, .pointer (some ⟨bt, 0, none⟩), .agg #[.int .i64 r.kind, .string (tx r.target), .int .u64 r.rule, .slice A n c, .int .u64 r.out, .int .u64 r.time, .string (tx r.tag)]] w fun e w' => PutPost S bt N (tabT ver tl r l) (payL ver tl r l) w e w' := by
  obtain ⟨i0, ii0, iz0, iz1, iz2⟩ := info_parts (show (Try.prog.info? 44).map (fun i => (i.zero, i.size, i.bytes)) = some (some (.slice none 0 0), 1, 24) from by kernel_rfl)
  have hn : n ≤ 1000 := by obtain ⟨_, _, h3, _⟩ := may_names hm; have := hr.1; rw [dps_len] at this; omega
  have h0 := one_new w (.cells #[.int .i64 r.kind, .string (tx r.target), .int .u64 r.rule, .slice A n c, .int .u64 r.out, .int .u64 r.time, .string (tx r.tag)] 26)
  have hz : (w.alloc (.cells #[.int .i64 r.kind, .string (tx r.target), .int .u64 r.rule, .slice A n c, .int .u64 r.out, .int .u64 r.time, .string (tx r.tag)] 26)).heap.size = w.heap.size + 1 := by simp
  have hb0 := (Below.refl w.heap.size w).alloc (Nat.le_refl _) (.cells #[.int .i64 r.kind, .string (tx r.target), .int .u64 r.rule, .slice A n c, .int .u64 r.out, .int .u64 r.time, .string (tx r.tag)] 26)
  have HMAY : Hid (∀ W, Below w.heap.size w W → Calls Try.prog 22 #[.int .i64 ver, .agg #[.int .i64 r.kind, .string (tx r.target), .int .u64 r.rule, .slice A n c, .int .u64 r.out, .int .u64 r.time, .string (tx r.tag)]] W fun e w' => e = .returned (.bool true) ∧ Below W.heap.size W w') := fun W hb => (may_any ver r A n c l hn hfit W ((hr.below hb).more hb.size)).mono fun e w' ⟨h1, h2⟩ => ⟨h1.yes hm, h2⟩
  have HFR : Hid (∀ W, Below w.heap.size w W → Calls Try.prog 23 #[.int .i64 ver, .pointer (some ⟨bt, 0, none⟩), .agg #[.int .i64 r.kind, .string (tx r.target), .int .u64 r.rule, .slice A n c, .int .u64 r.out, .int .u64 r.time, .string (tx r.tag)]] W fun e w' => ∃ (va : Value) (S' : Nat → Prop), e = .returned va ∧ Tab w' S' bt (N + 18) (tabT ver tl r l) ∧ (∀ k, S' k → k < w'.heap.size ∧ ((S k ∧ k < w.heap.size) ∨ W.heap.size ≤ k)) ∧ Rows w' W.heap.size S' va (freT ver tl r l) ∧ Turn (fun k => S k ∧ k < w.heap.size) W w') := fun W hb => fresh_any (fun k => S k ∧ k < w.heap.size) bt N n c ver tl r A l hm hfit htl hN W ((hT.wide (fun k a b => ⟨a, b⟩)).keep (fun k hk _ => hb.block k hk.2)) ((hr.below hb).more hb.size)
  have HWR : Hid (∀ (T : Nat → Prop) (W : World), Tab W T bt (N + 18) (tabT ver tl r l) → Reads W W.heap.size 3 A n (dps l) → Calls Try.prog 24 #[.int .i64 ver, .pointer (some ⟨bt, 0, none⟩), .agg #[.int .i64 r.kind, .string (tx r.target), .int .u64 r.rule, .slice A n c, .int .u64 r.out, .int .u64 r.time, .string (tx r.tag)]] W fun e w' => ∃ v, e = .returned v ∧ w'.ownsRow W.heap.size 5 1 v (payB ver (tabT ver tl r l) r l).length ((payB ver (tabT ver tl r l) r l).map bv) ∧ Below W.heap.size W w') := fun T W h1 h2 => written_any T bt (N + 18) n c ver (tabT ver tl r l) r A l hm hnu (by have := tabT_len (tl := tl) hm; omega) W h1 h2
  have HLEN : Hid ((freT ver tl r l).length ≤ 18) := by have h1 := payL_len (tl := tl) hm; unfold payL at h1; rw [List.length_append] at h1; show _ ≤ _; simp at h1; omega
  have d1 : decide (ver < 1) = false := decide_eq_false (by have := hm.1; omega)
  have d2 : decide (ver > 3) = false := decide_eq_false (by have := hm.2.1; omega)
  have HA0 := Lib.hid h0
  have HZ := Lib.hid hz
  have HB0 := Lib.hid hb0
  have HR := Lib.hid hr
  have HAP := Lib.hid hap
  have HCELL : Hid (∀ {i : Nat} {x : Value}, (#[.int .i64 r.kind, .string (tx r.target), .int .u64 r.rule, .slice A n c, .int .u64 r.out, .int .u64 r.time, .string (tx r.tag)] : Array Value)[i]? = some x → ∀ {W : World}, W.heap[w.heap.size]? = some (.cells #[.int .i64 r.kind, .string (tx r.target), .int .u64 r.rule, .slice A n c, .int .u64 r.out, .int .u64 r.time, .string (tx r.tag)] 26 (0, 0)) → W.cell? ⟨w.heap.size, i, none⟩ = some x) := fun hi W hb => at_cell hb hi
  have q0 := at_cell (i := 0) h0 rfl
  have q1 := at_cell (i := 1) h0 rfl
  have q2 := at_cell (i := 2) h0 rfl
  have q3 := at_cell (i := 3) h0 rfl
  have q4 := at_cell (i := 4) h0 rfl
  have q5 := at_cell (i := 5) h0 rfl
  have q6 := at_cell (i := 6) h0 rfl
  clear h0 hz hb0 hm hfit hnu hT hr hn htl hN hap
  go_enter Try.func11, Try.ntmps11
  go_wp2_with (go_at_call 22; refine (HMAY.out _ HB0.out).mono ?_; rintro e w5 ⟨rfl, hb5⟩; have HB5 := Lib.hid (HB0.out.trans (hb5.mono HB0.out.size)); have HH5 := Lib.hid ((hb5.block w.heap.size (by rw [HZ.out]; omega)).trans HA0.out); have HZ5 : Hid (w.heap.size + 1 ≤ w5.heap.size) := (by have h1 := hb5.size; rw [HZ.out] at h1; exact h1); clear hb5)
  refine wp_region_held (S := fun v1 => v1.heap[w.heap.size]? = some (.cells #[.int .i64 r.kind, .string (tx r.target), .int .u64 r.rule, .slice A n c, .int .u64 r.out, .int .u64 r.time, .string (tx r.tag)] 26 (0, 0))) (by kernel_rfl) ?_
  have hS : w5.drew.heap[w.heap.size]? = some (.cells #[.int .i64 r.kind, .string (tx r.target), .int .u64 r.rule, .slice A n c, .int .u64 r.out, .int .u64 r.time, .string (tx r.tag)] 26 (0, 0)) := HH5.out
  refine h_take 0 (.int .i64 ver) rfl (by kernel_rfl) (by kernel_rfl) (by kernel_rfl) (fun _ _ _ h => h) (by kernel_rfl) hS (fun _ _ => by kernel_rfl) ?_
  refine h_take 1 (.pointer (some ⟨bt, 0, none⟩)) rfl (by kernel_rfl) (by kernel_rfl) (by kernel_rfl) (fun _ _ _ h => h) (by kernel_rfl) hS (fun _ _ => by kernel_rfl) ?_
  refine h_take 2 (.agg #[.int .i64 r.kind, .string (tx r.target), .int .u64 r.rule, .slice A n c, .int .u64 r.out, .int .u64 r.time, .string (tx r.tag)]) rfl (by kernel_rfl) (by kernel_rfl) (by kernel_rfl) (fun _ _ _ h => h) (by kernel_rfl) hS (by intro v1 hv; have q0 := HCELL.out (i := 0) rfl hv; have q1 := HCELL.out (i := 1) rfl hv; have q2 := HCELL.out (i := 2) rfl hv; have q3 := HCELL.out (i := 3) rfl hv; have q4 := HCELL.out (i := 4) rfl hv; have q5 := HCELL.out (i := 5) rfl hv; have q6 := HCELL.out (i := 6) rfl hv; go_simp; try rfl) ?_
  refine h_take 4 (.int .i64 ver) rfl (by kernel_rfl) (by kernel_rfl) (by kernel_rfl) (fun _ _ _ h => h) (by kernel_rfl) hS (fun _ _ => by kernel_rfl) ?_
  refine h_take 5 (.pointer (some ⟨bt, 0, none⟩)) rfl (by kernel_rfl) (by kernel_rfl) (by kernel_rfl) (fun _ _ _ h => h) (by kernel_rfl) hS (fun _ _ => by kernel_rfl) ?_
  refine h_take 6 (.agg #[.int .i64 r.kind, .string (tx r.target), .int .u64 r.rule, .slice A n c, .int .u64 r.out, .int .u64 r.time, .string (tx r.tag)]) rfl (by kernel_rfl) (by kernel_rfl) (by kernel_rfl) (fun _ _ _ h => h) (by kernel_rfl) hS (by intro v1 hv; have q0 := HCELL.out (i := 0) rfl hv; have q1 := HCELL.out (i := 1) rfl hv; have q2 := HCELL.out (i := 2) rfl hv; have q3 := HCELL.out (i := 3) rfl hv; have q4 := HCELL.out (i := 4) rfl hv; have q5 := HCELL.out (i := 5) rfl hv; have q6 := HCELL.out (i := 6) rfl hv; go_simp; try rfl) ?_
  refine h_one 3 rfl (by kernel_rfl) (by kernel_rfl) (fun K hK => ?_)
  go_simp
  refine (HFR.out _ HB5.out.drew).mono ?_
  rintro e w6 ⟨va, S', rfl, ht6, hs6, ⟨vs, hv6⟩, htu6⟩
  have hS6 : w6.heap[w.heap.size]? = some (.cells #[.int .i64 r.kind, .string (tx r.target), .int .u64 r.rule, .slice A n c, .int .u64 r.out, .int .u64 r.time, .string (tx r.tag)] 26 (0, 0)) := (htu6.2.2.2.2 w.heap.size (by have := HZ5.out; show _ < w5.heap.size; omega) (fun h => by omega)).trans HH5.out
  have htw6 : Turn S w w6 := (Turn.of_below HB5.out).trans (b := w5) (c := w6) htu6 (fun k h1 h2 => h2.1)
  have hsz6 : w.heap.size + 1 ≤ w6.heap.size := Nat.le_trans HZ5.out htu6.2.2.2.1
  have hr6 : Reads w6 w6.heap.size 3 A n (dps l) := (reads_turn (HR.out.below HB5.out) (fun ad h1 h2 h3 => HAP.out ad h1 h2 h3.1) (Turn.trans (S := fun k => S k ∧ k < w.heap.size) (a := w5) (b := w5) (Turn.refl _ _) htu6 (fun _ _ h => h)) HB5.out.size).more (by have := htu6.2.2.2.1; have := HB5.out.size; omega)
  refine hK _ _ hS6 ?_
  clear hK K
  refine h_one 7 rfl (by kernel_rfl) (by kernel_rfl) (fun K hK => ?_)
  go_simp
  refine (HWR.out S' w6 ht6 hr6).mono ?_
  rintro e w9 ⟨v9, rfl, ho9, hb9⟩
  obtain ⟨A9, c9, rfl, hc9⟩ := own_slice ho9
  have hS9 : w9.heap[w.heap.size]? = some (.cells #[.int .i64 r.kind, .string (tx r.target), .int .u64 r.rule, .slice A n c, .int .u64 r.out, .int .u64 r.time, .string (tx r.tag)] 26 (0, 0)) := (hb9.block w.heap.size (by omega)).trans hS6
  have hv9 := hv6.below hb9
  refine hK _ _ hS9 ?_
  clear hK K
  refine h_one 8 rfl (by kernel_rfl) (by kernel_rfl) (fun K hK => ?_)
  go_simp
  have hz10 : (w9.alloc (.cells #[.slice A9 (payB ver (tabT ver tl r l) r l).length c9] 44)).heap.size = w9.heap.size + 1 := by simp
  have hS10 : (w9.alloc (.cells #[.slice A9 (payB ver (tabT ver tl r l) r l).length c9] 44)).heap[w.heap.size]? = some (.cells #[.int .i64 r.kind, .string (tx r.target), .int .u64 r.rule, .slice A n c, .int .u64 r.out, .int .u64 r.time, .string (tx r.tag)] 26 (0, 0)) := (Below.heap_alloc w9 _ _ (by have := hb9.size; omega)).trans hS9
  have hv10 := hv9.below ((Below.refl _ w9).alloc (Nat.le_refl _) (.cells #[.slice A9 (payB ver (tabT ver tl r l) r l).length c9] 44))
  have ho10 := World.ownsRow.alloc ho9 (.cells #[.slice A9 (payB ver (tabT ver tl r l) r l).length c9] 44)
  have hr10 := reads_one_row w9 44 (.slice A9 (payB ver (tabT ver tl r l) r l).length c9)
  refine hK _ _ hS10 ?_
  clear hK K
  refine h_one 9 rfl (by kernel_rfl) (by kernel_rfl) (fun K hK => ?_)
  refine wp_append_many (.tmp 25) (.tmp 30) 32 rfl w5.heap.size 44 i0 _ 1 24 Try.underlying32 ii0 iz0 iz1 iz2 rfl (by decide) va (freT ver tl r l).length vs rfl hv10.1 (some ⟨w9.heap.size, 0, none⟩) 1 1 (w9.heap.size + 1) [.slice A9 (payB ver (tabT ver tl r l) r l).length c9] rfl (by simp) hr10 (fun u hu => by obtain rfl := List.mem_singleton.1 hu; rfl) (by have := HLEN.out; unfold maxLen; omega) (by have := HLEN.out; omega) (by have h1 := htu6.2.2.2.1; have h2 := hb9.size; have h3 : w5.drew.heap.size = w5.heap.size := rfl; omega) ?_
  intro v11 w11 ho11 hg11 hv11
  have hS11 : w11.heap[w.heap.size]? = some (.cells #[.int .i64 r.kind, .string (tx r.target), .int .u64 r.rule, .slice A n c, .int .u64 r.out, .int .u64 r.time, .string (tx r.tag)] 26 (0, 0)) := (hg11.block w.heap.size (by have := hb9.size; omega) (fun h => by have h1 := own_block hv10.1 _ h.symm; have h2 := HZ5.out; have h3 : w5.drew.heap.size = w5.heap.size := rfl; omega)).trans hS10
  have hfin := (hv10.push (p := payB ver (tabT ver tl r l) r l) (own_less ho10 (show w5.drew.heap.size ≤ w6.heap.size from htu6.2.2.2.1)) (own_set ho10 (fun k hk => (hs6 k hk).1)) ho11 hg11 hv11 (fun h => by have h1 := (hs6 _ h).1; have := hb9.size; omega)).less (show w.heap.size ≤ w5.drew.heap.size from HB5.out.size)
  have hb10 : Below w6.heap.size w6 (w9.alloc (.cells #[.slice A9 (payB ver (tabT ver tl r l) r l).length c9] 44)) := hb9.alloc hb9.size _
  have htu11 : Turn (fun k => va.ownBlock = some k) w6 w11 := (Turn.of_below hb10).grown hg11 (fun k hk _ => hk)
  have ht11 := ht6.turn htu11 (fun k h1 _ h2 => hv6.2.1 k h2 h1)
  have htw11 : Turn S w w11 := htw6.trans htu11 (fun k h1 h2 => by have h3 := own_block hv6.1 k h2; have h4 := HB5.out.size; have h5 : w5.drew.heap.size = w5.heap.size := rfl; omega)
  have hs11 : ∀ k, S' k → k < w11.heap.size ∧ (S k ∨ w.heap.size ≤ k) := fun k hk => ⟨Nat.lt_of_lt_of_le (hs6 k hk).1 htu11.2.2.2.1, by rcases (hs6 k hk).2 with h | h; exact .inl h.1; exact .inr (Nat.le_trans HB5.out.size h)⟩
  have FIN := Lib.hid (show PutPost S bt N (tabT ver tl r l) (payL ver tl r l) w (.returned (.tuple #[v11, .int .i64 0])) w11 from ⟨v11, S', rfl, ht11, hs11, ⟨_, hfin⟩, htw11⟩)
  refine hK _ _ hS11 ?_
  clear hK K
  refine h_take 10 (v11) rfl (by kernel_rfl) (by kernel_rfl) (by kernel_rfl) (fun _ _ _ h => h) (by kernel_rfl) hS11 (fun _ _ => by kernel_rfl) ?_
  refine h_take 11 (.int .i64 0) rfl (by kernel_rfl) (by kernel_rfl) (by kernel_rfl) (fun _ _ _ h => h) (by kernel_rfl) hS11 (fun _ _ => by kernel_rfl) ?_
  refine wpAnyH_done (by kernel_rfl) ?_ _
  go_simp

  go_wp2
  go_ret2
  exact FIN.out

end Go.Proofs.Ytfidfhajnobonaa

/- Payloads that are read; the law's strings, bytes and few. -/
namespace Go.Proofs.Ytfidfhajnobonaa
open Go.RowKit

/-- Payloads as they lie in memory. -/
def PlsV (w : World) (B : Nat) (A : Option Addr) (n : Nat) (ps : List (List UInt8)) (vs : List Value) : Prop :=
  Reads w B 1 A n vs ∧ ps.length = n ∧ ∀ (i : Nat) (p : List UInt8), ps[i]? = some p → ∃ (A' : Option Addr) (c' : Nat), vs[i]? = some (.slice A' p.length c') ∧ Reads w B 1 A' p.length (p.map bv)
def Pls (w : World) (B : Nat) (A : Option Addr) (n : Nat) (ps : List (List UInt8)) : Prop := ∃ vs, PlsV w B A n ps vs
theorem Pls.below {w w' : World} {B : Nat} {A : Option Addr} {n : Nat} {ps : List (List UInt8)} (h : Pls w B A n ps) (hb : Below B w w') : Pls w' B A n ps := by
  obtain ⟨vs, h1, h2, h3⟩ := h
  refine ⟨vs, h1.below hb, h2, fun i p hp => ?_⟩
  obtain ⟨A', c', h4, h5⟩ := h3 i p hp
  exact ⟨A', c', h4, h5.below hb⟩
theorem Pls.more {w : World} {B B' : Nat} {A : Option Addr} {n : Nat} {ps : List (List UInt8)} (h : Pls w B A n ps) (hB : B ≤ B') : Pls w B' A n ps := by
  obtain ⟨vs, h1, h2, h3⟩ := h
  refine ⟨vs, h1.more hB, h2, fun i p hp => ?_⟩
  obtain ⟨A', c', h4, h5⟩ := h3 i p hp
  exact ⟨A', c', h4, h5.more hB⟩
theorem Pls.of_rows {w : World} {base : Nat} {S : Nat → Prop} {va : Value} {ps : List (List UInt8)} (h : Rows w base S va ps) : ∃ A c, va = .slice A ps.length c ∧ (A = none → c = 0) ∧ Pls w w.heap.size A ps.length ps := by
  obtain ⟨vs, h1, h2, h3, h4⟩ := h
  obtain ⟨A, c, rfl, hc⟩ := own_slice h1
  refine ⟨A, c, rfl, hc, vs, Reads.of_own h1, rfl, fun i p hp => ?_⟩
  obtain ⟨v, h5, h6, h7⟩ := h4 i p hp
  obtain ⟨A', c', rfl, _⟩ := own_slice h6
  exact ⟨A', c', h5, Reads.of_own h6⟩

def StRel (w : World) (ps : List (List UInt8)) (va idx : Value) (wr : World) : Prop :=
  ∃ i : Nat, i ≤ ps.length ∧ idx = .int .i64 (i : Int) ∧ wr.ownsRow w.heap.size 9 1 va i ((ps.take i).map tsv) ∧ Below w.heap.size w wr

set_option maxRecDepth 100000 in
set_option maxHeartbeats 1000000 in
theorem strings_any (A : Option Addr) (n c : Nat) (ps : List (List UInt8)) (hn : n ≤ 1000000) (w : World) (h : Pls w w.heap.size A n ps) :
    Calls Try.prog 15 #[.slice A n c] w fun e w' => ∃ A' c', e = .returned (.slice A' n c') ∧ Reads w' w'.heap.size 1 A' n (ps.map tsv) ∧ Below w.heap.size w w' := by
  obtain ⟨i0, ii0, iz0, iz1, iz2⟩ := info_parts tinfo
  obtain ⟨vs, h1, h2, h3⟩ := h
  have H1 := Lib.hid h1
  have HL := Lib.hid h2
  have H3 := Lib.hid h3
  clear h1 h2 h3
  go_enter Try.func15, Try.ntmps15
  go_wp2
  go_loopw [3, 9] (fun va idx wr => StRel w ps va idx wr) (fun va idx wr => n - (intOf idx).toNat)
  case atStart => exact ⟨0, by omega, rfl, own_empty w _, (Below.refl _ _).alloc (Nat.le_refl _) _⟩
  case round =>
    obtain ⟨i, hi, rfl, hown, hb⟩ := hrel
    rw [HL.out] at hi
    have HO := Lib.hid hown
    have HBR := Lib.hid hb
    by_cases hlt : i < n
    · obtain ⟨p, hp⟩ : ∃ p, ps[i]? = some p := ⟨_, List.getElem?_eq_getElem (by rw [HL.out]; exact hlt)⟩
      obtain ⟨A4, c4, hv, hr4⟩ := H3.out i p hp
      obtain ⟨ad, rfl, _, hcx⟩ := (H1.out.below hb).2 (by omega)
      have k0 := hcx i _ hv
      have hr5 : Reads wr w.heap.size 1 A4 p.length (p.map bv) := hr4.below hb
      have hcv : (convert 44 9 (.slice A4 p.length c4)).run Try.prog wr = .ok (.string (tx p)) wr := conv_reads Try.underlying44 Try.underlying5 Try.underlying9 hr5
      have htk : (ps.take (i + 1)).map tsv = (ps.take i).map tsv ++ [.string (tx p)] := by rw [List.take_add_one, hp, List.map_append]; rfl
      have HTK := Lib.hid htk
      have HO2 := Lib.hid (World.ownsRow.alloc hown (.cells #[.string (tx p)] 9))
      have HB2 := Lib.hid (hb.alloc hb.size (.cells #[.string (tx p)] 9))
      have HR2 := Lib.hid (reads_one_row wr 9 (.string (tx p)))
      have hi0 : (0 : Int) ≤ (i : Int) := by omega
      have hi1 : (i : Int) < (n : Int) := by omega
      obtain ⟨m, hm⟩ : ∃ m, m = p.length := ⟨_, rfl⟩
      rw [← hm] at k0 hcv
      clear hp hv hr4 hcx hr5 htk hown hb hm
      go_wp2_with (at_builtin; refine wpList_append_told _ rfl (.tmp 13) (.tmp 16) 22 rfl w.heap.size 9 i0 _ 1 16 Try.underlying22 ii0 iz0 iz1 iz2 rfl (by decide) _ i _ rfl HO2.out (some ⟨wr.heap.size, 0, none⟩) 1 1 (wr.heap.size + 1) [.string (tx p)] rfl (by simp) HR2.out (fun u hu => by obtain rfl := List.mem_singleton.1 hu; rfl) (by unfold maxLen; omega) (by omega) HB2.out.size ?_; intro v6 w6 ho6 hg6 hv6; rw [← HTK.out] at ho6; have HO6 := Lib.hid ho6; have HB6 := Lib.hid (HB2.out.grown hg6 HB2.out.size (own_block HO2.out)); clear ho6 hg6 hv6)
      exact ⟨⟨i + 1, by rw [HL.out]; omega, by go_num, HO6.out, HB6.out⟩, by simp [intOf]; omega⟩
    · obtain rfl : i = n := by omega
      rw [List.take_of_length_le (by rw [HL.out]; omega)] at HO
      obtain ⟨A', c', rfl, _⟩ := own_slice HO.out
      clear hown hb
      go_wp2
      go_ret
      exact ⟨A', c', rfl, Reads.of_own HO.out, HBR.out⟩

/-- What stands at a round of bytes: rows that are read, each in a block of its own. -/
def ByRel (w : World) (ps : List (List UInt8)) (va idx : Value) (wr : World) : Prop :=
  ∃ (i : Nat) (vs : List Value) (va' : Value), va' = va ∧ i ≤ ps.length ∧ idx = .int .i64 (i : Int) ∧ wr.ownsRow w.heap.size 44 1 va' i vs ∧ Below w.heap.size w wr ∧ ∀ (j : Nat) (p : List UInt8), j < i → ps[j]? = some p → ∃ (b c' : Nat) (cs : Array Value) (f : Nat × Nat), vs[j]? = some (.slice (some ⟨b, 0, none⟩) p.length c') ∧ wr.heap[b]? = some (.cells cs 5 f) ∧ ∀ (k : Nat) (u : Value), (p.map bv)[k]? = some u → cs[k]? = some u

set_option maxRecDepth 100000 in
set_option maxHeartbeats 1000000 in
theorem bytes_any (L : Option Addr) (n c : Nat) (ps : List (List UInt8)) (hn : n ≤ 1000000) (hps : ∀ p ∈ ps, p.length ≤ 1000000) (w : World) (h : Reads w w.heap.size 1 L n (ps.map tsv)) :
    Calls Try.prog 19 #[.slice L n c] w fun e w' => ∃ A' c', e = .returned (.slice A' n c') ∧ (A' = none → c' = 0) ∧ Pls w' w'.heap.size A' n ps ∧ Below w.heap.size w w' := by
  obtain ⟨i0, ii0, iz0, iz1, iz2⟩ := info_parts (show (Try.prog.info? 44).map (fun i => (i.zero, i.size, i.bytes)) = some (some (.slice none 0 0), 1, 24) from by kernel_rfl)
  have HL : Hid (ps.length = n) := by have := h.1; show _ = _; simpa using this
  have H1 := Lib.hid h
  have HP := Lib.hid hps
  clear h hps
  go_enter Try.func19, Try.ntmps19
  go_wp2
  go_loopw [3, 8] (fun va idx wr => ByRel w ps va idx wr) (fun va idx wr => n - (intOf idx).toNat)
  case atStart => exact ⟨0, [], _, rfl, by omega, rfl, World.ownsRow_nil _ _ _ _, Below.refl _ _, fun j p hj => by omega⟩
  case round =>
    obtain ⟨i, vs, va, rfl, hi, rfl, hown, hb, hall⟩ := hrel
    rw [HL.out] at hi
    have HO := Lib.hid hown
    have HBR := Lib.hid hb
    have HALL := Lib.hid hall
    by_cases hlt : i < n
    · obtain ⟨p, hp⟩ : ∃ p, ps[i]? = some p := ⟨_, List.getElem?_eq_getElem (by rw [HL.out]; exact hlt)⟩
      obtain ⟨ad, rfl, _, hcx⟩ := (H1.out.below hb).2 (by omega)
      have k0 := hcx i (tsv p) (by rw [List.getElem?_map, hp]; rfl)
      unfold tsv at k0
      have hpl := HP.out p (List.mem_of_getElem? hp)
      have hcv : (convert 9 44 (.string (tx p))).run Try.prog wr = .ok (.slice (some ⟨wr.heap.size, 0, none⟩) (tx p).size (grownCap wr (tx p).size 0 5)) (Lib.bytesWorld wr 5 (tx p)) := Lib.run_convert_string_bytes wr 9 44 5 (tx p) Try.underlying9 Try.underlying44 Try.underlying5
      obtain ⟨X, hX⟩ : ∃ X, X = Lib.bytesWorld wr 5 (tx p) := ⟨_, rfl⟩
      obtain ⟨cap, hcap⟩ : ∃ cap, cap = grownCap wr (tx p).size 0 5 := ⟨_, rfl⟩
      have hbX : Below wr.heap.size wr X := by
        rw [hX]
        exact ⟨rfl, rfl, rfl, by rw [Lib.bytesWorld_size]; omega, fun k hk => Lib.bytesWorld_at_old wr _ _ k hk⟩
      have hXs : X.heap.size = wr.heap.size + 1 := by rw [hX]; exact Lib.bytesWorld_size _ _ _
      have hXn : X.heap[wr.heap.size]? = some (.cells (Lib.bytesCells wr 5 (tx p)) 5 ((Lib.bytesCells wr 5 (tx p)).size, (Lib.bytesCells wr 5 (tx p)).size + 1)) := by rw [hX]; exact Lib.bytesWorld_at_new _ _ _
      have hcs : ∀ (k : Nat) (u : Value), (p.map bv)[k]? = some u → (Lib.bytesCells wr 5 (tx p))[k]? = some u := fun k u hu => by
        have hk : k < p.length := by simpa using (List.getElem?_eq_some_iff.1 hu).1
        unfold Lib.bytesCells
        rw [Array.getElem?_append_left (by simp [tx]; exact hk)]
        simp [tx, hk] at hu ⊢
        exact hu
      rw [← hX, ← hcap, tx_size] at hcv
      have HBX := Lib.hid hbX
      have HXS := Lib.hid hXs
      have HXN := Lib.hid hXn
      have HCS := Lib.hid hcs
      have hp5 := Lib.hid hp
      have HOX := Lib.hid (World.ownsRow.alloc (own_below hown hbX) (.cells #[.slice (some ⟨wr.heap.size, 0, none⟩) p.length cap] 44))
      have HB2 := Lib.hid ((hb.trans (hbX.mono hb.size)).alloc (by have := hb.size; omega) (.cells #[.slice (some ⟨wr.heap.size, 0, none⟩) p.length cap] 44))
      have HR2 := Lib.hid (reads_one_row X 44 (.slice (some ⟨wr.heap.size, 0, none⟩) p.length cap))
      have hi0 : (0 : Int) ≤ (i : Int) := by omega
      have hi1 : (i : Int) < (n : Int) := by omega
      obtain ⟨m, hm⟩ : ∃ m, m = p.length := ⟨_, rfl⟩
      rw [← hm] at hcv HOX HB2 HR2
      have HM := Lib.hid hm
      clear hp hcx hown hb hall hX hcap hbX hXs hXn hcs hpl hm
      go_wp2_with (at_builtin; refine wpList_append_told _ rfl (.tmp 12) (.tmp 15) 32 rfl w.heap.size 44 i0 _ 1 24 Try.underlying32 ii0 iz0 iz1 iz2 rfl (by decide) _ i _ rfl HOX.out (some ⟨X.heap.size, 0, none⟩) 1 1 (X.heap.size + 1) [.slice (some ⟨wr.heap.size, 0, none⟩) m cap] rfl (by simp) HR2.out (fun u hu => by obtain rfl := List.mem_singleton.1 hu; rfl) (by unfold maxLen; omega) (by omega) HB2.out.size ?_; intro v6 w6 ho6 hg6 hv6; have HO6 := Lib.hid ho6; have HG6 := Lib.hid hg6; have HB6 := Lib.hid (HB2.out.grown hg6 HB2.out.size (own_block HOX.out)); clear ho6 hg6 hv6)
      refine ⟨⟨i + 1, _, _, rfl, by rw [HL.out]; omega, by go_num, HO6.out, HB6.out, fun j q hj hq => ?_⟩, by simp [intOf]; omega⟩
      have keep : ∀ (b : Nat) (cs : Array Value) (f : Nat × Nat), X.heap[b]? = some (.cells cs 5 f) → w6.heap[b]? = some (.cells cs 5 f) := fun b cs f h => by
        have hlt : b < X.heap.size := by
          rcases Nat.lt_or_ge b X.heap.size with h2 | h2
          · exact h2
          · rw [Array.getElem?_eq_none h2] at h; cases h
        have h2 := (Below.heap_alloc X (.cells #[.slice (some ⟨wr.heap.size, 0, none⟩) m cap] 44) b hlt).trans h
        exact (HG6.out.block b (by simp; omega) (fun h3 => own_cells HOX.out h2 (by decide) h3.symm)).trans h2
      have hvl : vs.length = i := by have := HO.out.1; omega
      rcases Nat.lt_or_ge j i with hji | hji
      · obtain ⟨b, c', cs, f, h1, h2, h3⟩ := HALL.out j q hji hq
        refine ⟨b, c', cs, f, by rw [List.getElem?_append_left (by omega)]; exact h1, keep b cs f ?_, h3⟩
        have hblt : b < wr.heap.size := by
          rcases Nat.lt_or_ge b wr.heap.size with h4 | h4
          · exact h4
          · rw [Array.getElem?_eq_none h4] at h2; cases h2
        exact (HBX.out.block b hblt).trans h2
      · obtain rfl : j = i := by omega
        rw [hp5.out] at hq
        obtain rfl : p = q := Option.some.inj hq
        exact ⟨wr.heap.size, cap, _, _, by rw [List.getElem?_append_right (by omega), hvl, Nat.sub_self, ← HM.out]; rfl, keep _ _ _ HXN.out, HCS.out⟩
    · obtain rfl : i = n := by omega
      obtain ⟨A', c', rfl, hc'⟩ := own_slice HO.out
      have FIN : Hid (Pls wr wr.heap.size A' i ps) := by
        refine ⟨vs, Reads.of_own HO.out, HL.out, fun j p hp => ?_⟩
        have hj : j < i := by have := (List.getElem?_eq_some_iff.1 hp).1; rw [HL.out] at this; exact this
        obtain ⟨b, c', cs, f, h1, h2, h3⟩ := HALL.out j p hj hp
        refine ⟨_, c', h1, by simp, fun _ => ⟨_, rfl, ?_, fun k u hu => ?_⟩⟩
        · show b < wr.heap.size
          rcases Nat.lt_or_ge b wr.heap.size with h4 | h4
          · exact h4
          · rw [Array.getElem?_eq_none h4] at h2; cases h2
        · rw [show (⟨b, 0, none⟩ : Addr).add k = ⟨b, k, none⟩ from by unfold Addr.add; split <;> simp_all]
          simp [World.cell?, h2, h3 k u hu]
      clear hown hb hall
      go_wp2
      go_ret
      exact ⟨A', c', rfl, hc', FIN.out, HBR.out⟩

def fewP (ps : List (List UInt8)) : Prop := (∀ p ∈ ps, p.length ≤ 3000) ∧ ps.length ≤ 40

set_option maxRecDepth 100000 in
set_option maxHeartbeats 1000000 in
theorem few_any (L : Option Addr) (n c : Nat) (ps : List (List UInt8)) (hn : n ≤ maxLen) (hps : ∀ p ∈ ps, p.length ≤ maxLen) (w : World) (h : Reads w w.heap.size 1 L n (ps.map tsv)) :
    Calls Try.prog 7 #[.slice L n c] w fun e w' => Tells (fewP ps) e ∧ w = w' := by
  have HL : Hid (ps.length = n) := by have := h.1; show _ = _; simpa using this
  have H1 := Lib.hid h
  have HP := Lib.hid hps
  unfold maxLen at hn
  clear h hps
  go_enter Try.func7, Try.ntmps7
  go_wp2
  go_loopw [7] (fun idx wr => ∃ i : Nat, i ≤ n ∧ idx = .int .i64 (i : Int) ∧ (∀ p ∈ ps.take i, p.length ≤ 3000) ∧ wr = w) (fun idx wr => n - (intOf idx).toNat)
  case atStart => exact ⟨0, by omega, rfl, by simp, by trivial⟩
  case round =>
    obtain ⟨i, hi, rfl, hsm, rfl⟩ := hrel
    have HSM := Lib.hid hsm
    clear hsm
    by_cases hlt : i < n
    · obtain ⟨p, hp⟩ : ∃ p, ps[i]? = some p := ⟨_, List.getElem?_eq_getElem (by rw [HL.out]; exact hlt)⟩
      obtain ⟨ad, rfl, _, hcx⟩ := H1.out.2 (by omega)
      have k0 := hcx i (tsv p) (by rw [List.getElem?_map, hp]; rfl)
      unfold tsv at k0
      have hpl := HP.out p (List.mem_of_getElem? hp)
      have HX : Hid (p.length ≤ 3000 → ∀ q ∈ ps.take (i + 1), q.length ≤ 3000) := fun hle q hq => by
        rw [List.take_add_one, hp, List.mem_append] at hq
        rcases hq with hq | hq
        · exact HSM.out q hq
        · simp at hq; subst hq; exact hle
      have HNS : Hid (¬ p.length ≤ 3000 → ¬ fewP ps) := fun hle h => hle (h.1 p (List.mem_of_getElem? hp))
      have hsz := tx_size0 p
      have hi0 : (0 : Int) ≤ (i : Int) := by omega
      have hi1 : (i : Int) < (n : Int) := by omega
      obtain ⟨m, hm⟩ : ∃ m, m = p.length := ⟨_, rfl⟩
      rw [← hm] at hsz hpl HX HNS
      unfold maxLen at hpl
      clear hp hcx hm
      by_cases h3 : m ≤ 3000
      · have hd1 : decide ((m : Int) > 3000) = false := decide_eq_false (by omega)
        have HX2 := Lib.hid (HX.out h3)
        clear HX HNS
        go_wp2
        exact ⟨⟨i + 1, by omega, by go_num, HX2.out, by trivial⟩, by simp [intOf]; omega⟩
      · have hd1 : decide ((m : Int) > 3000) = true := decide_eq_true (by omega)
        have HN2 := Lib.hid (HNS.out h3)
        clear HX HNS
        go_wp2
        go_ret
        exact ⟨tells_false HN2.out, rfl⟩
    · obtain rfl : i = n := by omega
      rw [List.take_of_length_le (by rw [HL.out]; omega)] at HSM
      by_cases h4 : i ≤ 40
      · have HQ : Hid (fewP ps) := ⟨HSM.out, by rw [HL.out]; exact h4⟩
        have END : Hid (∀ b : Bool, b = true → Tells (fewP ps) (.returned (.bool b))) := fun b h => h ▸ tells_true HQ.out
        go_wp2
        go_ret
        exact ⟨END.out _ (by first | rfl | (simp; omega)), rfl⟩
      · have HQ : Hid (¬ fewP ps) := fun h => h4 (by have := h.2; rw [HL.out] at this; exact this)
        have END : Hid (∀ b : Bool, b = false → Tells (fewP ps) (.returned (.bool b))) := fun b h => h ▸ tells_false HQ.out
        go_wp2
        go_ret
        exact ⟨END.out _ (by first | rfl | (simp; omega)), rfl⟩

end Go.Proofs.Ytfidfhajnobonaa

/- Same, at the same lists of texts. -/
namespace Go.Proofs.Ytfidfhajnobonaa
open Go.RowKit

def SRel4 (n : Nat) (w : World) (idx : Value) (wr : World) : Prop := ∃ i : Nat, i ≤ n ∧ idx = .int .i64 (i : Int) ∧ Below w.heap.size w wr

set_option maxRecDepth 100000 in
set_option maxHeartbeats 800000 in
theorem texts_same (A A' : Option Addr) (n c c' B B' : Nat) (xs : List (List UInt8)) (hn : n ≤ 1073741824) (w : World) (hB : B ≤ w.heap.size) (hB' : B' ≤ w.heap.size) (hr : Reads w B 1 A n (xs.map tsv)) (hr' : Reads w B' 1 A' n (xs.map tsv)) :
    Calls Try.prog 14 #[.slice A n c, .slice A' n c'] w fun e w' => e = .returned (.bool true) ∧ Below w.heap.size w w' := by
  have HR := Lib.hid hr
  have HR' := Lib.hid hr'
  clear hr hr'
  go_enter Try.func14, Try.ntmps14
  go_wp2
  go_loopw [5] (fun idx wr => SRel4 n w idx wr) (fun idx _ => n - (intOf idx).toNat)
  case atStart => exact ⟨0, by omega, rfl, Below.refl _ _⟩
  case round =>
    obtain ⟨i, hi, rfl, hb⟩ := hrel
    by_cases hlt : i < n
    · obtain ⟨ad, u, rfl, _, hx, hcell⟩ := (HR.out.below (hb.mono hB)).at_ hlt
      obtain ⟨ad', u', rfl, _, hx', hcell'⟩ := (HR'.out.below (hb.mono hB')).at_ hlt
      obtain rfl : u = u' := by rw [hx] at hx'; exact Option.some.inj hx'
      obtain ⟨x, rfl⟩ : ∃ x, u = .string (tx x) := by
        rw [List.getElem?_map] at hx
        obtain ⟨x, _, rfl⟩ := Option.map_eq_some_iff.1 hx
        exact ⟨x, rfl⟩
      clear hx hx'
      have HB := Lib.hid hb
      clear hb
      go_wp2
      go_region
      all_goals (try go_wp2)
      all_goals exact ⟨⟨i + 1, by omega, by go_num, HB.out.drew⟩, by simp [intOf]; omega⟩
    · obtain rfl : i = n := by omega
      go_wp2
      go_ret
      exact ⟨rfl, hb⟩

end Go.Proofs.Ytfidfhajnobonaa

/- What Put and Get refuse; the example. -/
namespace Go.Proofs.Ytfidfhajnobonaa
open Go.RowKit

set_option maxRecDepth 100000 in
set_option maxHeartbeats 1000000 in
theorem put_low (ver : Int) (hv : ver < 1) (t : Option Addr) (n c : Nat) (r : Rc) (A : Option Addr) (w : World) :
    Calls Try.prog 11 #[.int .i64 ver, .pointer t, .agg #[.int .i64 r.kind, .string (tx r.target), .int .u64 r.rule, .slice A n c, .int .u64 r.out, .int .u64 r.time, .string (tx r.tag)]] w fun e w' => e = .returned (.tuple #[.slice none 0 0, .int .i64 11]) ∧ Below w.heap.size w w' := by
  have h0 := one_new w (.cells #[.int .i64 r.kind, .string (tx r.target), .int .u64 r.rule, .slice A n c, .int .u64 r.out, .int .u64 r.time, .string (tx r.tag)] 26)
  have HB0 := Lib.hid ((Below.refl w.heap.size w).alloc (Nat.le_refl _) (.cells #[.int .i64 r.kind, .string (tx r.target), .int .u64 r.rule, .slice A n c, .int .u64 r.out, .int .u64 r.time, .string (tx r.tag)] 26))
  have q0 := at_cell (i := 0) h0 rfl
  have q1 := at_cell (i := 1) h0 rfl
  have q2 := at_cell (i := 2) h0 rfl
  have q3 := at_cell (i := 3) h0 rfl
  have q4 := at_cell (i := 4) h0 rfl
  have q5 := at_cell (i := 5) h0 rfl
  have q6 := at_cell (i := 6) h0 rfl
  clear h0
  have d1 : decide (ver < 1) = true := decide_eq_true hv
  clear hv
  go_enter Try.func11, Try.ntmps11
  go_wp2
  go_ret2
  exact ⟨rfl, HB0.out⟩

set_option maxRecDepth 100000 in
set_option maxHeartbeats 1000000 in
theorem put_high (ver : Int) (hv : 1 ≤ ver ∧ 3 < ver) (t : Option Addr) (n c : Nat) (r : Rc) (A : Option Addr) (w : World) :
    Calls Try.prog 11 #[.int .i64 ver, .pointer t, .agg #[.int .i64 r.kind, .string (tx r.target), .int .u64 r.rule, .slice A n c, .int .u64 r.out, .int .u64 r.time, .string (tx r.tag)]] w fun e w' => e = .returned (.tuple #[.slice none 0 0, .int .i64 11]) ∧ Below w.heap.size w w' := by
  have h0 := one_new w (.cells #[.int .i64 r.kind, .string (tx r.target), .int .u64 r.rule, .slice A n c, .int .u64 r.out, .int .u64 r.time, .string (tx r.tag)] 26)
  have HB0 := Lib.hid ((Below.refl w.heap.size w).alloc (Nat.le_refl _) (.cells #[.int .i64 r.kind, .string (tx r.target), .int .u64 r.rule, .slice A n c, .int .u64 r.out, .int .u64 r.time, .string (tx r.tag)] 26))
  have q0 := at_cell (i := 0) h0 rfl
  have q1 := at_cell (i := 1) h0 rfl
  have q2 := at_cell (i := 2) h0 rfl
  have q3 := at_cell (i := 3) h0 rfl
  have q4 := at_cell (i := 4) h0 rfl
  have q5 := at_cell (i := 5) h0 rfl
  have q6 := at_cell (i := 6) h0 rfl
  clear h0
  have d1 : decide (ver < 1) = false := decide_eq_false (by omega)
  have d2 : decide (ver > 3) = true := decide_eq_true (by omega)
  clear hv
  go_enter Try.func11, Try.ntmps11
  go_wp2
  go_ret2
  exact ⟨rfl, HB0.out⟩

set_option maxRecDepth 100000 in
set_option maxHeartbeats 1000000 in
theorem put_tnil (ver : Int) (hv : 1 ≤ ver ∧ ver ≤ 3) (n c : Nat) (r : Rc) (A : Option Addr) (w : World) :
    Calls Try.prog 11 #[.int .i64 ver, .pointer none, .agg #[.int .i64 r.kind, .string (tx r.target), .int .u64 r.rule, .slice A n c, .int .u64 r.out, .int .u64 r.time, .string (tx r.tag)]] w fun e w' => e = .returned (.tuple #[.slice none 0 0, .int .i64 1]) ∧ Below w.heap.size w w' := by
  have h0 := one_new w (.cells #[.int .i64 r.kind, .string (tx r.target), .int .u64 r.rule, .slice A n c, .int .u64 r.out, .int .u64 r.time, .string (tx r.tag)] 26)
  have HB0 := Lib.hid ((Below.refl w.heap.size w).alloc (Nat.le_refl _) (.cells #[.int .i64 r.kind, .string (tx r.target), .int .u64 r.rule, .slice A n c, .int .u64 r.out, .int .u64 r.time, .string (tx r.tag)] 26))
  have q0 := at_cell (i := 0) h0 rfl
  have q1 := at_cell (i := 1) h0 rfl
  have q2 := at_cell (i := 2) h0 rfl
  have q3 := at_cell (i := 3) h0 rfl
  have q4 := at_cell (i := 4) h0 rfl
  have q5 := at_cell (i := 5) h0 rfl
  have q6 := at_cell (i := 6) h0 rfl
  clear h0
  have d1 : decide (ver < 1) = false := decide_eq_false (by omega)
  have d2 : decide (ver > 3) = false := decide_eq_false (by omega)
  clear hv
  go_enter Try.func11, Try.ntmps11
  go_wp2
  go_ret2
  exact ⟨rfl, HB0.out⟩

set_option maxRecDepth 100000 in
set_option maxHeartbeats 1000000 in
theorem put_arg (ver : Int) (hv : 1 ≤ ver ∧ ver ≤ 3) (bt : Nat) (n c : Nat) (r : Rc) (A : Option Addr) (w : World) (HM : Hid (∀ W, Below w.heap.size w W → Calls Try.prog 22 #[.int .i64 ver, .agg #[.int .i64 r.kind, .string (tx r.target), .int .u64 r.rule, .slice A n c, .int .u64 r.out, .int .u64 r.time, .string (tx r.tag)]] W fun e w' => e = .returned (.bool false) ∧ Below W.heap.size W w')) :
    Calls Try.prog 11 #[.int .i64 ver, .pointer (some ⟨bt, 0, none⟩), .agg #[.int .i64 r.kind, .string (tx r.target), .int .u64 r.rule, .slice A n c, .int .u64 r.out, .int .u64 r.time, .string (tx r.tag)]] w fun e w' => e = .returned (.tuple #[.slice none 0 0, .int .i64 1]) ∧ Below w.heap.size w w' := by
  have h0 := one_new w (.cells #[.int .i64 r.kind, .string (tx r.target), .int .u64 r.rule, .slice A n c, .int .u64 r.out, .int .u64 r.time, .string (tx r.tag)] 26)
  have HB0 := Lib.hid ((Below.refl w.heap.size w).alloc (Nat.le_refl _) (.cells #[.int .i64 r.kind, .string (tx r.target), .int .u64 r.rule, .slice A n c, .int .u64 r.out, .int .u64 r.time, .string (tx r.tag)] 26))
  have q0 := at_cell (i := 0) h0 rfl
  have q1 := at_cell (i := 1) h0 rfl
  have q2 := at_cell (i := 2) h0 rfl
  have q3 := at_cell (i := 3) h0 rfl
  have q4 := at_cell (i := 4) h0 rfl
  have q5 := at_cell (i := 5) h0 rfl
  have q6 := at_cell (i := 6) h0 rfl
  clear h0
  have d1 : decide (ver < 1) = false := decide_eq_false (by omega)
  have d2 : decide (ver > 3) = false := decide_eq_false (by omega)
  clear hv
  go_enter Try.func11, Try.ntmps11
  go_wp2_with (go_at_call 22; refine (HM.out _ HB0.out).mono ?_; rintro e w5 ⟨rfl, hb5⟩; have HB5 := Lib.hid (HB0.out.trans (hb5.mono HB0.out.size)); clear hb5)
  go_ret2
  exact ⟨rfl, HB5.out⟩

theorem put_way (ver : Int) (hv : ¬ (1 ≤ ver ∧ ver ≤ 3)) (t : Option Addr) (n c : Nat) (r : Rc) (A : Option Addr) (w : World) :
    Calls Try.prog 11 #[.int .i64 ver, .pointer t, .agg #[.int .i64 r.kind, .string (tx r.target), .int .u64 r.rule, .slice A n c, .int .u64 r.out, .int .u64 r.time, .string (tx r.tag)]] w fun e w' => e = .returned (.tuple #[.slice none 0 0, .int .i64 11]) ∧ Below w.heap.size w w' := by
  by_cases h : ver < 1
  · exact put_low ver h t n c r A w
  · exact put_high ver (by omega) t n c r A w

theorem results_cell_two {P : Program} {fn : Func} {u u2 p : Tmp} {ty : TypeId} (h : fn.results = #[.cell p ty, .tmp u, .tmp u2]) (tmps : Array Value) (w : World) (g : Nat) (t : TypeId) (cs : Array Value) (fr : Nat × Nat) (d : TypeDesc)
    (hp : tmps.getD p undef = .pointer (some ⟨g, 0, none⟩)) (hg : w.heap[g]? = some (.cells cs t fr))
    (hu : P.underlying ty = some d) (hd : (match d with | .struct _ | .array _ _ => true | _ => false) = true) (hi : (P.info? ty).map (·.size) = some cs.size) :
    (results fn tmps).run P w = .ok (.tuple #[.agg cs, tmps.getD u undef, tmps.getD u2 undef]) w := by
  have hp' : tmps[p]?.getD undef = .pointer (some ⟨g, 0, none⟩) := by simpa using hp
  simp [results, h, hp', asAddr, run_loadVar_row w g t ty cs fr d hg hu hd hi]

set_option maxRecDepth 100000 in
set_option maxHeartbeats 1000000 in
theorem get_low (ver : Int) (hv : ver < 1) (t : Option Addr) (A : Option Addr) (n c : Nat) (at_ : Int) (w : World) :
    Calls Try.prog 17 #[.int .i64 ver, .pointer t, .slice A n c, .int .i64 at_] w fun e w' => e = .returned (.tuple #[.agg #[.int .i64 0, .string { data := #[] }, .int .u64 0, .slice none 0 0, .int .u64 0, .int .u64 0, .string { data := #[] }], .int .i64 0, .int .i64 11]) ∧ Below w.heap.size w w' := by
  have h0 := one_new w (.cells #[.int .i64 0, .string { data := #[] }, .int .u64 0, .slice none 0 0, .int .u64 0, .int .u64 0, .string { data := #[] }] 26)
  have HA0 := Lib.hid h0
  have HB0 := Lib.hid ((Below.refl w.heap.size w).alloc (Nat.le_refl _) (.cells #[.int .i64 0, .string { data := #[] }, .int .u64 0, .slice none 0 0, .int .u64 0, .int .u64 0, .string { data := #[] }] 26))
  have q0 := at_cell (i := 0) h0 rfl
  have y0 := at_frozen (i := 0) h0
  have q1 := at_cell (i := 1) h0 rfl
  have y1 := at_frozen (i := 1) h0
  have q2 := at_cell (i := 2) h0 rfl
  have y2 := at_frozen (i := 2) h0
  have q3 := at_cell (i := 3) h0 rfl
  have y3 := at_frozen (i := 3) h0
  have q4 := at_cell (i := 4) h0 rfl
  have y4 := at_frozen (i := 4) h0
  have q5 := at_cell (i := 5) h0 rfl
  have y5 := at_frozen (i := 5) h0
  have q6 := at_cell (i := 6) h0 rfl
  have y6 := at_frozen (i := 6) h0
  clear h0
  have d1 : decide (ver < 1) = true := decide_eq_true hv
  clear hv
  go_enter Try.func17, Try.ntmps17
  go_wp2
  refine bodyPost_ret (results_cell_two rfl _ _ _ _ _ _ _ rfl HA0.out Try.underlying26 rfl (by kernel_rfl)) rfl ?_
  exact ⟨rfl, HB0.out⟩

set_option maxRecDepth 100000 in
set_option maxHeartbeats 1000000 in
theorem get_high (ver : Int) (hv : 1 ≤ ver ∧ 3 < ver) (t : Option Addr) (A : Option Addr) (n c : Nat) (at_ : Int) (w : World) :
    Calls Try.prog 17 #[.int .i64 ver, .pointer t, .slice A n c, .int .i64 at_] w fun e w' => e = .returned (.tuple #[.agg #[.int .i64 0, .string { data := #[] }, .int .u64 0, .slice none 0 0, .int .u64 0, .int .u64 0, .string { data := #[] }], .int .i64 0, .int .i64 11]) ∧ Below w.heap.size w w' := by
  have h0 := one_new w (.cells #[.int .i64 0, .string { data := #[] }, .int .u64 0, .slice none 0 0, .int .u64 0, .int .u64 0, .string { data := #[] }] 26)
  have HA0 := Lib.hid h0
  have HB0 := Lib.hid ((Below.refl w.heap.size w).alloc (Nat.le_refl _) (.cells #[.int .i64 0, .string { data := #[] }, .int .u64 0, .slice none 0 0, .int .u64 0, .int .u64 0, .string { data := #[] }] 26))
  have q0 := at_cell (i := 0) h0 rfl
  have y0 := at_frozen (i := 0) h0
  have q1 := at_cell (i := 1) h0 rfl
  have y1 := at_frozen (i := 1) h0
  have q2 := at_cell (i := 2) h0 rfl
  have y2 := at_frozen (i := 2) h0
  have q3 := at_cell (i := 3) h0 rfl
  have y3 := at_frozen (i := 3) h0
  have q4 := at_cell (i := 4) h0 rfl
  have y4 := at_frozen (i := 4) h0
  have q5 := at_cell (i := 5) h0 rfl
  have y5 := at_frozen (i := 5) h0
  have q6 := at_cell (i := 6) h0 rfl
  have y6 := at_frozen (i := 6) h0
  clear h0
  have d1 : decide (ver < 1) = false := decide_eq_false (by omega)
  have d2 : decide (ver > 3) = true := decide_eq_true (by omega)
  clear hv
  go_enter Try.func17, Try.ntmps17
  go_wp2
  refine bodyPost_ret (results_cell_two rfl _ _ _ _ _ _ _ rfl HA0.out Try.underlying26 rfl (by kernel_rfl)) rfl ?_
  exact ⟨rfl, HB0.out⟩

set_option maxRecDepth 100000 in
set_option maxHeartbeats 1000000 in
theorem get_tnil (ver : Int) (hv : 1 ≤ ver ∧ ver ≤ 3) (A : Option Addr) (n c : Nat) (at_ : Int) (w : World) :
    Calls Try.prog 17 #[.int .i64 ver, .pointer none, .slice A n c, .int .i64 at_] w fun e w' => e = .returned (.tuple #[.agg #[.int .i64 0, .string { data := #[] }, .int .u64 0, .slice none 0 0, .int .u64 0, .int .u64 0, .string { data := #[] }], .int .i64 0, .int .i64 1]) ∧ Below w.heap.size w w' := by
  have h0 := one_new w (.cells #[.int .i64 0, .string { data := #[] }, .int .u64 0, .slice none 0 0, .int .u64 0, .int .u64 0, .string { data := #[] }] 26)
  have HA0 := Lib.hid h0
  have HB0 := Lib.hid ((Below.refl w.heap.size w).alloc (Nat.le_refl _) (.cells #[.int .i64 0, .string { data := #[] }, .int .u64 0, .slice none 0 0, .int .u64 0, .int .u64 0, .string { data := #[] }] 26))
  have q0 := at_cell (i := 0) h0 rfl
  have y0 := at_frozen (i := 0) h0
  have q1 := at_cell (i := 1) h0 rfl
  have y1 := at_frozen (i := 1) h0
  have q2 := at_cell (i := 2) h0 rfl
  have y2 := at_frozen (i := 2) h0
  have q3 := at_cell (i := 3) h0 rfl
  have y3 := at_frozen (i := 3) h0
  have q4 := at_cell (i := 4) h0 rfl
  have y4 := at_frozen (i := 4) h0
  have q5 := at_cell (i := 5) h0 rfl
  have y5 := at_frozen (i := 5) h0
  have q6 := at_cell (i := 6) h0 rfl
  have y6 := at_frozen (i := 6) h0
  clear h0
  have d1 : decide (ver < 1) = false := decide_eq_false (by omega)
  have d2 : decide (ver > 3) = false := decide_eq_false (by omega)
  clear hv
  go_enter Try.func17, Try.ntmps17
  go_wp2
  refine bodyPost_ret (results_cell_two rfl _ _ _ _ _ _ _ rfl HA0.out Try.underlying26 rfl (by kernel_rfl)) rfl ?_
  exact ⟨rfl, HB0.out⟩

theorem get_way (ver : Int) (hv : ¬ (1 ≤ ver ∧ ver ≤ 3)) (t : Option Addr) (A : Option Addr) (n c : Nat) (at_ : Int) (w : World) :
    Calls Try.prog 17 #[.int .i64 ver, .pointer t, .slice A n c, .int .i64 at_] w fun e w' => e = .returned (.tuple #[.agg #[.int .i64 0, .string { data := #[] }, .int .u64 0, .slice none 0 0, .int .u64 0, .int .u64 0, .string { data := #[] }], .int .i64 0, .int .i64 11]) ∧ Below w.heap.size w w' := by
  by_cases h : ver < 1
  · exact get_low ver h t A n c at_ w
  · exact get_high ver (by omega) t A n c at_ w

/-- The chapter's record. -/
def exR : Rc := ⟨2, [97], 0, 0, 0, []⟩
theorem ex_may {v : Int} (h : 1 ≤ v ∧ v ≤ 3) : MayP v exR [] := ⟨h.1, h.2, by decide, .inr ⟨rfl, rfl, rfl⟩⟩
theorem ex_fits : Fits exR [] := ⟨by unfold maxLen; simp [exR], by simp [exR], by simp⟩
theorem ex_nums : Nums exR [] := ⟨by simp [exR], by simp [exR], by simp [exR], by simp⟩
theorem ex_names : rnames exR [] = [[97]] := by simp [rnames, exR, names, tnew, tput]
theorem ex_one : payL 1 [] exR [] = [[2, 1, 97]] := by
  have h1 : vb 1 = [1] := by rw [vb_lt (by omega)]; rfl
  simp [payL, freT, payB, exR, nmB, blob, h1]
theorem ex_two : payL 2 [] exR [] = [[0, 97], [2, 0]] := by
  have h1 : vb 0 = [0] := by rw [vb_lt (by omega)]; rfl
  have h2 : tnum [[97]] [97] = 0 := by simp [tnum]
  simp [payL, freT, tabT, ex_names, freshL, tput, payB, nmB]
  simp [exR, h2, h1]
theorem ex_tab : tabT 1 [] exR [] = [] := by simp [tabT]

set_option maxRecDepth 100000 in
set_option maxHeartbeats 2000000 in
theorem sfixed_any (w : World) : Calls Try.prog 9 #[] w fun e w' => e = .returned (.bool true) ∧ Below w.heap.size w w' := by
  have h0 := one_new w (.cells #[.int .i64 2, .string { data := #[97] }, .int .u64 0, .slice none 0 0, .int .u64 0, .int .u64 0, .string { data := #[] }] 26)
  have hz : (w.alloc (.cells #[.int .i64 2, .string { data := #[97] }, .int .u64 0, .slice none 0 0, .int .u64 0, .int .u64 0, .string { data := #[] }] 26)).heap.size = w.heap.size + 1 := by simp
  have HB0 := Lib.hid ((Below.refl w.heap.size w).alloc (Nat.le_refl _) (.cells #[.int .i64 2, .string { data := #[97] }, .int .u64 0, .slice none 0 0, .int .u64 0, .int .u64 0, .string { data := #[] }] 26))
  have HA0 := Lib.hid h0
  have HZ := Lib.hid hz
  have hnew := New_any none 0 0 0 [] (by omega) (by simp) (w.alloc (.cells #[.int .i64 2, .string { data := #[97] }, .int .u64 0, .slice none 0 0, .int .u64 0, .int .u64 0, .string { data := #[] }] 26)) (Nat.zero_le _) Reads.none_
  simp only [hz] at hnew
  have HNEW := Lib.hid hnew
  clear hnew
  have HPUT : Hid (∀ (v : Int) (hv : 1 ≤ v ∧ v ≤ 3) (S : Nat → Prop) (bt N : Nat) (tl : List (List UInt8)) (W : World), tl.length ≤ 1000000000 → N ≤ 1000000000 → Tab W S bt N tl → Calls Try.prog 11 #[.int .i64 v, .pointer (some ⟨bt, 0, none⟩), .agg #[.int .i64 2, .string { data := #[97] }, .int .u64 0, .slice none 0 0, .int .u64 0, .int .u64 0, .string { data := #[] }]] W fun e w' => PutPost S bt N (tabT v tl exR []) (payL v tl exR []) W e w') := fun v hv S bt N tl W h1 h2 h3 => put_ok S bt N 0 0 v tl exR none [] (ex_may hv) ex_fits ex_nums h1 h2 W h3 (by simp) Reads.none_
  have q0 := at_cell (i := 0) h0 rfl
  have q1 := at_cell (i := 1) h0 rfl
  have q2 := at_cell (i := 2) h0 rfl
  have q3 := at_cell (i := 3) h0 rfl
  have q4 := at_cell (i := 4) h0 rfl
  have q5 := at_cell (i := 5) h0 rfl
  have q6 := at_cell (i := 6) h0 rfl
  clear h0 hz
  go_enter Try.func9, Try.ntmps9
  go_wp2_with (first
    | (go_at_call 14; have hk := HB8.out.size; refine (texts_same A8 (some ⟨w8.heap.size, 0, none⟩) 2 c8 2 w8.heap.size (w8.heap.size + 1) [[0, 97], [2, 0]] (by omega) _ (by simp) (by simp) (HR8.out.alloc (Nat.le_refl _) _) (reads_tsv w8 9 [[0, 97], [2, 0]])).mono ?_; rintro e w9 ⟨rfl, hb9⟩; have HB9 := Lib.hid ((HB8.out.alloc HB8.out.size (.cells #[.string { data := #[0, 97] }, .string { data := #[2, 0] }] 9)).trans (hb9.mono (HB8.out.alloc HB8.out.size (.cells #[.string { data := #[0, 97] }, .string { data := #[2, 0] }] 9)).size)); clear hb9)
    | (go_at_call 15; have hk := HB7.out.size; refine (strings_any A4 2 c4 [[0, 97], [2, 0]] (by omega) _ HP4.out).mono ?_; rintro e w8 ⟨A8, c8, rfl, hr8, hb8⟩; have HR8 := Lib.hid hr8; have HB8 := Lib.hid (HB7.out.trans (hb8.mono HB7.out.size)); clear hr8 hb8)
    | (go_at_call 14; have hk := HB6.out.size; refine (texts_same A6 (some ⟨w6.heap.size, 0, none⟩) 1 c6 1 w6.heap.size (w6.heap.size + 1) [[2, 1, 97]] (by omega) _ (by simp) (by simp) (HR6.out.alloc (Nat.le_refl _) _) (reads_tsv w6 9 [[2, 1, 97]])).mono ?_; rintro e w7 ⟨rfl, hb7⟩; have HB7 := Lib.hid ((HB6.out.alloc HB6.out.size (.cells #[.string { data := #[2, 1, 97] }] 9)).trans (hb7.mono (HB6.out.alloc HB6.out.size (.cells #[.string { data := #[2, 1, 97] }] 9)).size)); have h56 : Below w5.heap.size w5 w7 := (HB56.out.alloc HB56.out.size (.cells #[.string { data := #[2, 1, 97] }] 9)).trans (hb7.mono (HB56.out.alloc HB56.out.size (.cells #[.string { data := #[2, 1, 97] }] 9)).size); have HP4 := Lib.hid ((HP45.out.below h56).more h56.size); clear hb7 h56)
    | (go_at_call 15; have hk := HB5.out.size; refine (strings_any A3 1 c3 [[2, 1, 97]] (by omega) _ HP35.out).mono ?_; rintro e w6 ⟨A6, c6, rfl, hr6, hb6⟩; have HR6 := Lib.hid hr6; have HB6 := Lib.hid (HB5.out.trans (hb6.mono HB5.out.size)); have HB56 := Lib.hid hb6; clear hr6 hb6)
    | (go_at_call 11; have hk := HB3.out.size; refine (HPUT.out 2 (by omega) S3 _ _ _ _ (by simp) (by omega) HT3.out).mono ?_; rintro e w5 ⟨v5, S5, rfl, ht5, hs5, hr5, htu5⟩; rw [ex_two] at hr5; obtain ⟨A4, c4, rfl, hc4, hp4⟩ := Pls.of_rows hr5; obtain ⟨vs, hvs⟩ := HR3.out; obtain ⟨A3, c3, e3, hc3, hp3⟩ := Pls.of_rows ⟨vs, hvs.turn htu5 (fun _ _ h => h)⟩; obtain rfl := e3; have HB5 : Hid (Below w.heap.size w w5) := (HB3.out.trans (htu5.below (fun k hk => (HS3.out k hk)) HB3.out.size)); have HP35 := Lib.hid hp3; have HP45 := Lib.hid hp4; clear ht5 hs5 hr5 htu5 hp3 hp4)
    | (go_at_call 11; have hk := HB2.out.size; refine (HPUT.out 1 (by omega) _ _ _ _ _ (by simp [tnew]) (by omega) HT2.out).mono ?_; rintro e w3 ⟨v3, S3, rfl, ht3, hs3, hr3, htu3⟩; rw [show tnew [] = [] from rfl, ex_one] at hr3; rw [show tnew [] = [] from rfl, ex_tab] at ht3; have HT3 := Lib.hid ht3; have HR3 := Lib.hid hr3; have HS3 : Hid (∀ k, S3 k → w.heap.size ≤ k) := (fun k hk => by rcases (hs3 k hk).2 with h | h; omega; have := HB2.out.size; omega); have HB3 : Hid (Below w.heap.size w w3) := (HB2.out.trans (htu3.below (fun k hk => by omega) HB2.out.size)); have hh3 := (htu3.2.2.2.2 w.heap.size HLT2.out (by omega)).trans HH2.out; have j0 := at_cell (i := 0) hh3 rfl; have j1 := at_cell (i := 1) hh3 rfl; have j2 := at_cell (i := 2) hh3 rfl; have j3 := at_cell (i := 3) hh3 rfl; have j4 := at_cell (i := 4) hh3 rfl; have j5 := at_cell (i := 5) hh3 rfl; have j6 := at_cell (i := 6) hh3 rfl; clear ht3 hs3 hr3 htu3 hh3)
    | (go_at_call 10; refine HNEW.out.mono ?_; rintro e w2 ⟨rfl, ht2, hb2⟩; have HT2 := Lib.hid ht2; have HB2 := Lib.hid (HB0.out.trans (hb2.mono (by omega))); have HLT2 : Hid (w.heap.size < w2.heap.size) := (by have h1 := hb2.size; rw [HZ.out] at h1; exact h1); have hh2 := (hb2.block w.heap.size (by omega)).trans HA0.out; have HH2 := Lib.hid hh2; have p0 := at_cell (i := 0) hh2 rfl; have p1 := at_cell (i := 1) hh2 rfl; have p2 := at_cell (i := 2) hh2 rfl; have p3 := at_cell (i := 3) hh2 rfl; have p4 := at_cell (i := 4) hh2 rfl; have p5 := at_cell (i := 5) hh2 rfl; have p6 := at_cell (i := 6) hh2 rfl; clear ht2 hb2 hh2))
  go_ret
  exact ⟨rfl, HB9.out⟩

end Go.Proofs.Ytfidfhajnobonaa

/- The reader as it lies; its text, name and dep. -/
namespace Go.Proofs.Ytfidfhajnobonaa
open Go.RowKit

theorem Turn.of_only {b : Nat} {w w' : World} (h : Only b w w') : Turn (fun k => k = b) w w' := ⟨h.os, h.tape, h.output, h.size, fun k hk hn => h.block k hk hn⟩
theorem CurIn.turn {w w' : World} {B b : Nat} {S : Nat → Prop} {c : Cu} (h : CurIn w B b c) (ht : Turn S w w') (hn : ¬ S b) (hS : ∀ k, S k → B ≤ k) : CurIn w' B b c := by
  have hlt := h.lt
  obtain ⟨A, n, cap, h0, h1, h2⟩ := h.lies
  exact ⟨h.ok, h.room, h.le, A, n, cap, h0, h1.below (ht.below hS (by have := h.le; omega)), (ht.2.2.2.2 b hlt hn).trans h2⟩

/-- The reader lies in memory: its box, its cursor, its table. -/
structure RS (w : World) (T : Nat → Prop) (brd bt bc B N : Nat) (ver : Int) (tl : List (List UInt8)) (c : Cu) : Prop where
  box : w.heap[brd]? = some (.cells #[.int .i64 ver, .pointer (some ⟨bt, 0, none⟩), .pointer (some ⟨bc, 0, none⟩)] 99 (0, 0))
  cur : CurIn w B bc c
  tab : Tab w T bt N tl
  nt : ¬ T bc
  nb : brd ≠ bc
  big : tl.length ≤ 1073741824

theorem RS.turn {w w' : World} {S T : Nat → Prop} {brd bt bc B N : Nat} {ver : Int} {tl : List (List UInt8)} {c : Cu} (h : RS w T brd bt bc B N ver tl c) (ht : Turn S w w') (h1 : ¬ S brd) (h2 : ¬ S bc) (h3 : ∀ k, T k → ¬ S k) (h4 : ∀ k, S k → B ≤ k) : RS w' T brd bt bc B N ver tl c where
  box := by
    have hb := h.box
    refine (ht.2.2.2.2 brd ?_ h1).trans hb
    rcases Nat.lt_or_ge brd w.heap.size with h | h
    · exact h
    · rw [Array.getElem?_eq_none h] at hb; cases hb
  cur := h.cur.turn ht h2 h4
  tab := h.tab.turn ht (fun k hk _ => h3 k hk)
  nt := h.nt
  nb := h.nb
  big := h.big
/-- Behind a call of the cursor's. -/
theorem RS.took {w w' : World} {T : Nat → Prop} {brd bt bc B N : Nat} {ver : Int} {tl : List (List UInt8)} {c d : Cu} (h : RS w T brd bt bc B N ver tl c) (hd : CurIn w' B bc d) (ho : Only bc w w') : RS w' T brd bt bc B N ver tl d where
  box := by
    have hb := h.box
    refine (ho.block brd ?_ h.nb).trans hb
    rcases Nat.lt_or_ge brd w.heap.size with h | h
    · exact h
    · rw [Array.getElem?_eq_none h] at hb; cases hb
  cur := hd
  tab := h.tab.turn (Turn.of_only ho) (fun k hk _ he => h.nt (he ▸ hk))
  nt := h.nt
  nb := h.nb
  big := h.big

/-- What a name is read as. -/
def rdName (ver : Int) (tl : List (List UInt8)) (c : Cu) : List UInt8 × Cu := if ver < 2 then c.text 64 else (ttext tl c.num.1, c.num.2)
/-- What a dep is read as, without its hash. -/
def rdDep (ver : Int) (tl : List (List UInt8)) (c : Cu) : Dp × Cu := if ver < 3 then (⟨(rdName ver tl c).1, 0, false⟩, (rdName ver tl c).2) else (⟨ttext tl (c.num.1 / 2), 0, decide (c.num.1 % 2 = 1)⟩, c.num.2)

set_option maxRecDepth 100000 in
set_option maxHeartbeats 400000 in
theorem rtext_any (T : Nat → Prop) (brd bt bc B N i : Nat) (ver : Int) (tl : List (List UInt8)) (c : Cu) (w : World) (h : RS w T brd bt bc B N ver tl c) :
    Calls Try.prog 83 #[.pointer (some ⟨brd, 0, none⟩), .int .u64 (i : Int)] w fun e w' => e = .returned (.string (tx (ttext tl i))) ∧ w = w' := by
  have q1 := at_cell (i := 1) h.box rfl
  have HT := Lib.hid (Text_any T bt N tl i h.big w h.tab)
  unfold tsv at HT
  clear h
  go_enter Try.func83, Try.ntmps83
  go_wp2_with (go_at_call 32; refine HT.out.mono ?_; rintro e w2 ⟨rfl, rfl⟩)
  go_ret
  exact ⟨rfl, rfl⟩

set_option maxRecDepth 100000 in
set_option maxHeartbeats 400000 in
theorem rname_one (T : Nat → Prop) (brd bt bc B N : Nat) (ver : Int) (hv : ver < 2) (tl : List (List UInt8)) (c : Cu) (w : World) (h : RS w T brd bt bc B N ver tl c) :
    Calls Try.prog 80 #[.pointer (some ⟨brd, 0, none⟩)] w fun e w' => e = .returned (.string (tx (c.text 64).1)) ∧ RS w' T brd bt bc B N ver tl (c.text 64).2 ∧ Only bc w w' := by
  have q0 := at_cell (i := 0) h.box rfl
  have q2 := at_cell (i := 2) h.box rfl
  have HC := Lib.hid (text_any B bc c 64 (by omega) w h.cur)
  have H := Lib.hid h
  have d1 : decide (ver < 2) = true := decide_eq_true hv
  clear h hv
  go_enter Try.func80, Try.ntmps80
  go_wp2_with (go_at_call 89; refine HC.out.mono ?_; rintro e w2 ⟨rfl, hc2, ho2⟩; have HR := Lib.hid (H.out.took hc2 ho2); have HO := Lib.hid ho2; clear hc2 ho2)
  go_ret
  exact ⟨rfl, HR.out, HO.out⟩

set_option maxRecDepth 100000 in
set_option maxHeartbeats 400000 in
theorem rname_two (T : Nat → Prop) (brd bt bc B N : Nat) (ver : Int) (hv : ¬ ver < 2) (tl : List (List UInt8)) (c : Cu) (w : World) (h : RS w T brd bt bc B N ver tl c) :
    Calls Try.prog 80 #[.pointer (some ⟨brd, 0, none⟩)] w fun e w' => e = .returned (.string (tx (ttext tl c.num.1))) ∧ RS w' T brd bt bc B N ver tl c.num.2 ∧ Only bc w w' := by
  have q0 := at_cell (i := 0) h.box rfl
  have q2 := at_cell (i := 2) h.box rfl
  have HC := Lib.hid (cnumber_any B bc c w h.cur)
  have H := Lib.hid h
  have d1 : decide (ver < 2) = false := decide_eq_false hv
  clear h hv
  go_enter Try.func80, Try.ntmps80
  go_wp2_with (first
    | (go_at_call 83; refine (rtext_any T brd bt bc B N c.num.1 ver tl c.num.2 _ HR.out).mono ?_; rintro e w3 ⟨rfl, rfl⟩)
    | (go_at_call 81; refine HC.out.mono ?_; rintro e w2 ⟨rfl, hc2, ho2⟩; have HR := Lib.hid (H.out.took hc2 ho2); have HO := Lib.hid ho2; clear hc2 ho2))
  go_ret
  exact ⟨rfl, HR.out, HO.out⟩

theorem rdname_any (T : Nat → Prop) (brd bt bc B N : Nat) (ver : Int) (tl : List (List UInt8)) (c : Cu) (w : World) (h : RS w T brd bt bc B N ver tl c) :
    Calls Try.prog 80 #[.pointer (some ⟨brd, 0, none⟩)] w fun e w' => e = .returned (.string (tx (rdName ver tl c).1)) ∧ RS w' T brd bt bc B N ver tl (rdName ver tl c).2 ∧ Only bc w w' := by
  unfold rdName
  by_cases hv : ver < 2
  · rw [if_pos hv]
    exact rname_one T brd bt bc B N ver hv tl c w h
  · rw [if_neg hv]
    exact rname_two T brd bt bc B N ver hv tl c w h

/-- A store into memory that the call has made. -/
theorem Only.store {bc g i : Nat} {w x : World} (h : Only bc w x) (u : Value) (hg : w.heap.size ≤ g) : Only bc w (x.setCell ⟨g, i, none⟩ u) :=
  ⟨h.os, h.tape, h.output, by rw [show (x.setCell ⟨g, i, none⟩ u).heap.size = x.heap.size from by simp [World.setCell]]; exact h.size, fun k hk hn => (Below.heap_setCell x ⟨g, i, none⟩ u k (by show k ≠ g; omega)).trans (h.block k hk hn)⟩
theorem RS.store {w : World} {T : Nat → Prop} {brd bt bc B N g i : Nat} {ver : Int} {tl : List (List UInt8)} {c : Cu} (h : RS w T brd bt bc B N ver tl c) (u : Value) (h1 : brd ≠ g) (h2 : bc ≠ g) (h3 : ¬ T g) (h4 : B ≤ g) : RS (w.setCell ⟨g, i, none⟩ u) T brd bt bc B N ver tl c :=
  h.turn (S := fun k => k = g) ((Turn.refl _ w).setCell g i u rfl) h1 h2 (fun _ hk he => h3 (he ▸ hk)) (fun _ hk => hk ▸ h4)

set_option maxRecDepth 100000 in
set_option maxHeartbeats 1000000 in
theorem rdep_less (T : Nat → Prop) (brd bt bc B N : Nat) (ver : Int) (hv : ver < 3) (tl : List (List UInt8)) (c : Cu) (w : World) (hTn : ¬ T w.heap.size) (h : RS w T brd bt bc B N ver tl c) :
    Calls Try.prog 82 #[.pointer (some ⟨brd, 0, none⟩)] w fun e w' => e = .returned (.agg #[.string (tx (rdName ver tl c).1), .int .u64 0, .bool false]) ∧ RS w' T brd bt bc B N ver tl (rdName ver tl c).2 ∧ Only bc w w' := by
  have hblt : brd < w.heap.size := by
    have hb := h.box
    rcases Nat.lt_or_ge brd w.heap.size with h | h
    · exact h
    · rw [Array.getElem?_eq_none h] at hb; cases hb
  have hclt := h.cur.lt
  have hT0 : Turn (fun k => w.heap.size ≤ k) w (w.alloc (.cells #[.string { data := #[] }, .int .u64 0, .bool false] 56)) := Turn.of_below ((Below.refl _ w).alloc (Nat.le_refl _) _)
  have h2 : RS (w.alloc (.cells #[.string { data := #[] }, .int .u64 0, .bool false] 56)) T brd bt bc B N ver tl c := ⟨(Below.heap_alloc w _ brd hblt).trans h.box, h.cur.below ((Below.refl _ w).alloc (Nat.le_refl _) _) hclt, tab_alloc h.tab _, h.nt, h.nb, h.big⟩
  have HO0 : Hid (Only bc w (w.alloc (.cells #[.string { data := #[] }, .int .u64 0, .bool false] 56))) := Only.of_below ((Below.refl _ w).alloc (Nat.le_refl _) _)
  have HBX := Lib.hid (one_new w (.cells #[.string { data := #[] }, .int .u64 0, .bool false] 56))
  have HNE : Hid (w.heap.size ≠ bc) := by show _ ≠ _; omega
  have HSZ : Hid (w.heap.size < (w.alloc (.cells #[.string { data := #[] }, .int .u64 0, .bool false] 56)).heap.size) := by show _ < _; simp
  have q0 := at_cell (i := 0) h2.box rfl
  have q2 := at_cell (i := 2) h2.box rfl
  have f0 := at_cell (i := 0) HBX.out rfl
  have f1 := at_cell (i := 1) HBX.out rfl
  have f2 := at_cell (i := 2) HBX.out rfl
  have H := Lib.hid h2
  have HG : Hid (brd ≠ w.heap.size ∧ bc ≠ w.heap.size ∧ ¬ T w.heap.size ∧ B ≤ w.heap.size) := ⟨by omega, by omega, hTn, by have := h.cur.le; omega⟩
  have HC := Lib.hid (rdname_any T brd bt bc B N ver tl c _ h2)
  obtain ⟨x, hx⟩ : ∃ x, x = (rdName ver tl c).1 := ⟨_, rfl⟩
  obtain ⟨d, hd⟩ : ∃ d, d = (rdName ver tl c).2 := ⟨_, rfl⟩
  rw [← hx, ← hd] at HC ⊢
  have d1 : decide (ver < 3) = true := decide_eq_true hv
  clear hx hd
  clear h h2 hT0 hblt hclt hv
  go_enter Try.func82, Try.ntmps82
  go_wp2_with (go_at_call 80; refine HC.out.mono ?_; rintro e w3 ⟨rfl, hr3, ho3⟩; have hbx := (ho3.block w.heap.size HSZ.out HNE.out).trans HBX.out; have j0 := at_cell (i := 0) hbx rfl; have x0 := at_frozen (i := 0) hbx; have j1 := at_cell (i := 1) hbx rfl; have x1 := at_frozen (i := 1) hbx; have j2 := at_cell (i := 2) hbx rfl; have x2 := at_frozen (i := 2) hbx; have HBX3 := Lib.hid hbx; have HR := Lib.hid (hr3); have HO := Lib.hid (HO0.out.trans ho3); clear hbx; clear hr3 ho3)
  refine bodyPost_ret (results_cell_row rfl _ _ _ _ _ _ _ rfl (set_same (set_same (set_same HBX3.out 0 (.string (tx x))) 1 (.int .u64 0)) 2 (.bool false)) Try.underlying56 rfl (by kernel_rfl)) rfl ?_
  exact ⟨rfl, (RS.store (RS.store (RS.store HR.out (g := w.heap.size) (i := 0) (.string (tx x)) HG.out.1 HG.out.2.1 HG.out.2.2.1 HG.out.2.2.2) (g := w.heap.size) (i := 1) (.int .u64 0) HG.out.1 HG.out.2.1 HG.out.2.2.1 HG.out.2.2.2) (g := w.heap.size) (i := 2) (.bool false) HG.out.1 HG.out.2.1 HG.out.2.2.1 HG.out.2.2.2), (Only.store (Only.store (Only.store HO.out (g := w.heap.size) (i := 0) (.string (tx x)) (Nat.le_refl _)) (g := w.heap.size) (i := 1) (.int .u64 0) (Nat.le_refl _)) (g := w.heap.size) (i := 2) (.bool false) (Nat.le_refl _))⟩

set_option maxRecDepth 100000 in
set_option maxHeartbeats 1000000 in
theorem rdep_more (T : Nat → Prop) (brd bt bc B N : Nat) (ver : Int) (hv : ¬ ver < 3) (tl : List (List UInt8)) (c : Cu) (w : World) (hTn : ¬ T w.heap.size) (h : RS w T brd bt bc B N ver tl c) :
    Calls Try.prog 82 #[.pointer (some ⟨brd, 0, none⟩)] w fun e w' => e = .returned (.agg #[.string (tx (ttext tl (c.num.1 / 2))), .int .u64 0, .bool (decide (c.num.1 % 2 = 1))]) ∧ RS w' T brd bt bc B N ver tl c.num.2 ∧ Only bc w w' := by
  have hblt : brd < w.heap.size := by
    have hb := h.box
    rcases Nat.lt_or_ge brd w.heap.size with h | h
    · exact h
    · rw [Array.getElem?_eq_none h] at hb; cases hb
  have hclt := h.cur.lt
  have hT0 : Turn (fun k => w.heap.size ≤ k) w (w.alloc (.cells #[.string { data := #[] }, .int .u64 0, .bool false] 56)) := Turn.of_below ((Below.refl _ w).alloc (Nat.le_refl _) _)
  have h2 : RS (w.alloc (.cells #[.string { data := #[] }, .int .u64 0, .bool false] 56)) T brd bt bc B N ver tl c := ⟨(Below.heap_alloc w _ brd hblt).trans h.box, h.cur.below ((Below.refl _ w).alloc (Nat.le_refl _) _) hclt, tab_alloc h.tab _, h.nt, h.nb, h.big⟩
  have HO0 : Hid (Only bc w (w.alloc (.cells #[.string { data := #[] }, .int .u64 0, .bool false] 56))) := Only.of_below ((Below.refl _ w).alloc (Nat.le_refl _) _)
  have HBX := Lib.hid (one_new w (.cells #[.string { data := #[] }, .int .u64 0, .bool false] 56))
  have HNE : Hid (w.heap.size ≠ bc) := by show _ ≠ _; omega
  have HSZ : Hid (w.heap.size < (w.alloc (.cells #[.string { data := #[] }, .int .u64 0, .bool false] 56)).heap.size) := by show _ < _; simp
  have q0 := at_cell (i := 0) h2.box rfl
  have q2 := at_cell (i := 2) h2.box rfl
  have f0 := at_cell (i := 0) HBX.out rfl
  have f1 := at_cell (i := 1) HBX.out rfl
  have f2 := at_cell (i := 2) HBX.out rfl
  have H := Lib.hid h2
  have HG : Hid (brd ≠ w.heap.size ∧ bc ≠ w.heap.size ∧ ¬ T w.heap.size ∧ B ≤ w.heap.size) := ⟨by omega, by omega, hTn, by have := h.cur.le; omega⟩
  have HC := Lib.hid (cnumber_any B bc c _ h2.cur)
  obtain ⟨n, hn⟩ : ∃ n, n = c.num.1 := ⟨_, rfl⟩
  obtain ⟨d, hd⟩ : ∃ d, d = c.num.2 := ⟨_, rfl⟩
  have hlt : n < 18446744073709551616 := by rw [hn]; exact Cu.num_lt
  rw [← hn, ← hd] at HC ⊢
  have t2 : (n : Int).tdiv 2 = ((n / 2 : Nat) : Int) := by rw [Int.tdiv_eq_ediv_of_nonneg (by omega)]; simp
  have t3 : (n : Int).tmod 2 = ((n % 2 : Nat) : Int) := by rw [Int.tmod_eq_emod_of_nonneg (by omega)]; simp
  obtain ⟨m, hm⟩ : ∃ m, m = n / 2 := ⟨_, rfl⟩
  obtain ⟨b, hb⟩ : ∃ b, b = n % 2 := ⟨_, rfl⟩
  rw [← hm] at t2 ⊢
  rw [← hb] at t3 ⊢
  have hm2 : m < 18446744073709551616 := by omega
  have hb2 : b < 2 := by omega
  have d1 : decide (ver < 3) = false := decide_eq_false hv
  have HB2 := Lib.hid hb2
  rw [show decide (b = 1) = ((b : Int) == 1) from by rw [Bool.eq_iff_iff, decide_eq_true_iff, beq_iff_eq]; omega]
  clear hn hd hm hb
  clear h h2 hT0 hblt hclt hv
  go_enter Try.func82, Try.ntmps82
  go_wp2_with (first
    | (go_at_call 83; refine (rtext_any T brd bt bc B N m ver tl d _ HR.out).mono ?_; rintro e w4 ⟨rfl, rfl⟩)
    | (go_at_call 81; refine HC.out.mono ?_; rintro e w3 ⟨rfl, hc3, ho3⟩; have hbx := (ho3.block w.heap.size HSZ.out HNE.out).trans HBX.out; have j0 := at_cell (i := 0) hbx rfl; have x0 := at_frozen (i := 0) hbx; have j1 := at_cell (i := 1) hbx rfl; have x1 := at_frozen (i := 1) hbx; have j2 := at_cell (i := 2) hbx rfl; have x2 := at_frozen (i := 2) hbx; have HBX3 := Lib.hid hbx; have HR := Lib.hid (H.out.took hc3 ho3); have HO := Lib.hid (HO0.out.trans ho3); clear hbx; clear hc3 ho3))
  refine bodyPost_ret (results_cell_row rfl _ _ _ _ _ _ _ rfl (set_same (set_same (set_same HBX3.out 0 (.string (tx (ttext tl m)))) 1 (.int .u64 0)) 2 (.bool ((b : Int) == 1))) Try.underlying56 rfl (by kernel_rfl)) rfl ?_
  exact ⟨rfl, (RS.store (RS.store (RS.store HR.out (g := w.heap.size) (i := 0) (.string (tx (ttext tl m))) HG.out.1 HG.out.2.1 HG.out.2.2.1 HG.out.2.2.2) (g := w.heap.size) (i := 1) (.int .u64 0) HG.out.1 HG.out.2.1 HG.out.2.2.1 HG.out.2.2.2) (g := w.heap.size) (i := 2) (.bool ((b : Int) == 1)) HG.out.1 HG.out.2.1 HG.out.2.2.1 HG.out.2.2.2), (Only.store (Only.store (Only.store HO.out (g := w.heap.size) (i := 0) (.string (tx (ttext tl m))) (Nat.le_refl _)) (g := w.heap.size) (i := 1) (.int .u64 0) (Nat.le_refl _)) (g := w.heap.size) (i := 2) (.bool ((b : Int) == 1)) (Nat.le_refl _))⟩

end Go.Proofs.Ytfidfhajnobonaa

/- The reader's fields. -/
namespace Go.Proofs.Ytfidfhajnobonaa
open Go.RowKit

/-- A record that is being read, in a block of its own; its deps in memory of their own; all of it in S. -/
def RecS (w : World) (S : Nat → Prop) (brr : Nat) (r : Rc) (va : Value) (l : List Dp) : Prop :=
  w.heap[brr]? = some (.cells #[.int .i64 r.kind, .string (tx r.target), .int .u64 r.rule, va, .int .u64 r.out, .int .u64 r.time, .string (tx r.tag)] 26 (0, 0)) ∧ w.ownsRow 0 56 3 va l.length (dps l) ∧ S brr ∧ (∀ k, va.ownBlock = some k → S k)

/-- What a read may turn, and what it may not. -/
structure RE (w : World) (S T : Nat → Prop) (brd bc brr B : Nat) : Prop where
  sc : S bc
  nd : ¬ S brd
  nt : ∀ k, T k → ¬ S k
  up : ∀ k, S k → B ≤ k
  ne : bc ≠ brr
  new : ∀ k, w.heap.size ≤ k → S k

theorem RE.next {w w' : World} {S T : Nat → Prop} {brd bc brr B : Nat} (h : RE w S T brd bc brr B) (hs : w.heap.size ≤ w'.heap.size) : RE w' S T brd bc brr B := ⟨h.sc, h.nd, h.nt, h.up, h.ne, fun k hk => h.new k (Nat.le_trans hs hk)⟩

/-- The state of a read: record, deps, cursor. -/
structure Rst where
  r : Rc
  l : List Dp
  c : Cu

def RT (w : World) (S T : Nat → Prop) (brd bt bc brr B N : Nat) (ver : Int) (tl : List (List UInt8)) (s : Rst) : Prop := RS w T brd bt bc B N ver tl s.c ∧ ∃ va, RecS w S brr s.r va s.l

theorem rec_only {w w' : World} {S : Nat → Prop} {bc brr : Nat} {r : Rc} {va : Value} {l : List Dp} (h : RecS w S brr r va l) (ho : Only bc w w') (hb : ∃ cs, w.heap[bc]? = some (.cells cs 120 (0, 0))) (hne : bc ≠ brr) : RecS w' S brr r va l := by
  obtain ⟨h1, h2, h3, h4⟩ := h
  obtain ⟨cs, hc⟩ := hb
  refine ⟨(ho.block brr ?_ (fun h => hne h.symm)).trans h1, own_heap h2 (fun g hg => ho.block g (own_lt h2 g hg) (fun h5 => own_cells h2 hc (by decide) (h5 ▸ hg))), h3, h4⟩
  rcases Nat.lt_or_ge brr w.heap.size with h | h
  · exact h
  · rw [Array.getElem?_eq_none h] at h1; cases h1
theorem RS.cblock {w : World} {T : Nat → Prop} {brd bt bc B N : Nat} {ver : Int} {tl : List (List UInt8)} {c : Cu} (h : RS w T brd bt bc B N ver tl c) : ∃ cs, w.heap[bc]? = some (.cells cs 120 (0, 0)) := by
  obtain ⟨A, n, cap, _, _, h2⟩ := h.cur.lies
  exact ⟨_, h2⟩
/-- One of the record's own fields is written. -/
theorem rec_set {w : World} {S : Nat → Prop} {brr : Nat} {r r2 : Rc} {va : Value} {l : List Dp} (h : RecS w S brr r va l) (i : Nat) (u : Value) (hr : (#[.int .i64 r.kind, .string (tx r.target), .int .u64 r.rule, va, .int .u64 r.out, .int .u64 r.time, .string (tx r.tag)] : Array Value).setIfInBounds i u = #[.int .i64 r2.kind, .string (tx r2.target), .int .u64 r2.rule, va, .int .u64 r2.out, .int .u64 r2.time, .string (tx r2.tag)]) : RecS (w.setCell ⟨brr, i, none⟩ u) S brr r2 va l := by
  obtain ⟨h1, h2, h3, h4⟩ := h
  refine ⟨by rw [← hr]; exact set_same h1 i u, ownsRow_setCell_other h2 (own_cells h2 h1 (by decide)) _, h3, h4⟩

def st_target (ver : Int) (tl : List (List UInt8)) (s : Rst) : Rst := ⟨⟨s.r.kind, (rdName ver tl s.c).1, s.r.rule, s.r.out, s.r.time, s.r.tag⟩, s.l, (rdName ver tl s.c).2⟩

set_option maxRecDepth 100000 in
set_option maxHeartbeats 1000000 in
theorem rd_target (S T : Nat → Prop) (brd bt bc brr B N : Nat) (ver : Int) (tl : List (List UInt8)) (s : Rst) (w : World) (hE : RE w S T brd bc brr B) (hT : RT w S T brd bt bc brr B N ver tl s) :
    Calls Try.prog 59 #[.pointer (some ⟨brd, 0, none⟩), .pointer (some ⟨brr, 0, none⟩)] w fun e w' => e = .returned (.tuple #[]) ∧ RT w' S T brd bt bc brr B N ver tl (st_target ver tl s) ∧ Turn S w w' := by
  have HC := Lib.hid (rdname_any T brd bt bc B N ver tl s.c w hT.1)
  obtain ⟨va, hrec⟩ := hT.2
  obtain ⟨x, hx⟩ : ∃ x, x = (rdName ver tl s.c).1 := ⟨_, rfl⟩
  obtain ⟨d, hd⟩ : ∃ d, d = (rdName ver tl s.c).2 := ⟨_, rfl⟩
  have hfin : st_target ver tl s = ⟨⟨s.r.kind, x, s.r.rule, s.r.out, s.r.time, s.r.tag⟩, s.l, d⟩ := by rw [hx, hd]; rfl
  rw [hfin]
  rw [← hx, ← hd] at HC
  have H := Lib.hid hT.1
  have HREC := Lib.hid hrec
  have HE := Lib.hid hE
  clear hT hE hrec hfin hx hd
  go_enter Try.func59, Try.ntmps59
  go_wp2_with (go_at_call 80; refine HC.out.mono ?_; rintro e w3 ⟨rfl, hr3, ho3⟩; have HR3 := Lib.hid hr3; have hrec3 := rec_only HREC.out ho3 H.out.cblock HE.out.ne; have f3 := at_cell (i := 1) hrec3.1 rfl; have y3 := at_frozen (i := 1) hrec3.1; have HREC3 := Lib.hid hrec3; have HO3 := Lib.hid ho3; clear ho3 hrec3 hr3)
  go_end0
  have hb : S brr := HREC.out.2.2.1
  exact ⟨rfl, ⟨HR3.out.store (g := brr) (i := 1) _ (fun h => HE.out.nd (h ▸ hb)) HE.out.ne (fun h => HE.out.nt _ h hb) (HE.out.up _ hb), va, rec_set HREC3.out 1 _ rfl⟩, ((Turn.of_only HO3.out).wide (fun k hk => hk ▸ HE.out.sc)).setCell brr 1 _ hb⟩

def st_rule (_ver : Int) (_tl : List (List UInt8)) (s : Rst) : Rst := ⟨⟨s.r.kind, s.r.target, (s.c.num.1 : Int), s.r.out, s.r.time, s.r.tag⟩, s.l, s.c.num.2⟩

set_option maxRecDepth 100000 in
set_option maxHeartbeats 1000000 in
theorem rd_rule (S T : Nat → Prop) (brd bt bc brr B N : Nat) (ver : Int) (tl : List (List UInt8)) (s : Rst) (w : World) (hE : RE w S T brd bc brr B) (hT : RT w S T brd bt bc brr B N ver tl s) :
    Calls Try.prog 60 #[.pointer (some ⟨brd, 0, none⟩), .pointer (some ⟨brr, 0, none⟩)] w fun e w' => e = .returned (.tuple #[]) ∧ RT w' S T brd bt bc brr B N ver tl (st_rule ver tl s) ∧ Turn S w w' := by
  have q2 := at_cell (i := 2) hT.1.box rfl
  have HC := Lib.hid (cnumber_any B bc s.c w hT.1.cur)
  obtain ⟨va, hrec⟩ := hT.2
  obtain ⟨x, hx⟩ : ∃ x, x = s.c.num.1 := ⟨_, rfl⟩
  obtain ⟨d, hd⟩ : ∃ d, d = s.c.num.2 := ⟨_, rfl⟩
  have hfin : st_rule ver tl s = ⟨⟨s.r.kind, s.r.target, (x : Int), s.r.out, s.r.time, s.r.tag⟩, s.l, d⟩ := by rw [hx, hd]; rfl
  rw [hfin]
  rw [← hx, ← hd] at HC
  have H := Lib.hid hT.1
  have HREC := Lib.hid hrec
  have HE := Lib.hid hE
  clear hT hE hrec hfin hx hd
  go_enter Try.func60, Try.ntmps60
  go_wp2_with (go_at_call 81; refine HC.out.mono ?_; rintro e w3 ⟨rfl, hc3, ho3⟩; have HR3 := Lib.hid (H.out.took hc3 ho3); have hrec3 := rec_only HREC.out ho3 H.out.cblock HE.out.ne; have f3 := at_cell (i := 2) hrec3.1 rfl; have y3 := at_frozen (i := 2) hrec3.1; have HREC3 := Lib.hid hrec3; have HO3 := Lib.hid ho3; clear ho3 hrec3 hc3)
  go_end0
  have hb : S brr := HREC.out.2.2.1
  exact ⟨rfl, ⟨HR3.out.store (g := brr) (i := 2) _ (fun h => HE.out.nd (h ▸ hb)) HE.out.ne (fun h => HE.out.nt _ h hb) (HE.out.up _ hb), va, rec_set HREC3.out 2 _ rfl⟩, ((Turn.of_only HO3.out).wide (fun k hk => hk ▸ HE.out.sc)).setCell brr 2 _ hb⟩

def st_out (_ver : Int) (_tl : List (List UInt8)) (s : Rst) : Rst := ⟨⟨s.r.kind, s.r.target, s.r.rule, (s.c.num.1 : Int), s.r.time, s.r.tag⟩, s.l, s.c.num.2⟩

set_option maxRecDepth 100000 in
set_option maxHeartbeats 1000000 in
theorem rd_out (S T : Nat → Prop) (brd bt bc brr B N : Nat) (ver : Int) (tl : List (List UInt8)) (s : Rst) (w : World) (hE : RE w S T brd bc brr B) (hT : RT w S T brd bt bc brr B N ver tl s) :
    Calls Try.prog 62 #[.pointer (some ⟨brd, 0, none⟩), .pointer (some ⟨brr, 0, none⟩)] w fun e w' => e = .returned (.tuple #[]) ∧ RT w' S T brd bt bc brr B N ver tl (st_out ver tl s) ∧ Turn S w w' := by
  have q2 := at_cell (i := 2) hT.1.box rfl
  have HC := Lib.hid (cnumber_any B bc s.c w hT.1.cur)
  obtain ⟨va, hrec⟩ := hT.2
  obtain ⟨x, hx⟩ : ∃ x, x = s.c.num.1 := ⟨_, rfl⟩
  obtain ⟨d, hd⟩ : ∃ d, d = s.c.num.2 := ⟨_, rfl⟩
  have hfin : st_out ver tl s = ⟨⟨s.r.kind, s.r.target, s.r.rule, (x : Int), s.r.time, s.r.tag⟩, s.l, d⟩ := by rw [hx, hd]; rfl
  rw [hfin]
  rw [← hx, ← hd] at HC
  have H := Lib.hid hT.1
  have HREC := Lib.hid hrec
  have HE := Lib.hid hE
  clear hT hE hrec hfin hx hd
  go_enter Try.func62, Try.ntmps62
  go_wp2_with (go_at_call 81; refine HC.out.mono ?_; rintro e w3 ⟨rfl, hc3, ho3⟩; have HR3 := Lib.hid (H.out.took hc3 ho3); have hrec3 := rec_only HREC.out ho3 H.out.cblock HE.out.ne; have f3 := at_cell (i := 4) hrec3.1 rfl; have y3 := at_frozen (i := 4) hrec3.1; have HREC3 := Lib.hid hrec3; have HO3 := Lib.hid ho3; clear ho3 hrec3 hc3)
  go_end0
  have hb : S brr := HREC.out.2.2.1
  exact ⟨rfl, ⟨HR3.out.store (g := brr) (i := 4) _ (fun h => HE.out.nd (h ▸ hb)) HE.out.ne (fun h => HE.out.nt _ h hb) (HE.out.up _ hb), va, rec_set HREC3.out 4 _ rfl⟩, ((Turn.of_only HO3.out).wide (fun k hk => hk ▸ HE.out.sc)).setCell brr 4 _ hb⟩

def st_when (_ver : Int) (_tl : List (List UInt8)) (s : Rst) : Rst := ⟨⟨s.r.kind, s.r.target, s.r.rule, s.r.out, (s.c.num.1 : Int), s.r.tag⟩, s.l, s.c.num.2⟩

set_option maxRecDepth 100000 in
set_option maxHeartbeats 1000000 in
theorem rd_when (S T : Nat → Prop) (brd bt bc brr B N : Nat) (ver : Int) (tl : List (List UInt8)) (s : Rst) (w : World) (hE : RE w S T brd bc brr B) (hT : RT w S T brd bt bc brr B N ver tl s) :
    Calls Try.prog 63 #[.pointer (some ⟨brd, 0, none⟩), .pointer (some ⟨brr, 0, none⟩)] w fun e w' => e = .returned (.tuple #[]) ∧ RT w' S T brd bt bc brr B N ver tl (st_when ver tl s) ∧ Turn S w w' := by
  have q2 := at_cell (i := 2) hT.1.box rfl
  have HC := Lib.hid (cnumber_any B bc s.c w hT.1.cur)
  obtain ⟨va, hrec⟩ := hT.2
  obtain ⟨x, hx⟩ : ∃ x, x = s.c.num.1 := ⟨_, rfl⟩
  obtain ⟨d, hd⟩ : ∃ d, d = s.c.num.2 := ⟨_, rfl⟩
  have hfin : st_when ver tl s = ⟨⟨s.r.kind, s.r.target, s.r.rule, s.r.out, (x : Int), s.r.tag⟩, s.l, d⟩ := by rw [hx, hd]; rfl
  rw [hfin]
  rw [← hx, ← hd] at HC
  have H := Lib.hid hT.1
  have HREC := Lib.hid hrec
  have HE := Lib.hid hE
  clear hT hE hrec hfin hx hd
  go_enter Try.func63, Try.ntmps63
  go_wp2_with (go_at_call 81; refine HC.out.mono ?_; rintro e w3 ⟨rfl, hc3, ho3⟩; have HR3 := Lib.hid (H.out.took hc3 ho3); have hrec3 := rec_only HREC.out ho3 H.out.cblock HE.out.ne; have f3 := at_cell (i := 5) hrec3.1 rfl; have y3 := at_frozen (i := 5) hrec3.1; have HREC3 := Lib.hid hrec3; have HO3 := Lib.hid ho3; clear ho3 hrec3 hc3)
  go_end0
  have hb : S brr := HREC.out.2.2.1
  exact ⟨rfl, ⟨HR3.out.store (g := brr) (i := 5) _ (fun h => HE.out.nd (h ▸ hb)) HE.out.ne (fun h => HE.out.nt _ h hb) (HE.out.up _ hb), va, rec_set HREC3.out 5 _ rfl⟩, ((Turn.of_only HO3.out).wide (fun k hk => hk ▸ HE.out.sc)).setCell brr 5 _ hb⟩

end Go.Proofs.Ytfidfhajnobonaa

/- The reader's tag and deps. -/
namespace Go.Proofs.Ytfidfhajnobonaa
open Go.RowKit

def st_tag (_ver : Int) (tl : List (List UInt8)) (s : Rst) : Rst := ⟨⟨s.r.kind, s.r.target, s.r.rule, s.r.out, s.r.time, if s.c.num.1 = 0 then s.r.tag else ttext tl (s.c.num.1 - 1)⟩, s.l, s.c.num.2⟩

set_option maxRecDepth 100000 in
set_option maxHeartbeats 1000000 in
theorem rd_tag0 (S T : Nat → Prop) (brd bt bc brr B N : Nat) (ver : Int) (tl : List (List UInt8)) (s : Rst) (h0 : s.c.num.1 = 0) (w : World) (hE : RE w S T brd bc brr B) (hT : RT w S T brd bt bc brr B N ver tl s) :
    Calls Try.prog 64 #[.pointer (some ⟨brd, 0, none⟩), .pointer (some ⟨brr, 0, none⟩)] w fun e w' => e = .returned (.tuple #[]) ∧ RT w' S T brd bt bc brr B N ver tl ⟨⟨s.r.kind, s.r.target, s.r.rule, s.r.out, s.r.time, s.r.tag⟩, s.l, s.c.num.2⟩ ∧ Turn S w w' := by
  have q2 := at_cell (i := 2) hT.1.box rfl
  have HC := Lib.hid (cnumber_any B bc s.c w hT.1.cur)
  obtain ⟨va, hrec⟩ := hT.2
  rw [h0] at HC
  clear h0
  obtain ⟨d, hd⟩ : ∃ d, d = s.c.num.2 := ⟨_, rfl⟩
  rw [← hd] at HC ⊢
  have H := Lib.hid hT.1
  have HREC := Lib.hid hrec
  have HE := Lib.hid hE
  clear hT hE hrec hd
  go_enter Try.func64, Try.ntmps64
  go_wp2_with (go_at_call 81; refine HC.out.mono ?_; rintro e w3 ⟨rfl, hc3, ho3⟩; have HR3 := Lib.hid (H.out.took hc3 ho3); have hrec3 := rec_only HREC.out ho3 H.out.cblock HE.out.ne; have f3 := at_cell (i := 6) hrec3.1 rfl; have y3 := at_frozen (i := 6) hrec3.1; have HREC3 := Lib.hid hrec3; have HO3 := Lib.hid ho3; clear ho3 hrec3 hc3)
  first | go_end0 | (refine bodyPost_ret (results_none rfl _ _ _) rfl ?_)
  have hb : S brr := HREC.out.2.2.1
  exact ⟨rfl, ⟨HR3.out, va, HREC3.out⟩, (Turn.of_only HO3.out).wide (fun k hk => hk ▸ HE.out.sc)⟩

set_option maxRecDepth 100000 in
set_option maxHeartbeats 1000000 in
theorem rd_tag1 (S T : Nat → Prop) (brd bt bc brr B N : Nat) (ver : Int) (tl : List (List UInt8)) (s : Rst) (m : Nat) (h0 : s.c.num.1 = m + 1) (w : World) (hE : RE w S T brd bc brr B) (hT : RT w S T brd bt bc brr B N ver tl s) :
    Calls Try.prog 64 #[.pointer (some ⟨brd, 0, none⟩), .pointer (some ⟨brr, 0, none⟩)] w fun e w' => e = .returned (.tuple #[]) ∧ RT w' S T brd bt bc brr B N ver tl ⟨⟨s.r.kind, s.r.target, s.r.rule, s.r.out, s.r.time, ttext tl m⟩, s.l, s.c.num.2⟩ ∧ Turn S w w' := by
  have q2 := at_cell (i := 2) hT.1.box rfl
  have HC := Lib.hid (cnumber_any B bc s.c w hT.1.cur)
  obtain ⟨va, hrec⟩ := hT.2
  have hlt : m + 1 < 18446744073709551616 := by rw [← h0]; exact Cu.num_lt
  rw [h0] at HC
  push_cast at HC
  have n1 : decide ((m : Int) + 1 = 0) = false := decide_eq_false (by omega)
  have n2 : ((m : Int) + 1 == 0) = false := by rw [beq_eq_false_iff_ne]; omega
  have n3 : ((m : Int) + 1 != 0) = true := by rw [bne_iff_ne]; omega
  clear h0
  obtain ⟨d, hd⟩ : ∃ d, d = s.c.num.2 := ⟨_, rfl⟩
  rw [← hd] at HC ⊢
  have H := Lib.hid hT.1
  have HREC := Lib.hid hrec
  have HE := Lib.hid hE
  clear hT hE hrec hd
  go_enter Try.func64, Try.ntmps64
  go_wp2_with (first
    | (go_at_call 83; refine (rtext_any T brd bt bc B N m ver tl d _ HR3.out).mono ?_; rintro e w4 ⟨rfl, rfl⟩)
    | (go_at_call 81; refine HC.out.mono ?_; rintro e w3 ⟨rfl, hc3, ho3⟩; have HR3 := Lib.hid (H.out.took hc3 ho3); have hrec3 := rec_only HREC.out ho3 H.out.cblock HE.out.ne; have f3 := at_cell (i := 6) hrec3.1 rfl; have y3 := at_frozen (i := 6) hrec3.1; have HREC3 := Lib.hid hrec3; have HO3 := Lib.hid ho3; clear ho3 hrec3 hc3))
  first | go_end0 | (refine bodyPost_ret (results_none rfl _ _ _) rfl ?_)
  have hb : S brr := HREC.out.2.2.1
  exact ⟨rfl, ⟨HR3.out.store (g := brr) (i := 6) _ (fun h => HE.out.nd (h ▸ hb)) HE.out.ne (fun h => HE.out.nt _ h hb) (HE.out.up _ hb), va, rec_set HREC3.out 6 _ rfl⟩, ((Turn.of_only HO3.out).wide (fun k hk => hk ▸ HE.out.sc)).setCell brr 6 _ hb⟩

theorem rd_tag (S T : Nat → Prop) (brd bt bc brr B N : Nat) (ver : Int) (tl : List (List UInt8)) (s : Rst) (w : World) (hE : RE w S T brd bc brr B) (hT : RT w S T brd bt bc brr B N ver tl s) :
    Calls Try.prog 64 #[.pointer (some ⟨brd, 0, none⟩), .pointer (some ⟨brr, 0, none⟩)] w fun e w' => e = .returned (.tuple #[]) ∧ RT w' S T brd bt bc brr B N ver tl (st_tag ver tl s) ∧ Turn S w w' := by
  unfold st_tag
  rcases h : s.c.num.1 with _ | m
  · rw [if_pos rfl]
    exact rd_tag0 S T brd bt bc brr B N ver tl s h w hE hT
  · rw [if_neg (by omega), show m + 1 - 1 = m from rfl]
    exact rd_tag1 S T brd bt bc brr B N ver tl s m h w hE hT

/-- A dep is read, and put behind the others. -/
def rdStep (ver : Int) (tl : List (List UInt8)) (s : Rst) : Rst := ⟨s.r, s.l ++ [⟨(rdDep ver tl s.c).1.name, ((rdDep ver tl s.c).2.num.1 : Int), (rdDep ver tl s.c).1.order⟩], (rdDep ver tl s.c).2.num.2⟩
def rdIter (ver : Int) (tl : List (List UInt8)) : Nat → Rst → Rst
  | 0, s => s
  | i + 1, s => rdStep ver tl (rdIter ver tl i s)
theorem rdIter_len (ver : Int) (tl : List (List UInt8)) (s : Rst) : ∀ i, (rdIter ver tl i s).l.length = s.l.length + i
  | 0 => rfl
  | i + 1 => by
    show (((rdIter ver tl i s).l ++ [_]).length) = _
    rw [List.length_append, rdIter_len ver tl s i, List.length_singleton]
    omega
def st_deps (ver : Int) (tl : List (List UInt8)) (s : Rst) : Rst := rdIter ver tl (min s.c.num.1 16) ⟨s.r, s.l, s.c.num.2⟩

theorem rdep_any (T : Nat → Prop) (brd bt bc B N : Nat) (ver : Int) (tl : List (List UInt8)) (c : Cu) (w : World) (hTn : ¬ T w.heap.size) (h : RS w T brd bt bc B N ver tl c) :
    Calls Try.prog 82 #[.pointer (some ⟨brd, 0, none⟩)] w fun e w' => e = .returned (.agg #[.string (tx (rdDep ver tl c).1.name), .int .u64 0, .bool (rdDep ver tl c).1.order]) ∧ RS w' T brd bt bc B N ver tl (rdDep ver tl c).2 ∧ Only bc w w' := by
  unfold rdDep
  by_cases hv : ver < 3
  · rw [if_pos hv]
    exact rdep_less T brd bt bc B N ver hv tl c w hTn h
  · rw [if_neg hv]
    exact rdep_more T brd bt bc B N ver hv tl c w hTn h

theorem rs_alloc {w : World} {T : Nat → Prop} {brd bt bc B N : Nat} {ver : Int} {tl : List (List UInt8)} {c : Cu} (h : RS w T brd bt bc B N ver tl c) (o : Obj) : RS (w.alloc o) T brd bt bc B N ver tl c := by
  have hb := h.box
  have hblt : brd < w.heap.size := by
    rcases Nat.lt_or_ge brd w.heap.size with h | h
    · exact h
    · rw [Array.getElem?_eq_none h] at hb; cases hb
  exact ⟨(Below.heap_alloc w _ brd hblt).trans hb, h.cur.below ((Below.refl _ w).alloc (Nat.le_refl _) _) h.cur.lt, tab_alloc h.tab _, h.nt, h.nb, h.big⟩
theorem rec_lt {w : World} {S : Nat → Prop} {brr : Nat} {r : Rc} {va : Value} {l : List Dp} (h : RecS w S brr r va l) : brr < w.heap.size := by
  have h1 := h.1
  rcases Nat.lt_or_ge brr w.heap.size with h | h
  · exact h
  · rw [Array.getElem?_eq_none h] at h1; cases h1
theorem rec_alloc {w : World} {S : Nat → Prop} {brr : Nat} {r : Rc} {va : Value} {l : List Dp} (h : RecS w S brr r va l) (o : Obj) : RecS (w.alloc o) S brr r va l :=
  ⟨(Below.heap_alloc w o brr (rec_lt h)).trans h.1, World.ownsRow.alloc h.2.1 o, h.2.2.1, h.2.2.2⟩
/-- A store into a block of its own that was made behind it. -/
theorem rec_other {w : World} {S : Nat → Prop} {brr g i : Nat} {r : Rc} {va : Value} {l : List Dp} (h : RecS w S brr r va l) (u : Value) (h1 : brr ≠ g) (h2 : va.ownBlock ≠ some g) : RecS (w.setCell ⟨g, i, none⟩ u) S brr r va l :=
  ⟨(Below.heap_setCell w ⟨g, i, none⟩ u brr h1).trans h.1, ownsRow_setCell_other h.2.1 h2 _, h.2.2.1, h.2.2.2⟩
theorem reads_dep (w : World) (x : Dp) : Reads (w.alloc (.cells #[.string (tx x.name), .int .u64 x.hash, .bool x.order] 56)) (w.heap.size + 1) 3 (some ⟨w.heap.size, 0, none⟩) 1 (dps [x]) := by
  refine ⟨rfl, fun _ => ⟨_, rfl, by show w.heap.size < _; omega, fun j u hu => ?_⟩⟩
  have h2 := at_cell (i := j) (one_new w (.cells #[.string (tx x.name), .int .u64 x.hash, .bool x.order] 56)) (by simpa [dps, Dp.cells, rsv] using hu)
  rw [show (⟨w.heap.size, 0, none⟩ : Addr).add j = ⟨w.heap.size, j, none⟩ from by unfold Addr.add; split <;> simp_all]
  exact h2

/-- A dep put behind the record's. -/
theorem rec_push {w w' : World} {S : Nat → Prop} {brr : Nat} {r : Rc} {va va' : Value} {l : List Dp} {x : Dp} (h : RecS w S brr r va l) (hn : S w.heap.size) (ho : w'.ownsRow 0 56 3 va' (l.length + 1) (dps l ++ dps [x])) (hg : w.grownBy w' va.ownBlock) (hv : va'.ownBlock = va.ownBlock ∨ va'.ownBlock = some w.heap.size) :
    w'.heap[brr]? = some (.cells #[.int .i64 r.kind, .string (tx r.target), .int .u64 r.rule, va, .int .u64 r.out, .int .u64 r.time, .string (tx r.tag)] 26 (0, 0)) ∧ RecS (w'.setCell ⟨brr, 3, none⟩ va') S brr r va' (l ++ [x]) ∧ Turn (fun k => k = brr ∨ va.ownBlock = some k) w (w'.setCell ⟨brr, 3, none⟩ va') := by
  have hlt := rec_lt h
  obtain ⟨h1, h2, h3, h4⟩ := h
  have hne : va.ownBlock ≠ some brr := own_cells h2 h1 (by decide)
  have h5 := (hg.block brr hlt (fun h => hne h.symm)).trans h1
  have hne' : va'.ownBlock ≠ some brr := own_cells ho h5 (by decide)
  refine ⟨h5, ⟨set_same h5 3 va', ?_, h3, fun k hk => ?_⟩, (((Turn.refl _ w).grown hg (fun i hi _ => .inr hi)).setCell _ _ _ (.inl rfl))⟩
  · have h6 := ownsRow_setCell_other ho hne' (a := ⟨brr, 3, none⟩) va'
    rw [List.length_append, show dps (l ++ [x]) = dps l ++ dps [x] from List.flatMap_append]
    exact h6
  · rcases hv with h | h
    · exact h4 k (h ▸ hk)
    · rw [h] at hk
      obtain rfl : w.heap.size = k := by simpa using hk
      exact hn

def RdRel (S T : Nat → Prop) (brd bt bc brr B N : Nat) (ver : Int) (tl : List (List UInt8)) (s1 : Rst) (m : Nat) (w : World) (idx : Value) (wr : World) : Prop :=
  ∃ i : Nat, i ≤ m ∧ idx = .int .u64 (i : Int) ∧ RT wr S T brd bt bc brr B N ver tl (rdIter ver tl i s1) ∧ Turn S w wr

set_option maxRecDepth 100000 in
set_option maxHeartbeats 4000000 in
theorem rd_deps (S T : Nat → Prop) (brd bt bc brr B N : Nat) (ver : Int) (tl : List (List UInt8)) (s : Rst) (hsl : s.l.length ≤ 1000) (w : World) (hE : RE w S T brd bc brr B) (hT : RT w S T brd bt bc brr B N ver tl s) :
    Calls Try.prog 61 #[.pointer (some ⟨brd, 0, none⟩), .pointer (some ⟨brr, 0, none⟩)] w fun e w' => e = .returned (.tuple #[]) ∧ RT w' S T brd bt bc brr B N ver tl (st_deps ver tl s) ∧ Turn S w w' := by
  obtain ⟨i0, ii0, iz0, iz1, iz2⟩ := info_parts (show (Try.prog.info? 56).map (fun i => (i.zero, i.size, i.bytes)) = some (some (.agg #[.string { data := #[] }, .int .u64 0, .bool false]), 3, 32) from by kernel_rfl)
  have q2 := at_cell (i := 2) hT.1.box rfl
  have HC := Lib.hid (cnumber_any B bc s.c w hT.1.cur)
  obtain ⟨va0, hrec0⟩ := hT.2
  unfold st_deps
  have hslen := rdIter_len ver tl ⟨s.r, s.l, s.c.num.2⟩
  obtain ⟨s1, hs1⟩ : ∃ s1 : Rst, s1 = ⟨s.r, s.l, s.c.num.2⟩ := ⟨_, rfl⟩
  rw [← hs1] at hslen ⊢
  have hs1l : s1.l.length ≤ 1000 := by rw [hs1]; exact hsl
  obtain ⟨m, hm⟩ : ∃ m, m = s.c.num.1 := ⟨_, rfl⟩
  rw [← hm] at HC ⊢
  obtain ⟨mm, hmm⟩ : ∃ mm, mm = min m 16 := ⟨_, rfl⟩
  have hmin : min (m : Int) 16 = (mm : Int) := by omega
  have hm16 : mm ≤ 16 := by omega
  have H := Lib.hid hT.1
  have HREC := Lib.hid hrec0
  have HE := Lib.hid hE
  have HS1 := Lib.hid hs1
  have HLEN := Lib.hid hslen
  have HL1 := Lib.hid hs1l
  rw [← hmm]
  have HMM := Lib.hid hmm
  have HMIN := Lib.hid hmin
  have HHM := Lib.hid hm
  have hif : (if (16 : Int) < (m : Int) then (16 : Int) else (m : Int)) = (mm : Int) := by split <;> omega
  have hif2 : (if (m : Int) < 16 then (m : Int) else (16 : Int)) = (mm : Int) := by split <;> omega
  have hif3 : (if (m : Int) ≤ 16 then (m : Int) else (16 : Int)) = (mm : Int) := by split <;> omega
  clear hT hE hrec0 hs1 hslen hs1l hm hmm hsl
  go_enter Try.func61, Try.ntmps61
  go_wp2_with (go_at_call 81; refine HC.out.mono ?_; rintro e w3 ⟨rfl, hc3, ho3⟩; have HR3 := Lib.hid (H.out.took hc3 ho3); have HREC3 := Lib.hid (rec_only HREC.out ho3 H.out.cblock HE.out.ne); have HT3 := Lib.hid ((Turn.of_only ho3).wide (S2 := S) (fun k hk => hk ▸ HE.out.sc)); clear ho3 hc3)
  go_loopw [11] (fun idx wr => RdRel S T brd bt bc brr B N ver tl s1 mm w idx wr) (fun idx wr => mm - (intOf idx).toNat)
  case atStart => exact ⟨0, by omega, rfl, ⟨by show RS _ _ _ _ _ _ _ _ _ s1.c; rw [HS1.out]; exact HR3.out, va0, by show RecS _ _ _ s1.r _ s1.l; rw [HS1.out]; exact HREC3.out⟩, HT3.out⟩
  case round =>
    obtain ⟨i, hi, rfl, ⟨hrs, va, hrec⟩, htu⟩ := hrel
    have HTU := Lib.hid htu
    by_cases hlt : i < mm
    · have hli := HLEN.out i
      have hEr := HE.out.next htu.2.2.2.1
      obtain ⟨st, hst⟩ : ∃ st, st = rdIter ver tl i s1 := ⟨_, rfl⟩
      rw [← hst] at hrs hrec hli
      have hb : S brr := hrec.2.2.1
      have hTn : ¬ T wr.heap.size := fun h => HE.out.nt _ h (hEr.new _ (Nat.le_refl _))
      have hdep := rdep_any T brd bt bc B N ver tl st.c wr hTn hrs
      obtain ⟨x, hx⟩ : ∃ x, x = (rdDep ver tl st.c).1.name := ⟨_, rfl⟩
      obtain ⟨o, ho⟩ : ∃ o, o = (rdDep ver tl st.c).1.order := ⟨_, rfl⟩
      obtain ⟨d, hd⟩ : ∃ d, d = (rdDep ver tl st.c).2 := ⟨_, rfl⟩
      obtain ⟨h, hh⟩ : ∃ h, h = d.num.1 := ⟨_, rfl⟩
      obtain ⟨d2, hd2⟩ : ∃ d2, d2 = d.num.2 := ⟨_, rfl⟩
      have hnext : rdIter ver tl (i + 1) s1 = ⟨st.r, st.l ++ [⟨x, (h : Int), o⟩], d2⟩ := by
        show rdStep ver tl (rdIter ver tl i s1) = _
        rw [← hst, hx, ho, hh, hd2, hd]
        rfl
      rw [← hx, ← ho, ← hd] at hdep
      have HDEP := Lib.hid hdep
      have HNUM : Hid (∀ W, RS W T brd bt bc B N ver tl d → Calls Try.prog 81 #[.pointer (some ⟨bc, 0, none⟩)] W fun e w' => e = .returned (.int .u64 (h : Int)) ∧ RS w' T brd bt bc B N ver tl d2 ∧ Only bc W w') := fun W hW => by
        have h1 := cnumber_any B bc d W hW.cur
        rw [← hh, ← hd2] at h1
        exact h1.mono fun e w' ⟨a, b, c⟩ => ⟨a, hW.took b c, c⟩
      have HNEXT := Lib.hid hnext
      have HRS := Lib.hid hrs
      have HRECR := Lib.hid hrec
      have HER := Lib.hid hEr
      have HSB := Lib.hid hb
      have HLI : Hid (st.l.length ≤ 1016) := by have := HL1.out; show _ ≤ _; omega
      obtain ⟨sr, sl, sc⟩ := st
      have q1 := at_cell (i := 2) hrs.box rfl
      have hi0 : (0 : Int) ≤ (i : Int) := by omega
      have hi1 : (i : Int) < (mm : Int) := by omega
      have d1 : decide ((i : Int) < (mm : Int)) = true := decide_eq_true hi1
      clear hst hx ho hd hh hd2 hnext hdep hrs hrec hEr hb hTn hli htu
      go_wp2_with (first
        | (go_at_call 81; refine (HNUM.out _ HR4.out).mono ?_; rintro e w5 ⟨rfl, hr5, ho5⟩; have hbx5 := (ho5.block w3.heap.size (by simp) HNB.out).trans HBX.out; have j0 := at_cell (i := 0) hbx5 rfl; have j1 := at_cell (i := 1) hbx5 rfl; have j2 := at_cell (i := 2) hbx5 rfl; have x1 := at_frozen (i := 1) hbx5; have HREC5 := Lib.hid (rec_only HREC4.out ho5 HR4.out.cblock HE.out.ne); have HR5 := Lib.hid hr5; have HO5 := Lib.hid ho5; have HBX5 := Lib.hid hbx5; clear hr5 ho5 hbx5)
        | (go_at_call 82; refine HDEP.out.mono ?_; rintro e w3 ⟨rfl, hr3, ho3⟩; have HO3 := Lib.hid ho3; have HREC4 := Lib.hid (rec_alloc (rec_only HRECR.out ho3 HRS.out.cblock HE.out.ne) (.cells #[.string (tx x), .int .u64 0, .bool o] 56)); have HR4 := Lib.hid (rs_alloc hr3 (.cells #[.string (tx x), .int .u64 0, .bool o] 56)); have HBX := Lib.hid (one_new w3 (.cells #[.string (tx x), .int .u64 0, .bool o] 56)); have HNB : Hid (w3.heap.size ≠ bc) := (fun h => by have h1 := hr3.cur.lt; omega); have HBR3 : Hid (brr ≠ w3.heap.size) := (fun h => by have h1 := rec_lt (rec_only HRECR.out ho3 HRS.out.cblock HE.out.ne); omega); have k2 := at_cell (i := 2) HR4.out.box rfl; clear hr3 ho3))
      have hbx6 := set_same HBX5.out 1 (.int .u64 (h : Int))
      have hva6 : va.ownBlock ≠ some w3.heap.size := fun hg => by have h1 := own_lt HRECR.out.2.1 _ hg; have h2 := HO3.out.size; omega
      have hrec6 := rec_other HREC5.out (i := 1) (.int .u64 (h : Int)) HBR3.out hva6
      have hnew3 : S w3.heap.size := HER.out.new _ HO3.out.size
      have hrs6 := HR5.out.store (g := w3.heap.size) (i := 1) (.int .u64 (h : Int)) (fun h => HE.out.nd (h ▸ hnew3)) (fun h => HNB.out h.symm) (fun h => HE.out.nt _ h hnew3) (HE.out.up _ hnew3)
      have htu6 : Turn S w (w5.setCell ⟨w3.heap.size, 1, none⟩ (.int .u64 (h : Int))) := by
        have h1 : Turn S wr w3 := (Turn.of_only HO3.out).wide (fun k hk => hk ▸ HE.out.sc)
        have h2 : Turn S w3 (w3.alloc (.cells #[.string (tx x), .int .u64 0, .bool o] 56)) := Turn.of_below ((Below.refl _ w3).alloc (Nat.le_refl _) _)
        have h3 : Turn S (w3.alloc (.cells #[.string (tx x), .int .u64 0, .bool o] 56)) w5 := (Turn.of_only HO5.out).wide (fun k hk => hk ▸ HE.out.sc)
        exact ((HTU.out.trans (h1.trans (h2.trans h3 (fun _ _ h => h)) (fun _ _ h => h)) (fun _ _ h => h))).setCell _ _ _ hnew3
      generalize (w5.setCell ⟨w3.heap.size, 1, none⟩ (.int .u64 (h : Int))) = w6 at *
      have hbx : w6.heap[w3.heap.size]? = some (.cells #[.string (tx x), .int .u64 (h : Int), .bool o] 56 (0, 0)) := hbx6
      have HBX6 := Lib.hid hbx
      have HREC6 := Lib.hid hrec6
      have HRS6 := Lib.hid hrs6
      have HTU6 := Lib.hid htu6
      have hlt6 := rec_lt hrec6
      have f3 := at_cell (i := 3) hrec6.1 rfl
      have hbl6 : w3.heap.size < w6.heap.size := by
        rcases Nat.lt_or_ge w3.heap.size w6.heap.size with h | h
        · exact h
        · rw [Array.getElem?_eq_none h] at hbx; cases hbx
      have HBL6 := Lib.hid hbl6
      -- behind the append and the store
      have FIN : Hid (∀ (w7 w8 : World) (va' : Value), w7 = (w6.alloc (.cells #[.string (tx x), .int .u64 (h : Int), .bool o] 56)).drew → w8.ownsRow 0 56 3 va' (sl.length + 1) (dps sl ++ dps [⟨x, (h : Int), o⟩]) → w7.grownBy w8 va.ownBlock → (va'.ownBlock = va.ownBlock ∨ va'.ownBlock = some w7.heap.size) →
          w8.heap[brr]? = some (.cells #[.int .i64 sr.kind, .string (tx sr.target), .int .u64 sr.rule, va, .int .u64 sr.out, .int .u64 sr.time, .string (tx sr.tag)] 26 (0, 0)) ∧ RT (w8.setCell ⟨brr, 3, none⟩ va') S T brd bt bc brr B N ver tl ⟨sr, sl ++ [⟨x, (h : Int), o⟩], d2⟩ ∧ Turn S w (w8.setCell ⟨brr, 3, none⟩ va') ∧ w8.heap[w3.heap.size]? = some (.cells #[.string (tx x), .int .u64 (h : Int), .bool o] 56 (0, 0)) ∧ (w8.setCell ⟨brr, 3, none⟩ va').heap[w3.heap.size]? = some (.cells #[.string (tx x), .int .u64 (h : Int), .bool o] 56 (0, 0))) := fun w7 w8 va' e h1 h2 h3 => by
        subst e
        have hz7 : (w6.alloc (.cells #[.string (tx x), .int .u64 (h : Int), .bool o] 56)).drew.heap.size = w6.heap.size + 1 := by show (w6.alloc (.cells #[.string (tx x), .int .u64 (h : Int), .bool o] 56)).heap.size = _; simp
        have hn7 : S (w6.alloc (.cells #[.string (tx x), .int .u64 (h : Int), .bool o] 56)).drew.heap.size := HE.out.new _ (by rw [hz7]; have := HTU6.out.2.2.2.1; omega)
        have hr7 : RecS (w6.alloc (.cells #[.string (tx x), .int .u64 (h : Int), .bool o] 56)).drew S brr sr va sl := rec_alloc HREC6.out (.cells #[.string (tx x), .int .u64 (h : Int), .bool o] 56)
        obtain ⟨g1, g2, g3⟩ := rec_push (x := ⟨x, (h : Int), o⟩) hr7 hn7 h1 h2 h3
        have hsub : ∀ k, (k = brr ∨ va.ownBlock = some k) → S k := fun k hk => by
          rcases hk with rfl | hk
          · exact HSB.out
          · exact HREC6.out.2.2.2 k hk
        have hcb := HRS6.out.cblock
        obtain ⟨cs, hcs⟩ := hcb
        have hvc : va.ownBlock ≠ some bc := own_cells HREC6.out.2.1 hcs (by decide)
        have hbn : brr ≠ w3.heap.size := HBR3.out
        have h8 : w8.heap[w3.heap.size]? = some (.cells #[.string (tx x), .int .u64 (h : Int), .bool o] 56 (0, 0)) := (h2.block w3.heap.size (by rw [hz7]; have := HBL6.out; omega) (fun h => hva6 h.symm)).trans ((Below.heap_alloc w6 _ _ HBL6.out).trans HBX6.out)
        refine ⟨g1, ⟨(((rs_alloc HRS6.out (.cells #[.string (tx x), .int .u64 (h : Int), .bool o] 56)).turn (S := fun _ => False) (Turn.of_below (Below.refl _ _).drew) (fun h => h) (fun h => h) (fun _ _ h => h) (fun _ h => h.elim))).turn g3 (fun h => HE.out.nd (hsub _ h)) (fun h => ?_) (fun k hk h => HE.out.nt k hk (hsub _ h)) (fun k hk => HE.out.up k (hsub _ hk)), va', g2⟩, ?_, h8, (Below.heap_setCell w8 ⟨brr, 3, none⟩ va' w3.heap.size (fun h => hbn h.symm)).trans h8⟩
        · rcases h with h | h
          · exact HE.out.ne h
          · exact hvc h
        · have h4 : Turn S w6 (w6.alloc (.cells #[.string (tx x), .int .u64 (h : Int), .bool o] 56)).drew := Turn.of_below ((Below.refl _ w6).alloc (Nat.le_refl _) _).drew
          exact HTU6.out.trans (h4.trans (g3.wide hsub) (fun _ _ h => h)) (fun _ _ h => h)
      clear hbx6 hrec6 hrs6 htu6 hbl6 HRS HRECR HREC4 HR4 HBX HREC5 HR5 HO5 HBX5
      refine wp_region_held (S := fun v => v.heap[w3.heap.size]? = some (.cells #[.string (tx x), .int .u64 (h : Int), .bool o] 56 (0, 0))) (by kernel_rfl) ?_
      have hS : w6.drew.heap[w3.heap.size]? = some (.cells #[.string (tx x), .int .u64 (h : Int), .bool o] 56 (0, 0)) := hbx
      refine h_take 0 (.pointer (some ⟨brr, 0, none⟩)) rfl (by kernel_rfl) (by kernel_rfl) (by kernel_rfl) (fun _ _ _ h => h) (by kernel_rfl) hS (fun _ _ => by kernel_rfl) ?_
      refine h_take 1 (.pointer (some ⟨brr, 0, none⟩)) rfl (by kernel_rfl) (by kernel_rfl) (by kernel_rfl) (fun _ _ _ h => h) (by kernel_rfl) hS (fun _ _ => by kernel_rfl) ?_
      refine h_take 2 (.pointer (some ⟨brr, 0, none⟩)) rfl (by kernel_rfl) (by kernel_rfl) (by kernel_rfl) (fun _ _ _ h => h) (by kernel_rfl) hS (fun _ _ => by kernel_rfl) ?_
      refine h_take 3 (.pointer (some ⟨brr, 3, none⟩)) rfl (by kernel_rfl) (by kernel_rfl) (by kernel_rfl) (fun _ _ _ h => h) (by kernel_rfl) hS (fun _ _ => by kernel_rfl) ?_
      refine h_take 5 (.agg #[.string (tx x), .int .u64 (h : Int), .bool o]) rfl (by kernel_rfl) (by kernel_rfl) (by kernel_rfl) (fun _ _ _ h => h) (by kernel_rfl) hS (by intro v1 hv; have e0 := at_cell (i := 0) hv rfl; have e1 := at_cell (i := 1) hv rfl; have e2 := at_cell (i := 2) hv rfl; go_simp; try rfl) ?_
      refine h_either 4 6 rfl rfl (by kernel_rfl) (by kernel_rfl) (by kernel_rfl) (fun K hK => ?_) (fun K hK => ?_)
      · go_simp
        refine hK _ _ hS ?_
        clear hK K
        refine h_one 6 rfl (by kernel_rfl) (by kernel_rfl) (fun K hK => ?_)
        go_simp
        have hS7 : ((w6.alloc (.cells #[.string (tx x), .int .u64 (h : Int), .bool o] 56)).drew).heap[w3.heap.size]? = some (.cells #[.string (tx x), .int .u64 (h : Int), .bool o] 56 (0, 0)) := (Below.heap_alloc w6 _ _ HBL6.out).trans HBX6.out
        refine hK _ _ hS7 ?_
        clear hK K
        refine h_one 7 rfl (by kernel_rfl) (by kernel_rfl) (fun K hK => ?_)
        refine wp_append_many (.tmp 25) (.tmp 27) 24 rfl 0 56 i0 _ 3 32 Try.underlying24 ii0 iz0 iz1 iz2 rfl (by decide) va sl.length (dps sl) rfl (World.ownsRow.alloc HREC6.out.2.1 (.cells #[.string (tx x), .int .u64 (h : Int), .bool o] 56)) (some ⟨w6.heap.size, 0, none⟩) 1 1 (w6.heap.size + 1) (dps [⟨x, (h : Int), o⟩]) rfl (by simp) (reads_dep w6 ⟨x, (h : Int), o⟩) (dps_one _) (by have := HLI.out; unfold maxLen; omega) (by have := HLI.out; omega) (by omega) ?_
        intro v8 w8 ho8 hg8 hv8
        obtain ⟨g1, g2, g3, g4, g5⟩ := FIN.out _ w8 v8 rfl ho8 hg8 hv8
        obtain ⟨A8, c8, rfl, _⟩ := own_slice ho8
        refine hK _ _ g4 ?_
        clear hK K
        refine h_take 8 (.pointer (some ⟨brr, 0, none⟩)) rfl (by kernel_rfl) (by kernel_rfl) (by kernel_rfl) (fun _ _ _ h => h) (by kernel_rfl) g4 (fun _ _ => by kernel_rfl) ?_
        refine h_take 9 (.pointer (some ⟨brr, 3, none⟩)) rfl (by kernel_rfl) (by kernel_rfl) (by kernel_rfl) (fun _ _ _ h => h) (by kernel_rfl) g4 (fun _ _ => by kernel_rfl) ?_
        refine h_one 10 rfl (by kernel_rfl) (by kernel_rfl) (fun K hK => ?_)
        have p3 := at_cell (i := 3) g1 rfl
        have z3 := at_frozen (i := 3) g1
        go_simp
        refine hK _ _ g5 ?_
        refine wpAnyH_done (by kernel_rfl) ?_ _
        go_simp
        have G2 := Lib.hid g2
        have G3 := Lib.hid g3
        clear g1 g2 g3 g4 g5 ho8 hg8 hv8 p3 z3
        go_wp2
        exact ⟨⟨i + 1, by omega, by go_num, by rw [HNEXT.out]; exact G2.out, G3.out⟩, by simp [intOf]; omega⟩
      · go_simp
        have hS7 : ((w6.alloc (.cells #[.string (tx x), .int .u64 (h : Int), .bool o] 56)).drew).heap[w3.heap.size]? = some (.cells #[.string (tx x), .int .u64 (h : Int), .bool o] 56 (0, 0)) := (Below.heap_alloc w6 _ _ HBL6.out).trans HBX6.out
        refine hK _ _ hS7 ?_
        clear hK K
        refine h_one 4 rfl (by kernel_rfl) (by kernel_rfl) (fun K hK => ?_)
        have f7 := at_cell (i := 3) (rec_alloc HREC6.out (.cells #[.string (tx x), .int .u64 (h : Int), .bool o] 56)).1 rfl
        go_simp
        refine hK _ _ hS7 ?_
        clear hK K
        refine h_one 7 rfl (by kernel_rfl) (by kernel_rfl) (fun K hK => ?_)
        refine wp_append_many (.tmp 25) (.tmp 27) 24 rfl 0 56 i0 _ 3 32 Try.underlying24 ii0 iz0 iz1 iz2 rfl (by decide) va sl.length (dps sl) rfl (World.ownsRow.alloc HREC6.out.2.1 (.cells #[.string (tx x), .int .u64 (h : Int), .bool o] 56)) (some ⟨w6.heap.size, 0, none⟩) 1 1 (w6.heap.size + 1) (dps [⟨x, (h : Int), o⟩]) rfl (by simp) (reads_dep w6 ⟨x, (h : Int), o⟩) (dps_one _) (by have := HLI.out; unfold maxLen; omega) (by have := HLI.out; omega) (by omega) ?_
        intro v8 w8 ho8 hg8 hv8
        obtain ⟨g1, g2, g3, g4, g5⟩ := FIN.out _ w8 v8 rfl ho8 hg8 hv8
        obtain ⟨A8, c8, rfl, _⟩ := own_slice ho8
        refine hK _ _ g4 ?_
        clear hK K
        refine h_take 8 (.pointer (some ⟨brr, 0, none⟩)) rfl (by kernel_rfl) (by kernel_rfl) (by kernel_rfl) (fun _ _ _ h => h) (by kernel_rfl) g4 (fun _ _ => by kernel_rfl) ?_
        refine h_take 9 (.pointer (some ⟨brr, 3, none⟩)) rfl (by kernel_rfl) (by kernel_rfl) (by kernel_rfl) (fun _ _ _ h => h) (by kernel_rfl) g4 (fun _ _ => by kernel_rfl) ?_
        refine h_one 10 rfl (by kernel_rfl) (by kernel_rfl) (fun K hK => ?_)
        have p3 := at_cell (i := 3) g1 rfl
        have z3 := at_frozen (i := 3) g1
        go_simp
        refine hK _ _ g5 ?_
        refine wpAnyH_done (by kernel_rfl) ?_ _
        go_simp
        have G2 := Lib.hid g2
        have G3 := Lib.hid g3
        clear g1 g2 g3 g4 g5 ho8 hg8 hv8 p3 z3
        go_wp2
        exact ⟨⟨i + 1, by omega, by go_num, by rw [HNEXT.out]; exact G2.out, G3.out⟩, by simp [intOf]; omega⟩
    · obtain rfl : i = mm := by omega
      have d1 : decide ((i : Int) < (i : Int)) = false := decide_eq_false (by omega)
      have HRT := Lib.hid (show RT wr S T brd bt bc brr B N ver tl (rdIter ver tl i s1) from ⟨hrs, va, hrec⟩)
      clear hrs hrec htu
      go_wp2
      go_end0
      exact ⟨rfl, HRT.out, HTU.out⟩

end Go.Proofs.Ytfidfhajnobonaa

/- What Put lays is read as the record. -/
namespace Go.Proofs.Ytfidfhajnobonaa
open Go.RowKit

/-- A cursor ahead of some bytes, with no error. -/
def Rest (c : Cu) (suf : List UInt8) : Prop := c.e = 0 ∧ c.at_ ≤ c.bs.length ∧ c.bs.drop c.at_ = suf

theorem Rest.on {c : Cu} {a suf : List UInt8} (h : Rest c (a ++ suf)) : Rest { c with at_ := c.at_ + a.length } suf := by
  obtain ⟨h1, h2, h3⟩ := h
  have hl := congrArg List.length h3
  rw [List.length_drop, List.length_append] at hl
  refine ⟨h1, ?_, ?_⟩
  · show c.at_ + a.length ≤ c.bs.length; omega
  · show c.bs.drop (c.at_ + a.length) = suf
    rw [← List.drop_drop, h3]; simp

theorem num_rest {c : Cu} {n : Nat} {suf : List UInt8} (hn : n < top) (h : Rest c (vb n ++ suf)) : c.num.1 = n ∧ Rest c.num.2 suf := by
  have hr : c.nuR = (n, c.at_ + (vb n).length, 0) := by
    unfold Cu.nuR
    rw [h.2.2, gr_laid0 _ _ hn]
    simp [gnext]
  unfold Cu.num Cu.tk
  rw [if_pos h.1, hr]
  exact ⟨rfl, h.on⟩

theorem text_rest {c : Cu} {s suf : List UInt8} (hs : s.length ≤ 64) (h : Rest c (blob s ++ suf)) : (c.text 64).1 = s ∧ Rest (c.text 64).2 suf := by
  have hr : c.txR 64 = (s, c.at_ + (blob s).length, 0) := by
    unfold Cu.txR
    have h0 : c.bs = c.bs.take c.at_ ++ (blob s ++ suf) := by rw [← h.2.2, List.take_append_drop]
    have hl : (c.bs.take c.at_).length = c.at_ := by rw [List.length_take]; have := h.2.1; omega
    have h1 := bg_laid 64 (c.bs.take c.at_) s suf (by unfold top; omega) (by omega)
    rw [← h0, hl] at h1
    exact h1
  unfold Cu.text Cu.tk
  rw [if_pos h.1, hr]
  exact ⟨rfl, h.on⟩

theorem byte_rest {c : Cu} {x : UInt8} {suf : List UInt8} (h : Rest c (x :: suf)) : c.byte.1 = x ∧ Rest c.byte.2 suf := by
  have hr : c.byR = (x, c.at_ + 1, 0) := by
    unfold Cu.byR
    rw [h.2.2]
  unfold Cu.byte Cu.tk
  rw [if_pos h.1, hr]
  exact ⟨rfl, Rest.on (a := [x]) h⟩

theorem ttext_tnum {tl : List (List UInt8)} {s : List UInt8} (h : s ∈ tl) : ttext tl (tnum tl s) = s := by
  unfold ttext
  rw [tnum_at h]
  rfl

theorem name_rest {ver : Int} {tl : List (List UInt8)} {c : Cu} {s suf : List UInt8} (hs : s.length ≤ 64) (ht : tl.length ≤ 1073741824) (hm : ver < 2 ∨ s ∈ tl) (h : Rest c (nmB ver tl s ++ suf)) : (rdName ver tl c).1 = s ∧ Rest (rdName ver tl c).2 suf := by
  unfold nmB at h
  unfold rdName
  by_cases hv : ver < 2
  · rw [if_pos hv] at h ⊢
    exact text_rest hs h
  · rw [if_neg hv] at h ⊢
    obtain ⟨h1, h2⟩ := num_rest (small_vb (by have := tnum_le (s := s) ht; omega)) h
    refine ⟨?_, h2⟩
    show ttext tl c.num.1 = s
    rw [h1]
    exact ttext_tnum (hm.resolve_left hv)

theorem dep_rest {ver : Int} {tl : List (List UInt8)} {c : Cu} {d : Dp} {suf : List UInt8} (hs : d.name.length ≤ 64) (ht : tl.length ≤ 1073741824) (hm : ver < 2 ∨ d.name ∈ tl) (ho : d.order = true → 3 ≤ ver) (h : Rest c (depB ver tl d ++ suf)) : (rdDep ver tl c).1.name = d.name ∧ (rdDep ver tl c).1.order = d.order ∧ Rest (rdDep ver tl c).2 suf := by
  unfold depB at h
  unfold rdDep
  by_cases hv : ver < 3
  · rw [if_pos hv] at h ⊢
    obtain ⟨h1, h2⟩ := name_rest hs ht hm h
    refine ⟨h1, ?_, h2⟩
    show false = d.order
    cases hd : d.order
    · rfl
    · have := ho hd; omega
  · rw [if_neg hv] at h ⊢
    have hin : d.name ∈ tl := hm.resolve_left (by omega)
    have hle := tnum_le (s := d.name) ht
    obtain ⟨h1, h2⟩ := num_rest (small_vb (by split <;> omega)) h
    refine ⟨?_, ?_, h2⟩
    · show ttext tl (c.num.1 / 2) = d.name
      rw [h1, show (2 * tnum tl d.name + if d.order = true then 1 else 0) / 2 = tnum tl d.name by split <;> omega]
      exact ttext_tnum hin
    · show decide (c.num.1 % 2 = 1) = d.order
      rw [h1]
      cases d.order <;> simp <;> omega

/-- What a record's deps may be, for them to be read again. -/
def DepOk (ver : Int) (tl : List (List UInt8)) (d : Dp) : Prop := d.name.length ≤ 64 ∧ (ver < 2 ∨ d.name ∈ tl) ∧ (d.order = true → 3 ≤ ver) ∧ (0 ≤ d.hash ∧ d.hash < 18446744073709551616)

theorem step_rest {ver : Int} {tl : List (List UInt8)} {s : Rst} {d : Dp} {suf : List UInt8} (ht : tl.length ≤ 1073741824) (hd : DepOk ver tl d) (h : Rest s.c (fDep ver tl d ++ suf)) : ∃ c', rdStep ver tl s = ⟨s.r, s.l ++ [d], c'⟩ ∧ Rest c' suf := by
  unfold fDep at h
  rw [List.append_assoc] at h
  obtain ⟨h1, h2, h3⟩ := dep_rest hd.1 ht hd.2.1 hd.2.2.1 h
  obtain ⟨h4, h5⟩ := num_rest (num_nat hd.2.2.2).2 h3
  refine ⟨_, ?_, h5⟩
  unfold rdStep
  rw [h1, h2, h4, ← (num_nat hd.2.2.2).1]

theorem deps_rest {ver : Int} {tl : List (List UInt8)} (ht : tl.length ≤ 1073741824) (s : Rst) (l : List Dp) (suf : List UInt8) (hd : ∀ d ∈ l, DepOk ver tl d) (h : Rest s.c (l.flatMap (fDep ver tl) ++ suf)) :
    ∀ i, i ≤ l.length → ∃ c', rdIter ver tl i s = ⟨s.r, s.l ++ l.take i, c'⟩ ∧ Rest c' ((l.drop i).flatMap (fDep ver tl) ++ suf)
  | 0, _ => ⟨s.c, by simp [rdIter], h⟩
  | i + 1, hi => by
    obtain ⟨c1, h1, h2⟩ := deps_rest ht s l suf hd h i (by omega)
    have hx : l.drop i = l[i] :: l.drop (i + 1) := List.drop_eq_getElem_cons (by omega)
    rw [hx, List.flatMap_cons, List.append_assoc] at h2
    obtain ⟨c2, h3, h4⟩ := step_rest (s := ⟨s.r, s.l ++ l.take i, c1⟩) ht (hd _ (List.getElem_mem (by omega))) h2
    refine ⟨c2, ?_, h4⟩
    show rdStep ver tl (rdIter ver tl i s) = _
    rw [h1, h3, List.take_add_one, List.getElem?_eq_getElem (by omega)]
    simp

theorem stdeps_rest {ver : Int} {tl : List (List UInt8)} (ht : tl.length ≤ 1073741824) (s : Rst) (l : List Dp) (suf : List UInt8) (hl : l.length ≤ 16) (hd : ∀ d ∈ l, DepOk ver tl d) (h : Rest s.c (fDeps ver tl l ++ suf)) : ∃ c', st_deps ver tl s = ⟨s.r, s.l ++ l, c'⟩ ∧ Rest c' suf := by
  unfold fDeps at h
  rw [List.append_assoc] at h
  obtain ⟨h1, h2⟩ := num_rest (small_vb (by omega)) h
  obtain ⟨c', h3, h4⟩ := deps_rest ht ⟨s.r, s.l, s.c.num.2⟩ l suf hd h2 l.length (Nat.le_refl _)
  refine ⟨c', ?_, by simpa using h4⟩
  unfold st_deps
  rw [h1, Nat.min_eq_left hl, h3, List.take_length]

theorem tag_rest {ver : Int} {tl : List (List UInt8)} {s : Rst} {r : Rc} {suf : List UInt8} (ht : tl.length ≤ 1073741824) (h0 : s.r.tag = []) (hm : r.tag = [] ∨ r.tag ∈ tl) (h : Rest s.c (fTag tl r ++ suf)) : (st_tag ver tl s).r.tag = r.tag ∧ Rest (st_tag ver tl s).c suf := by
  unfold fTag at h
  unfold st_tag
  by_cases hz : r.tag = []
  · rw [if_pos hz] at h
    obtain ⟨h1, h2⟩ := num_rest (small_vb (by omega)) h
    refine ⟨?_, h2⟩
    show (if s.c.num.1 = 0 then s.r.tag else _) = r.tag
    rw [h1, if_pos rfl, h0, hz]
  · rw [if_neg hz] at h
    have hle := tnum_le (s := r.tag) ht
    obtain ⟨h1, h2⟩ := num_rest (small_vb (by omega)) h
    refine ⟨?_, h2⟩
    show (if s.c.num.1 = 0 then s.r.tag else _) = r.tag
    rw [h1, if_neg (by omega), show tnum tl r.tag + 1 - 1 = tnum tl r.tag from rfl]
    exact ttext_tnum (hm.resolve_left hz)

/-- All that is read of a record, behind its kind. -/
def rdAll (ver : Int) (tl : List (List UInt8)) (k : Nat) (s : Rst) : Rst :=
  if k = 2 then st_target ver tl s
  else if k = 1 then
    let a := st_out ver tl (st_deps ver tl (st_rule ver tl (st_target ver tl s)))
    let b := if ver < 2 then a else st_when ver tl a
    if ver < 3 then b else st_tag ver tl b
  else s

/-- The cursor at the start of a record's last payload. -/
def rdStart (p : List UInt8) : Rst := ⟨⟨((Cu.new p 0).byte.1.toNat : Int), [], 0, 0, 0, []⟩, [], (Cu.new p 0).byte.2⟩
theorem new_rest (p : List UInt8) : Rest (Cu.new p 0) p := by
  unfold Cu.new
  rw [if_neg (by omega)]
  exact ⟨rfl, by simp, by simp⟩

/-- A record that may be, all of whose texts are in the table, is read again. -/
theorem pay_back {ver : Int} {tl : List (List UInt8)} {r : Rc} {l : List Dp} (hm : MayP ver r l) (hnu : Nums r l) (ht : tl.length ≤ 1073741824) (hin : ver < 2 ∨ ∀ s ∈ rnames r l, s ∈ tl) : (rdStart (payB ver tl r l)).r.kind = r.kind ∧ (rdAll ver tl r.kind.toNat (rdStart (payB ver tl r l))).r = r ∧ (rdAll ver tl r.kind.toNat (rdStart (payB ver tl r l))).l = l := by
  obtain ⟨n1, n2, n3, n4⟩ := may_names hm
  have tin : ver < 2 ∨ r.target ∈ tl := hin.imp id fun h => h _ (tnew_mem (by simp))
  have din : ∀ d ∈ l, ver < 2 ∨ d.name ∈ tl := fun d hd => hin.imp id fun h => h _ (tnew_mem (by
    refine List.mem_append.2 (.inl (List.mem_cons.2 (.inr ?_)))
    exact List.mem_map.2 ⟨d, hd, rfl⟩))
  have gin : ver < 2 ∨ r.tag = [] ∨ r.tag ∈ tl := by
    by_cases hz : r.tag = []
    · exact .inr (.inl hz)
    · exact hin.imp id fun h => .inr (h _ (tnew_mem (by rw [if_neg hz]; simp)))
  have hstart := new_rest (payB ver tl r l)
  obtain ⟨k, t, u, o, m, g⟩ := r
  rcases hm with ⟨v1, v2, ht0, ⟨hk, htime, htag, hdeps⟩ | ⟨hk, hgone, hl0⟩⟩
  · simp only at hk n1 n2 tin gin htime htag
    subst hk
    unfold payB at hstart ⊢
    rw [if_neg (by simp)] at hstart ⊢
    simp only at hstart ⊢
    obtain ⟨b1, b2⟩ := byte_rest hstart
    have hokd : ∀ d ∈ l, DepOk ver tl d := fun d hd => ⟨n4 d hd, din d hd, (hdeps.2.1 d hd).2, hnu.2.2.2 d hd⟩
    obtain ⟨p, hp⟩ : ∃ p, p = 1 :: (nmB ver tl t ++ (vb u.toNat ++ (fDeps ver tl l ++ (vb o.toNat ++ ((if ver < 2 then [] else vb m.toNat) ++ (if ver < 3 then [] else fTag tl ⟨1, t, u, o, m, g⟩)))))) := ⟨_, rfl⟩
    rw [← hp] at b1 b2 ⊢
    clear hp hstart
    have hk : (rdStart p).r.kind = 1 := by
      show ((Cu.new p 0).byte.1.toNat : Int) = 1
      rw [b1]; rfl
    refine ⟨hk, ?_⟩
    have s0 : rdStart p = ⟨⟨1, [], 0, 0, 0, []⟩, [], (Cu.new p 0).byte.2⟩ := by
      unfold rdStart
      rw [b1]; rfl
    rw [s0]
    obtain ⟨c0, hc0⟩ : ∃ c0, c0 = (Cu.new p 0).byte.2 := ⟨_, rfl⟩
    rw [← hc0] at b2 ⊢
    clear hc0 s0 hk b1
    obtain ⟨a1, a2⟩ := name_rest n1 ht tin b2
    obtain ⟨a3, a4⟩ := num_rest (num_nat hnu.1).2 a2
    have e1 : st_target ver tl ⟨⟨1, [], 0, 0, 0, []⟩, [], c0⟩ = ⟨⟨1, t, 0, 0, 0, []⟩, [], (rdName ver tl c0).2⟩ := by unfold st_target; simp only [a1]
    have e2 : st_rule ver tl ⟨⟨1, t, 0, 0, 0, []⟩, [], (rdName ver tl c0).2⟩ = ⟨⟨1, t, u, 0, 0, []⟩, [], (rdName ver tl c0).2.num.2⟩ := by unfold st_rule; simp only [a3]; rw [← (num_nat hnu.1).1]
    obtain ⟨c3, e3, a5⟩ := stdeps_rest ht ⟨⟨1, t, u, 0, 0, []⟩, [], (rdName ver tl c0).2.num.2⟩ l _ n3 hokd a4
    obtain ⟨a6, a7⟩ := num_rest (num_nat hnu.2.1).2 a5
    have e4 : st_out ver tl ⟨⟨1, t, u, 0, 0, []⟩, [] ++ l, c3⟩ = ⟨⟨1, t, u, o, 0, []⟩, l, c3.num.2⟩ := by unfold st_out; simp only [a6]; rw [← (num_nat hnu.2.1).1]; rfl
    unfold rdAll
    rw [if_neg (by decide), if_pos (by decide), e1, e2, e3, e4]
    simp only
    by_cases hv2 : ver < 2
    · rw [if_pos hv2, if_pos (by omega)]
      have hm0 : m = 0 := by rcases htime with h | h; exact h; omega
      have hg0 : g = [] := by rcases htag with h | h; exact h; omega
      rw [hm0, hg0]
      exact ⟨rfl, rfl⟩
    · rw [if_neg hv2]
      rw [if_neg hv2] at a7
      obtain ⟨a8, a9⟩ := num_rest (num_nat hnu.2.2.1).2 a7
      have e5 : st_when ver tl ⟨⟨1, t, u, o, 0, []⟩, l, c3.num.2⟩ = ⟨⟨1, t, u, o, m, []⟩, l, c3.num.2.num.2⟩ := by unfold st_when; simp only [a8]; rw [← (num_nat hnu.2.2.1).1]
      rw [e5]
      by_cases hv3 : ver < 3
      · rw [if_pos hv3]
        have hg0 : g = [] := by rcases htag with h | h; exact h; omega
        rw [hg0]
        exact ⟨rfl, rfl⟩
      · rw [if_neg hv3]
        rw [if_neg hv3] at a9
        have a9' : Rest c3.num.2.num.2 (fTag tl ⟨1, t, u, o, m, g⟩ ++ []) := by simpa using a9
        obtain ⟨a10, _⟩ := tag_rest (ver := ver) (s := ⟨⟨1, t, u, o, m, []⟩, l, c3.num.2.num.2⟩) ht rfl (gin.resolve_left hv2) a9'
        refine ⟨?_, rfl⟩
        have e6 : ∀ x : Rc, x = ⟨1, t, u, o, m, x.tag⟩ → x.tag = g → x = ⟨1, t, u, o, m, g⟩ := fun x h1 h2 => by rw [h1, h2]
        exact e6 _ rfl a10
  · simp only at hk hgone
    obtain rfl : k = 2 := hk
    subst hl0
    have hg := hgone
    simp only [Rc.mk.injEq, true_and] at hg
    obtain ⟨rfl, rfl, rfl, rfl⟩ := hg
    unfold payB at hstart ⊢
    rw [if_pos rfl] at hstart ⊢
    simp only at hstart ⊢
    obtain ⟨b1, b2⟩ := byte_rest hstart
    have b2' : Rest (Cu.new (2 :: nmB ver tl t) 0).byte.2 (nmB ver tl t ++ []) := by simpa using b2
    obtain ⟨a1, _⟩ := name_rest n1 ht tin b2'
    refine ⟨?_, ?_, ?_⟩
    · show ((Cu.new (2 :: nmB ver tl t) 0).byte.1.toNat : Int) = 2
      rw [b1]; rfl
    · unfold rdAll
      rw [if_pos (by decide)]
      unfold st_target rdStart
      simp only [a1, b1]
      rfl
    · unfold rdAll
      rw [if_pos (by decide)]
      rfl

end Go.Proofs.Ytfidfhajnobonaa

/- schema.taken. -/
namespace Go.Proofs.Ytfidfhajnobonaa
open Go.RowKit

/-- Payloads as they lie in memory, with the room behind them. -/
def PlsC (w : World) (B : Nat) (A : Option Addr) (n c : Nat) (ps : List (List UInt8)) : Prop :=
  n ≤ c ∧ ps.length = n ∧ ∃ vs, Reads w B 1 A n vs ∧ ∀ (i : Nat) (p : List UInt8), ps[i]? = some p → ∃ (A' : Option Addr) (c' : Nat), vs[i]? = some (.slice A' p.length c') ∧ p.length ≤ c' ∧ Reads w B 1 A' p.length (p.map bv)
theorem PlsC.below {w w' : World} {B : Nat} {A : Option Addr} {n c : Nat} {ps : List (List UInt8)} (h : PlsC w B A n c ps) (hb : Below B w w') : PlsC w' B A n c ps := by
  obtain ⟨h0, h2, vs, h1, h3⟩ := h
  refine ⟨h0, h2, vs, h1.below hb, fun i p hp => ?_⟩
  obtain ⟨A', c', h4, h5, h6⟩ := h3 i p hp
  exact ⟨A', c', h4, h5, h6.below hb⟩
theorem PlsC.more {w : World} {B B' : Nat} {A : Option Addr} {n c : Nat} {ps : List (List UInt8)} (h : PlsC w B A n c ps) (hB : B ≤ B') : PlsC w B' A n c ps := by
  obtain ⟨h0, h2, vs, h1, h3⟩ := h
  refine ⟨h0, h2, vs, h1.more hB, fun i p hp => ?_⟩
  obtain ⟨A', c', h4, h5, h6⟩ := h3 i p hp
  exact ⟨A', c', h4, h5, h6.more hB⟩

/-- Payloads as they lie in memory; none of it is in S. -/
def PlsT (w : World) (B : Nat) (S : Nat → Prop) (A : Option Addr) (n c : Nat) (ps : List (List UInt8)) : Prop :=
  n ≤ c ∧ ps.length = n ∧ ∃ vs, Reads w B 1 A n vs ∧ (∀ ad, A = some ad → 0 < n → ¬ S ad.block) ∧ ∀ (i : Nat) (p : List UInt8), ps[i]? = some p → ∃ (A' : Option Addr) (c' : Nat), vs[i]? = some (.slice A' p.length c') ∧ p.length ≤ c' ∧ Reads w B 1 A' p.length (p.map bv) ∧ (∀ ad, A' = some ad → 0 < p.length → ¬ S ad.block)
theorem PlsT.less {w : World} {B : Nat} {S : Nat → Prop} {A : Option Addr} {n c : Nat} {ps : List (List UInt8)} (h : PlsT w B S A n c ps) : PlsC w B A n c ps := by
  obtain ⟨h0, h2, vs, h1, _, h3⟩ := h
  refine ⟨h0, h2, vs, h1, fun i p hp => ?_⟩
  obtain ⟨A', c', h4, h5, h6, _⟩ := h3 i p hp
  exact ⟨A', c', h4, h5, h6⟩
theorem PlsT.turn {w w' : World} {B : Nat} {S : Nat → Prop} {A : Option Addr} {n c : Nat} {ps : List (List UInt8)} (h : PlsT w B S A n c ps) (ht : Turn S w w') (hB : B ≤ w.heap.size) : PlsT w' B S A n c ps := by
  obtain ⟨h0, h2, vs, h1, ha, h3⟩ := h
  refine ⟨h0, h2, vs, reads_turn h1 ha ht hB, ha, fun i p hp => ?_⟩
  obtain ⟨A', c', h4, h5, h6, h7⟩ := h3 i p hp
  exact ⟨A', c', h4, h5, reads_turn h6 h7 ht hB, h7⟩
theorem PlsT.wide {w : World} {B : Nat} {S S2 : Nat → Prop} {A : Option Addr} {n c : Nat} {ps : List (List UInt8)} (h : PlsT w B S A n c ps) (hs : ∀ k, k < B → S2 k → S k) : PlsT w B S2 A n c ps := by
  obtain ⟨h0, h2, vs, h1, ha, h3⟩ := h
  have lt : ∀ {A : Option Addr} {n : Nat} {xs : List Value}, Reads w B 1 A n xs → ∀ ad, A = some ad → 0 < n → ad.block < B := fun h ad e hn => by
    obtain ⟨ad', e', h4, _⟩ := h.2 hn
    obtain rfl : ad = ad' := Option.some.inj (e.symm.trans e')
    exact h4
  refine ⟨h0, h2, vs, h1, fun ad e hn h => ha ad e hn (hs _ (lt h1 ad e hn) h), fun i p hp => ?_⟩
  obtain ⟨A', c', h4, h5, h6, h7⟩ := h3 i p hp
  exact ⟨A', c', h4, h5, h6, fun ad e hn h => h7 ad e hn (hs _ (lt h6 ad e hn) h)⟩

/-- What stands at a round of the texts: their table; nothing below the payloads' bound turns. -/
def TxRel (S : Nat → Prop) (bt N : Nat) (tl ts : List (List UInt8)) (w1 : World) (idx : Value) (wr : World) : Prop :=
  ∃ (i : Nat) (S' : Nat → Prop), i ≤ ts.length ∧ idx = .int .i64 (i : Int) ∧ Tab wr S' bt (N + i) (((ts.take i).map List.tail).foldl tput tl) ∧ (∀ k, S' k → k < wr.heap.size ∧ (S k ∨ w1.heap.size ≤ k)) ∧ Turn S w1 wr

/-- A call reads a field. -/
def ReadsF (fn : Nat) (ver : Int) (bt N : Nat) (tl : List (List UInt8)) (F : Rst → Rst) : Prop :=
  ∀ (S T : Nat → Prop) (brd bc brr B : Nat) (s : Rst) (w : World), s.l.length ≤ 1000 → RE w S T brd bc brr B → RT w S T brd bt bc brr B N ver tl s → Calls Try.prog fn #[.pointer (some ⟨brd, 0, none⟩), .pointer (some ⟨brr, 0, none⟩)] w fun e w' => e = .returned (.tuple #[]) ∧ RT w' S T brd bt bc brr B N ver tl (F s) ∧ Turn S w w'
def rdFold (fl : List (Nat × (Rst → Rst))) (s : Rst) : Rst := fl.foldl (fun s f => f.2 s) s
theorem rdFold_take {fl : List (Nat × (Rst → Rst))} {i : Nat} {f : Nat × (Rst → Rst)} (h : fl[i]? = some f) (s : Rst) : rdFold (fl.take (i + 1)) s = f.2 (rdFold (fl.take i) s) := by
  unfold rdFold
  rw [List.take_add_one, h, List.foldl_append]; rfl
theorem rdFold_len {fl : List (Nat × (Rst → Rst))} (h : ∀ f ∈ fl, ∀ s, (f.2 s).l.length ≤ s.l.length + 16) (s : Rst) : (rdFold fl s).l.length ≤ s.l.length + 16 * fl.length := by
  unfold rdFold
  induction fl generalizing s with
  | nil => simp
  | cons a fl ih =>
    have h1 := ih (fun f hf => h f (by simp [hf])) (a.2 s)
    have h2 := h a (by simp) s
    simp only [List.foldl_cons, List.length_cons]
    omega

/-- What stands at a round of the fields. -/
def TkRel (S T : Nat → Prop) (brd bt bc brr N : Nat) (ver : Int) (tl : List (List UInt8)) (fl : List (Nat × (Rst → Rst))) (s0 : Rst) (w6 : World) (idx : Value) (wr : World) : Prop :=
  ∃ i : Nat, i ≤ fl.length ∧ idx = .int .i64 (i : Int) ∧ RT wr S T brd bt bc brr bc N ver tl (rdFold (fl.take i) s0) ∧ Turn S w6 wr

set_option maxRecDepth 100000 in
set_option maxHeartbeats 4000000 in
/-- The texts: each has its number. -/
theorem taken_core (S : Nat → Prop) (bt B N n c : Nat) (ver : Int) (tl ts : List (List UInt8)) (p : List UInt8) (A : Option Addr) (hts : ∀ t ∈ ts, t ≠ [] ∧ t.length ≤ 1000000) (hp : p.length ≤ 1000000) (hn : ts.length + 1 = n) (hn2 : n ≤ 100000) (htl : tl.length ≤ 900000000) (hN : N ≤ 900000000) (w : World) (hB : B ≤ w.heap.size) (hT : Tab w S bt N tl) (hr : PlsT w B S A n c (ts ++ [p]))
    (tl1 : List (List UInt8)) (htl1 : tl1 = (ts.map List.tail).foldl tput tl) (fl : List (Nat × (Rst → Rst))) (hfl : fl.length ≤ 6) (hnm : ∀ f ∈ fl, f.1 = 59 ∨ f.1 = 60 ∨ f.1 = 61 ∨ f.1 = 62 ∨ f.1 = 63 ∨ f.1 = 64) (hgrow : ∀ f ∈ fl, ∀ s, (f.2 s).l.length ≤ s.l.length + 16)
    (HOF : Hid (∀ (P : Value) (W : World), Calls Try.prog 53 #[.agg #[.func (.func 59) #[P] #[], .func (.func 60) #[P] #[], .func (.func 61) #[P] #[], .func (.func 62) #[P] #[], .func (.func 63) #[P] #[], .func (.func 64) #[P] #[]], .int .i64 ver, .int .i64 ((Cu.new p 0).byte.1.toNat : Int)] W fun e w' => ∃ v, e = .returned v ∧ w'.ownsRow (W.heap.size + 1) 88 1 v fl.length (fl.map fun f => .func (.func f.1) #[P] #[]) ∧ Below W.heap.size W w'))
    (HRD : Hid (∀ f ∈ fl, ReadsF f.1 ver bt (N + ts.length) tl1 f.2)) :
    Calls Try.prog 34 #[.int .i64 ver, .pointer (some ⟨bt, 0, none⟩), .slice A n c] w fun e w' => ∃ (A' : Option Addr) (n' c' : Nat) (S' : Nat → Prop), e = .returned (rcv (rdFold fl (rdStart p)).r A' n' c') ∧ Deps w' w.heap.size A' n' c' (rdFold fl (rdStart p)).l ∧ (∀ ad, A' = some ad → ¬ S' ad.block) ∧ Tab w' S' bt (N + ts.length) tl1 ∧ (∀ k, S' k → k < w'.heap.size ∧ (S k ∨ w.heap.size ≤ k)) ∧ Turn S w w' := by
  have h0 := one_new w (.cells #[.int .i64 0, .string { data := #[] }, .int .u64 0, .slice none 0 0, .int .u64 0, .int .u64 0, .string { data := #[] }] 26)
  have hz : (w.alloc (.cells #[.int .i64 0, .string { data := #[] }, .int .u64 0, .slice none 0 0, .int .u64 0, .int .u64 0, .string { data := #[] }] 26)).heap.size = w.heap.size + 1 := by simp
  have hb0 := (Below.refl w.heap.size w).alloc (Nat.le_refl _) (.cells #[.int .i64 0, .string { data := #[] }, .int .u64 0, .slice none 0 0, .int .u64 0, .int .u64 0, .string { data := #[] }] 26)
  obtain ⟨hnc, _, vs, hrv, hap0, hps⟩ := hr
  have HRV := Lib.hid hrv
  have HPS := Lib.hid hps
  obtain ⟨m, hm⟩ : ∃ m, m = ts.length := ⟨_, rfl⟩
  have hnm1 : (n : Int) - 1 = (m : Int) := by omega
  have hmn : m + 1 = n := by omega
  have HM := Lib.hid hm
  have HTAB := Lib.hid hT
  have HZ := Lib.hid hz
  have HB0 := Lib.hid hb0
  have HA0 := Lib.hid h0
  have HAP0 := Lib.hid hap0
  have HBW := Lib.hid hB
  have HTL1 := Lib.hid htl1
  have HTS := Lib.hid hts
  have HPL := Lib.hid hp
  have HTLL := Lib.hid htl
  have HNN := Lib.hid hN
  have HNM := Lib.hid hnm
  have HGR := Lib.hid hgrow
  obtain ⟨mf, hmf⟩ : ∃ mf, mf = fl.length := ⟨_, rfl⟩
  have HMF := Lib.hid hmf
  rw [← hmf] at HOF hfl
  obtain ⟨ad, rfl, hab, hcx⟩ := HRV.out.2 (by omega)
  clear h0 hz hb0 hrv hap0 hps hT hn hm hB htl1 hts hp htl hN hnm hgrow hmf hcx
  go_enter Try.func34, Try.ntmps34
  go_wp2_with fail
  go_loopw [22] (fun idx wr => TxRel (fun k => S k ∧ k < w.heap.size) bt N tl ts (w.alloc (.cells #[.int .i64 0, .string { data := #[] }, .int .u64 0, .slice none 0 0, .int .u64 0, .int .u64 0, .string { data := #[] }] 26)) idx wr) (fun idx wr => m - (intOf idx).toNat)
  case atStart =>
    exact ⟨0, fun k => S k ∧ k < w.heap.size, by omega, rfl, (HTAB.out.wide (fun k a b => ⟨a, b⟩)).keep (fun k hk _ => HB0.out.block k hk.2), fun k hk => ⟨by have := HZ.out; omega, .inl hk⟩, Turn.refl _ _⟩
  case round =>
    obtain ⟨i, S', hi, rfl, ht, hs', htu⟩ := hrel
    rw [← HM.out] at hi
    have hbw : Turn S w wr := (Turn.of_below HB0.out).trans htu (fun k _ h => h.1)
    by_cases hlt : i < m
    · obtain ⟨t, hti⟩ : ∃ t, ts[i]? = some t := ⟨_, List.getElem?_eq_getElem (by rw [← HM.out]; exact hlt)⟩
      have htp : (ts ++ [p])[i]? = some t := by rw [List.getElem?_append_left (by rw [← HM.out]; exact hlt)]; exact hti
      obtain ⟨A4, c4, hv4, hc4, hr4, hap4⟩ := HPS.out i t htp
      obtain ⟨hte, htl⟩ := HTS.out t (List.mem_of_getElem? hti)
      obtain ⟨ad', hae, _, hcx⟩ := (reads_turn HRV.out HAP0.out hbw HBW.out).2 (by omega)
      obtain rfl : ad = ad' := Option.some.inj hae
      have k0 := hcx i _ hv4
      have hr5 := reads_turn hr4 hap4 hbw HBW.out
      obtain ⟨x, t', rfl⟩ : ∃ x t', t = x :: t' := by
        cases t with
        | nil => exact absurd rfl hte
        | cons x t' => exact ⟨x, t', rfl⟩
      obtain ⟨kl, hkl⟩ : ∃ kl, kl = t'.length := ⟨_, rfl⟩
      obtain ⟨cc, hcc⟩ : ∃ cc, c4 = cc + 1 := ⟨c4 - 1, by simp at hc4; omega⟩
      subst hcc
      obtain ⟨ad4, rfl, _, _⟩ := hr5.2 (by simp)
      have htk : ((ts.take (i + 1)).map List.tail).foldl tput tl = tput (((ts.take i).map List.tail).foldl tput tl) t' := by rw [List.take_add_one, hti, List.map_append, List.foldl_append]; rfl
      have hlen := tfold_len ((ts.take i).map List.tail) tl
      rw [List.length_map, List.length_take] at hlen
      have hid := ID_any S' bt (N + i) _ t' (by unfold maxLen; simp at htl; omega) (by have := HTLL.out; omega) (by have := HNN.out; omega) wr ht
      unfold tsv at hid
      generalize (!decide (t' ∈ ((ts.take i).map List.tail).foldl tput tl)) = q at hid
      have HID := Lib.hid hid
      have HTK := Lib.hid htk
      have BEH : Hid (∀ w6, Tab w6 (fun k => S' k ∨ wr.heap.size ≤ k) bt (N + i + 1) (tput (((ts.take i).map List.tail).foldl tput tl) t') → Turn S' wr w6 → TxRel (fun k => S k ∧ k < w.heap.size) bt N tl ts (w.alloc (.cells #[.int .i64 0, .string { data := #[] }, .int .u64 0, .slice none 0 0, .int .u64 0, .int .u64 0, .string { data := #[] }] 26)) (.int .i64 ((i + 1 : Nat) : Int)) w6) := fun w6 h1 h2 => by
        refine ⟨i + 1, fun k => (S' k ∨ wr.heap.size ≤ k) ∧ k < w6.heap.size, by rw [← HM.out]; omega, rfl, by rw [HTK.out]; exact h1.wide (fun k a b => ⟨a, b⟩), fun k hk => ⟨hk.2, ?_⟩, htu.trans h2 (fun k h3 h4 => ?_)⟩
        · rcases hk.1 with h3 | h3
          · exact (hs' k h3).2
          · exact .inr (by have := htu.2.2.2.1; omega)
        · rcases (hs' k h4).2 with h5 | h5
          · exact h5
          · omega
      have hi0 : (0 : Int) ≤ (i : Int) := by omega
      have hi1 : (i : Int) < (m : Int) := by omega
      have hr6 := (show Reads wr B 1 (some ad4) (t'.length + 1) ((x :: t').map bv) from hr5).cut (cap := cc + 1) (k := 1) (by omega) (by simp at hc4; omega)
      rw [Nat.mul_one, List.map_cons, List.drop_one, List.tail_cons, Nat.add_sub_cancel] at hr6
      simp only [List.length_cons] at k0 hc4
      rw [← hkl] at k0 hc4 hr6
      by_cases hcc0 : cc = 0
      · subst hcc0
        have hk0 : kl = 0 := by omega
        subst hk0
        rw [if_pos rfl] at hr6
        have hcv : (convert 44 9 (.slice (some ad4) 0 0)).run Try.prog wr = .ok (.string (tx t')) wr := conv_reads Try.underlying44 Try.underlying5 Try.underlying9 hr6
        clear hr6 hr5 hap4 hr4 hcx hti htp htk hlen hid ht hs' htu hbw hte htl hv4 hkl
        go_wp2_with (go_at_call 21; refine HID.out.mono ?_; rintro e w6 ⟨rfl, ht6, htu6⟩; have HB := Lib.hid (BEH.out w6 ht6 htu6); clear ht6 htu6)
        exact ⟨by first | exact HB.out | (have := HB.out; push_cast at this; simpa using this), by simp [intOf]; omega⟩
      · rw [if_neg (by omega)] at hr6
        replace hr6 : Reads wr B 1 (some ⟨ad4.block, ad4.off + 1, none⟩) kl (t'.map bv) := hr6
        have hcv : (convert 44 9 (.slice (some ⟨ad4.block, ad4.off + 1, none⟩) kl cc)).run Try.prog wr = .ok (.string (tx t')) wr := conv_reads Try.underlying44 Try.underlying5 Try.underlying9 hr6
        clear hr6 hr5 hap4 hr4 hcx hti htp htk hlen hid ht hs' htu hbw hte htl hv4 hkl
        go_wp2_with (go_at_call 21; refine HID.out.mono ?_; rintro e w6 ⟨rfl, ht6, htu6⟩; have HB := Lib.hid (BEH.out w6 ht6 htu6); clear ht6 htu6)
        exact ⟨by first | exact HB.out | (have := HB.out; push_cast at this; simpa using this), by simp [intOf]; omega⟩
    · obtain rfl : i = m := by omega
      obtain ⟨w2, hw2⟩ : ∃ x, x = wr := ⟨wr, rfl⟩
      subst hw2
      have hpp : (ts ++ [p])[i]? = some p := by rw [HM.out, List.getElem?_append_right (Nat.le_refl _), Nat.sub_self]; rfl
      obtain ⟨A4, c4, hv4, hc4, hr4, hap4⟩ := HPS.out i p hpp
      obtain ⟨ad', hae, _, hcx⟩ := (reads_turn HRV.out HAP0.out hbw HBW.out).2 (by omega)
      obtain rfl : ad = ad' := Option.some.inj hae
      have k0 := hcx i _ hv4
      have hr5 := (reads_turn hr4 hap4 hbw HBW.out).more (show B ≤ w2.heap.size from Nat.le_trans HBW.out (by have := htu.2.2.2.1; have := HZ.out; omega))
      have HNEW := Lib.hid (new_any A4 p.length c4 0 p HPL.out w2 hr5)
      obtain ⟨lp, hlp⟩ : ∃ lp, lp = p.length := ⟨_, rfl⟩
      rw [← hlp] at HNEW k0 hc4
      obtain ⟨kb, hkb⟩ : ∃ kb, kb = (Cu.new p 0).byte.1.toNat := ⟨_, rfl⟩
      have hkb2 : kb < 256 := by rw [hkb]; exact UInt8.toNat_lt _
      have hT2 : ((ts.take i).map List.tail).foldl tput tl = tl1 := by rw [HM.out, List.take_length]; exact HTL1.out.symm
      rw [hT2, HM.out] at ht
      rw [← hkb] at HOF
      have HBYTE : Hid (∀ (b : Nat) (W : World), CurIn W b b (Cu.new p 0) → Calls Try.prog 58 #[.pointer (some ⟨b, 0, none⟩)] W fun e w' => e = .returned (.int .u8 (kb : Int)) ∧ CurIn w' b b (Cu.new p 0).byte.2 ∧ Only b W w') := fun b W hW => by
        have h1 := byte_any b b _ W hW
        rw [← hkb] at h1
        exact h1
      have hkb3 : (kb : Int) < 256 := by omega
      have hkb4 : (0 : Int) ≤ (kb : Int) := by omega
      have hi0 : (0 : Int) ≤ (i : Int) := by omega
      have HT2 := Lib.hid ht
      have HS2 := Lib.hid hs'
      have HTU2 := Lib.hid htu
      have HBB2 := Lib.hid hbw
      have HKB := Lib.hid hkb
      clear ht hs' htu hbw hap4 hr4 hr5 hcx hpp hv4 hlp hT2 hkb
      go_wp2_with (first
        | (go_at_call 57; refine HNEW.out.mono ?_; rintro e w3 ⟨bc, rfl, hbc, hc3, hb3⟩; have q2 := at_cell (i := 2) (one_new w3 (.cells #[.int .i64 ver, .pointer (some ⟨bt, 0, none⟩), .pointer (some ⟨bc, 0, none⟩)] 99)) rfl; have HC3 := Lib.hid hc3; have HB3 := Lib.hid hb3; have HBC := Lib.hid hbc; clear hc3 hb3 hbc)
        | (go_at_call 58
           refine (HBYTE.out bc _ (HC3.out.below (D := w3.heap.size) ((Below.refl w3.heap.size w3).alloc (Nat.le_refl _) _) HC3.out.lt)).mono ?_
           rintro e w5 ⟨rfl, hc5, ho5⟩
           have HC5 := Lib.hid hc5
           have HO5 := Lib.hid ho5
           clear hc5 ho5
           have hz5 : (w5.alloc (.cells #[.int .i64 (kb : Int), .string { data := #[] }, .int .u64 0, .slice none 0 0, .int .u64 0, .int .u64 0, .string { data := #[] }] 26)).heap.size = w5.heap.size + 1 := by simp
           have hn5 : ((w5.alloc (.cells #[.int .i64 (kb : Int), .string { data := #[] }, .int .u64 0, .slice none 0 0, .int .u64 0, .int .u64 0, .string { data := #[] }] 26)).alloc (.cells #[.nilFunc, .nilFunc, .nilFunc, .nilFunc, .nilFunc, .nilFunc] 90)).heap[w5.heap.size + 1]? = some (.cells #[.nilFunc, .nilFunc, .nilFunc, .nilFunc, .nilFunc, .nilFunc] 90 (0, 0)) := by have h := one_new (w5.alloc (.cells #[.int .i64 (kb : Int), .string { data := #[] }, .int .u64 0, .slice none 0 0, .int .u64 0, .int .u64 0, .string { data := #[] }] 26)) (.cells #[.nilFunc, .nilFunc, .nilFunc, .nilFunc, .nilFunc, .nilFunc] 90); rw [hz5] at h; exact h
           have hf5 : ((w5.alloc (.cells #[.int .i64 (kb : Int), .string { data := #[] }, .int .u64 0, .slice none 0 0, .int .u64 0, .int .u64 0, .string { data := #[] }] 26)).alloc (.cells #[.func (.func 59) #[.pointer (some ⟨w3.heap.size, 0, none⟩)] #[], .func (.func 60) #[.pointer (some ⟨w3.heap.size, 0, none⟩)] #[], .func (.func 61) #[.pointer (some ⟨w3.heap.size, 0, none⟩)] #[], .func (.func 62) #[.pointer (some ⟨w3.heap.size, 0, none⟩)] #[], .func (.func 63) #[.pointer (some ⟨w3.heap.size, 0, none⟩)] #[], .func (.func 64) #[.pointer (some ⟨w3.heap.size, 0, none⟩)] #[]] 90)).heap[w5.heap.size + 1]? = some (.cells #[.func (.func 59) #[.pointer (some ⟨w3.heap.size, 0, none⟩)] #[], .func (.func 60) #[.pointer (some ⟨w3.heap.size, 0, none⟩)] #[], .func (.func 61) #[.pointer (some ⟨w3.heap.size, 0, none⟩)] #[], .func (.func 62) #[.pointer (some ⟨w3.heap.size, 0, none⟩)] #[], .func (.func 63) #[.pointer (some ⟨w3.heap.size, 0, none⟩)] #[], .func (.func 64) #[.pointer (some ⟨w3.heap.size, 0, none⟩)] #[]] 90 (0, 0)) := by have h := one_new (w5.alloc (.cells #[.int .i64 (kb : Int), .string { data := #[] }, .int .u64 0, .slice none 0 0, .int .u64 0, .int .u64 0, .string { data := #[] }] 26)) (.cells #[.func (.func 59) #[.pointer (some ⟨w3.heap.size, 0, none⟩)] #[], .func (.func 60) #[.pointer (some ⟨w3.heap.size, 0, none⟩)] #[], .func (.func 61) #[.pointer (some ⟨w3.heap.size, 0, none⟩)] #[], .func (.func 62) #[.pointer (some ⟨w3.heap.size, 0, none⟩)] #[], .func (.func 63) #[.pointer (some ⟨w3.heap.size, 0, none⟩)] #[], .func (.func 64) #[.pointer (some ⟨w3.heap.size, 0, none⟩)] #[]] 90); rw [hz5] at h; exact h
           have hr5 : ((w5.alloc (.cells #[.int .i64 (kb : Int), .string { data := #[] }, .int .u64 0, .slice none 0 0, .int .u64 0, .int .u64 0, .string { data := #[] }] 26)).alloc (.cells #[.func (.func 59) #[.pointer (some ⟨w3.heap.size, 0, none⟩)] #[], .func (.func 60) #[.pointer (some ⟨w3.heap.size, 0, none⟩)] #[], .func (.func 61) #[.pointer (some ⟨w3.heap.size, 0, none⟩)] #[], .func (.func 62) #[.pointer (some ⟨w3.heap.size, 0, none⟩)] #[], .func (.func 63) #[.pointer (some ⟨w3.heap.size, 0, none⟩)] #[], .func (.func 64) #[.pointer (some ⟨w3.heap.size, 0, none⟩)] #[]] 90)).heap[w5.heap.size]? = some (.cells #[.int .i64 (kb : Int), .string { data := #[] }, .int .u64 0, .slice none 0 0, .int .u64 0, .int .u64 0, .string { data := #[] }] 26 (0, 0)) := (((Below.refl (w5.heap.size + 1) (w5.alloc (.cells #[.int .i64 (kb : Int), .string { data := #[] }, .int .u64 0, .slice none 0 0, .int .u64 0, .int .u64 0, .string { data := #[] }] 26))).alloc (by simp) (.cells #[.func (.func 59) #[.pointer (some ⟨w3.heap.size, 0, none⟩)] #[], .func (.func 60) #[.pointer (some ⟨w3.heap.size, 0, none⟩)] #[], .func (.func 61) #[.pointer (some ⟨w3.heap.size, 0, none⟩)] #[], .func (.func 62) #[.pointer (some ⟨w3.heap.size, 0, none⟩)] #[], .func (.func 63) #[.pointer (some ⟨w3.heap.size, 0, none⟩)] #[], .func (.func 64) #[.pointer (some ⟨w3.heap.size, 0, none⟩)] #[]] 90)).block w5.heap.size (by omega)).trans (one_new w5 (.cells #[.int .i64 (kb : Int), .string { data := #[] }, .int .u64 0, .slice none 0 0, .int .u64 0, .int .u64 0, .string { data := #[] }] 26))
           have g0 := at_cell (i := 0) hr5 rfl
           have HR5 := Lib.hid hr5
           have HF5 := Lib.hid hf5
           have HZ5 := Lib.hid hz5
           have HZ6 : Hid (((w5.alloc (.cells #[.int .i64 (kb : Int), .string { data := #[] }, .int .u64 0, .slice none 0 0, .int .u64 0, .int .u64 0, .string { data := #[] }] 26)).alloc (.cells #[.func (.func 59) #[.pointer (some ⟨w3.heap.size, 0, none⟩)] #[], .func (.func 60) #[.pointer (some ⟨w3.heap.size, 0, none⟩)] #[], .func (.func 61) #[.pointer (some ⟨w3.heap.size, 0, none⟩)] #[], .func (.func 62) #[.pointer (some ⟨w3.heap.size, 0, none⟩)] #[], .func (.func 63) #[.pointer (some ⟨w3.heap.size, 0, none⟩)] #[], .func (.func 64) #[.pointer (some ⟨w3.heap.size, 0, none⟩)] #[]] 90)).heap.size = w5.heap.size + 1 + 1) := by show _ = _; simp
           have f0 := at_cell (i := 0) hn5 rfl
           have y0 := at_frozen (i := 0) hn5
           have p0 := at_cell (i := 0) hf5 rfl
           have f1 := at_cell (i := 1) hn5 rfl
           have y1 := at_frozen (i := 1) hn5
           have p1 := at_cell (i := 1) hf5 rfl
           have f2 := at_cell (i := 2) hn5 rfl
           have y2 := at_frozen (i := 2) hn5
           have p2 := at_cell (i := 2) hf5 rfl
           have f3 := at_cell (i := 3) hn5 rfl
           have y3 := at_frozen (i := 3) hn5
           have p3 := at_cell (i := 3) hf5 rfl
           have f4 := at_cell (i := 4) hn5 rfl
           have y4 := at_frozen (i := 4) hn5
           have p4 := at_cell (i := 4) hf5 rfl
           have f5 := at_cell (i := 5) hn5 rfl
           have y5 := at_frozen (i := 5) hn5
           have p5 := at_cell (i := 5) hf5 rfl
           clear hz5 hn5 hf5 hr5)
        | (go_at_call 53; refine (HOF.out _ _).mono ?_; rintro e w7 ⟨v7, rfl, ho7, hb7⟩; obtain ⟨A7, c7, rfl, hc7⟩ := own_slice ho7; have HO7 := Lib.hid ho7; have HB7 := Lib.hid hb7; have HRD7 := Lib.hid (Reads.of_own ho7); clear ho7 hb7))
      have e1 : Hid (w.heap.size + 1 ≤ w2.heap.size) := by have h1 := HTU2.out.2.2.2.1; rw [HZ.out] at h1; exact h1
      have e2 : Hid (w3.heap.size + 1 ≤ w5.heap.size) := by have h1 := HO5.out.size; show _ ≤ _; simpa using h1
      have e3 : Hid (w5.heap.size + 1 + 1 ≤ w7.heap.size) := by have h1 := HB7.out.size; rw [HZ6.out] at h1; exact h1
      have e4 : Hid (w2.heap.size ≤ bc ∧ bc < w3.heap.size ∧ w2.heap.size ≤ w3.heap.size) := ⟨HBC.out, HC3.out.lt, HB3.out.size⟩
      have hb57 : Below w5.heap.size w5 w7 := (((Below.refl w5.heap.size w5).alloc (Nat.le_refl _) (.cells #[.int .i64 (kb : Int), .string { data := #[] }, .int .u64 0, .slice none 0 0, .int .u64 0, .int .u64 0, .string { data := #[] }] 26)).alloc (by simp) (.cells #[.func (.func 59) #[.pointer (some ⟨w3.heap.size, 0, none⟩)] #[], .func (.func 60) #[.pointer (some ⟨w3.heap.size, 0, none⟩)] #[], .func (.func 61) #[.pointer (some ⟨w3.heap.size, 0, none⟩)] #[], .func (.func 62) #[.pointer (some ⟨w3.heap.size, 0, none⟩)] #[], .func (.func 63) #[.pointer (some ⟨w3.heap.size, 0, none⟩)] #[], .func (.func 64) #[.pointer (some ⟨w3.heap.size, 0, none⟩)] #[]] 90)).trans (HB7.out.mono (by rw [HZ6.out]; omega))
      have hb24 : Below w2.heap.size w2 (w3.alloc (.cells #[.int .i64 ver, .pointer (some ⟨bt, 0, none⟩), .pointer (some ⟨bc, 0, none⟩)] 99)) := HB3.out.alloc (by have := e4.out; omega) _
      have HB27 := Lib.hid (hb24.trans ((HO5.out.below (B := w2.heap.size) e4.out.1 (by have := e4.out; simp; omega)).trans (hb57.mono (by have := e4.out; have := e2.out; omega))))
      obtain ⟨S2, hS2⟩ : ∃ S2 : Nat → Prop, S2 = fun k => k = bc ∨ k = w5.heap.size ∨ w7.heap.size ≤ k := ⟨_, rfl⟩
      have HRS7 : Hid (RS w7 S' w3.heap.size bt bc bc (N + ts.length) ver tl1 (Cu.new p 0).byte.2) := {
        box := (hb57.block _ (by have := e2.out; omega)).trans ((HO5.out.block _ (by simp) (by have := e4.out; omega)).trans (one_new w3 _))
        cur := HC5.out.below hb57 HC5.out.lt
        tab := HT2.out.keep (fun k hk _ => HB27.out.block k (HS2.out k hk).1)
        nt := fun h => by have := (HS2.out bc h).1; have := e4.out; omega
        nb := by have := e4.out; omega
        big := by rw [HTL1.out]; have h1 := tfold_len (ts.map List.tail) tl; rw [List.length_map] at h1; have := HTLL.out; have := HM.out; omega }
      have hst0 : (rdStart p).r = ⟨(kb : Int), [], 0, 0, 0, []⟩ := by rw [HKB.out]; rfl
      have HREC7 : Hid (RecS w7 S2 w5.heap.size (rdStart p).r (.slice none 0 0) (rdStart p).l) := by
        refine ⟨?_, World.ownsRow_nil _ _ _ _, by rw [hS2]; exact .inr (.inl rfl), fun k hk => by cases hk⟩
        rw [hst0]
        exact (HB7.out.block _ (by rw [HZ6.out]; omega)).trans HR5.out
      have HE7 : Hid (RE w7 S2 S' w3.heap.size bc w5.heap.size bc) := {
        sc := by rw [hS2]; exact .inl rfl
        nd := by rw [hS2]; have := e2.out; have := e3.out; have := e4.out; omega
        nt := fun k hk => by have := (HS2.out k hk).1; rw [hS2]; have := e2.out; have := e3.out; have := e4.out; omega
        up := fun k hk => by rw [hS2] at hk; have := e2.out; have := e3.out; have := e4.out; omega
        ne := by have := e2.out; have := e4.out; omega
        new := fun k hk => by rw [hS2]; exact .inr (.inr hk) }
      have HBLK7 : Hid (∀ g, (Value.slice A7 mf c7).ownBlock = some g → g < w7.heap.size ∧ ¬ S2 g) := fun g hg => ⟨own_lt HO7.out g hg, by have h1 := own_block HO7.out g hg; have h2 := own_lt HO7.out g hg; rw [HZ6.out] at h1; have := e2.out; have := e4.out; rw [hS2]; omega⟩
      have HUP2 : Hid (∀ k, S2 k → w.heap.size + 1 ≤ k) := fun k hk => by rw [hS2] at hk; have := e1.out; have := e2.out; have := e3.out; have := e4.out; omega
      clear f0 y0 f1 y1 f2 y2 f3 y3 f4 y4 f5 y5 hS2 hb57 hb24 hst0 HOF p0 p1 p2 p3 p4 p5 q2 g0 k0
      go_loopw [67] (fun idx wr => TkRel S2 S' w3.heap.size bt bc w5.heap.size (N + ts.length) ver tl1 fl (rdStart p) w7 idx wr) (fun idx wr => mf - (intOf idx).toNat)
      case atStart => exact ⟨0, by omega, rfl, ⟨HRS7.out, _, HREC7.out⟩, Turn.refl _ _⟩
      case round =>
        obtain ⟨j, hj, rfl, ⟨hrs, va, hrec⟩, htr⟩ := hrel
        rw [← HMF.out] at hj
        have HTR := Lib.hid htr
        by_cases hlt : j < mf
        · obtain ⟨x, hx⟩ : ∃ x, fl[j]? = some x := ⟨_, List.getElem?_eq_getElem (by rw [← HMF.out]; exact hlt)⟩
          have hmem := List.mem_of_getElem? hx
          have hownr := own_heap (w' := wr) HO7.out (fun g hg => htr.2.2.2.2 g (HBLK7.out g hg).1 (HBLK7.out g hg).2)
          obtain ⟨ad7, rfl, _, hcx⟩ := (Reads.of_own hownr).2 (by omega)
          have k0 := hcx j (.func (.func x.1) #[.pointer (some ⟨w3.heap.size, 0, none⟩)] #[]) (by rw [List.getElem?_map, hx]; rfl)
          have HTAKE := Lib.hid (rdFold_take hx (rdStart p))
          have hlen := rdFold_len (fl := fl.take j) (fun f hf => HGR.out f (List.mem_of_mem_take hf)) (rdStart p)
          have HCALL := Lib.hid (HRD.out x hmem S2 S' w3.heap.size bc w5.heap.size bc (rdFold (fl.take j) (rdStart p)) wr (by rw [List.length_take] at hlen; have h1 : (rdStart p).l.length = 0 := rfl; omega) (HE7.out.next htr.2.2.2.1) ⟨hrs, va, hrec⟩)
          have hnum := HNM.out x hmem
          have hj0 : (0 : Int) ≤ (j : Int) := by omega
          have hj1 : (j : Int) < (mf : Int) := by omega
          obtain ⟨xn, xf⟩ := x
          simp only at k0 HTAKE HCALL hnum
          clear hx hmem hownr hcx hlen hrs hrec htr
          rcases hnum with rfl | rfl | rfl | rfl | rfl | rfl
          · go_wp2_with (go_at_call 59; refine HCALL.out.mono ?_; rintro e w8 ⟨rfl, hw8, ht8⟩; have HW8 := Lib.hid hw8; have HT8 := Lib.hid (HTR.out.trans ht8 (fun _ _ h => h)); clear hw8 ht8)
            exact ⟨⟨j + 1, by rw [← HMF.out]; omega, by go_num, by rw [HTAKE.out]; exact HW8.out, HT8.out⟩, by simp [intOf]; omega⟩
          · go_wp2_with (go_at_call 60; refine HCALL.out.mono ?_; rintro e w8 ⟨rfl, hw8, ht8⟩; have HW8 := Lib.hid hw8; have HT8 := Lib.hid (HTR.out.trans ht8 (fun _ _ h => h)); clear hw8 ht8)
            exact ⟨⟨j + 1, by rw [← HMF.out]; omega, by go_num, by rw [HTAKE.out]; exact HW8.out, HT8.out⟩, by simp [intOf]; omega⟩
          · go_wp2_with (go_at_call 61; refine HCALL.out.mono ?_; rintro e w8 ⟨rfl, hw8, ht8⟩; have HW8 := Lib.hid hw8; have HT8 := Lib.hid (HTR.out.trans ht8 (fun _ _ h => h)); clear hw8 ht8)
            exact ⟨⟨j + 1, by rw [← HMF.out]; omega, by go_num, by rw [HTAKE.out]; exact HW8.out, HT8.out⟩, by simp [intOf]; omega⟩
          · go_wp2_with (go_at_call 62; refine HCALL.out.mono ?_; rintro e w8 ⟨rfl, hw8, ht8⟩; have HW8 := Lib.hid hw8; have HT8 := Lib.hid (HTR.out.trans ht8 (fun _ _ h => h)); clear hw8 ht8)
            exact ⟨⟨j + 1, by rw [← HMF.out]; omega, by go_num, by rw [HTAKE.out]; exact HW8.out, HT8.out⟩, by simp [intOf]; omega⟩
          · go_wp2_with (go_at_call 63; refine HCALL.out.mono ?_; rintro e w8 ⟨rfl, hw8, ht8⟩; have HW8 := Lib.hid hw8; have HT8 := Lib.hid (HTR.out.trans ht8 (fun _ _ h => h)); clear hw8 ht8)
            exact ⟨⟨j + 1, by rw [← HMF.out]; omega, by go_num, by rw [HTAKE.out]; exact HW8.out, HT8.out⟩, by simp [intOf]; omega⟩
          · go_wp2_with (go_at_call 64; refine HCALL.out.mono ?_; rintro e w8 ⟨rfl, hw8, ht8⟩; have HW8 := Lib.hid hw8; have HT8 := Lib.hid (HTR.out.trans ht8 (fun _ _ h => h)); clear hw8 ht8)
            exact ⟨⟨j + 1, by rw [← HMF.out]; omega, by go_num, by rw [HTAKE.out]; exact HW8.out, HT8.out⟩, by simp [intOf]; omega⟩
        · obtain rfl : j = mf := by omega
          rw [HMF.out, List.take_length] at hrs hrec
          obtain ⟨A9, c9, rfl, hc9⟩ := own_slice hrec.2.1
          have hres : wr.heap[w.heap.size]? = some (.cells #[.int .i64 0, .string { data := #[] }, .int .u64 0, .slice none 0 0, .int .u64 0, .int .u64 0, .string { data := #[] }] 26 (0, 0)) := (htr.2.2.2.2 _ (by have := e1.out; have := e2.out; have := e3.out; have := e4.out; omega) (fun h => by have := HUP2.out _ h; omega)).trans ((HB27.out.block _ (by have := e1.out; omega)).trans ((HTU2.out.2.2.2.2 _ (by rw [HZ.out]; omega) (fun h => by have := h.2; omega)).trans HA0.out))
          have z0 := at_cell (i := 0) hrec.1 rfl
          have f0 := at_cell (i := 0) hres rfl
          have y0 := at_frozen (i := 0) hres
          have z1 := at_cell (i := 1) hrec.1 rfl
          have f1 := at_cell (i := 1) hres rfl
          have y1 := at_frozen (i := 1) hres
          have z2 := at_cell (i := 2) hrec.1 rfl
          have f2 := at_cell (i := 2) hres rfl
          have y2 := at_frozen (i := 2) hres
          have z3 := at_cell (i := 3) hrec.1 rfl
          have f3 := at_cell (i := 3) hres rfl
          have y3 := at_frozen (i := 3) hres
          have z4 := at_cell (i := 4) hrec.1 rfl
          have f4 := at_cell (i := 4) hres rfl
          have y4 := at_frozen (i := 4) hres
          have z5 := at_cell (i := 5) hrec.1 rfl
          have f5 := at_cell (i := 5) hres rfl
          have y5 := at_frozen (i := 5) hres
          have z6 := at_cell (i := 6) hrec.1 rfl
          have f6 := at_cell (i := 6) hres rfl
          have y6 := at_frozen (i := 6) hres
          have hfin := (set_same (set_same (set_same (set_same (set_same (set_same (set_same hres 0 (.int .i64 (rdFold fl (rdStart p)).r.kind)) 1 (.string (tx (rdFold fl (rdStart p)).r.target))) 2 (.int .u64 (rdFold fl (rdStart p)).r.rule)) 3 (.slice A9 (rdFold fl (rdStart p)).l.length c9)) 4 (.int .u64 (rdFold fl (rdStart p)).r.out)) 5 (.int .u64 (rdFold fl (rdStart p)).r.time)) 6 (.string (tx (rdFold fl (rdStart p)).r.tag)))
          have htn := ((((((((Turn.refl (fun k => k = w.heap.size) wr).setCell w.heap.size 0 (.int .i64 (rdFold fl (rdStart p)).r.kind) rfl).setCell w.heap.size 1 (.string (tx (rdFold fl (rdStart p)).r.target)) rfl).setCell w.heap.size 2 (.int .u64 (rdFold fl (rdStart p)).r.rule) rfl).setCell w.heap.size 3 (.slice A9 (rdFold fl (rdStart p)).l.length c9) rfl).setCell w.heap.size 4 (.int .u64 (rdFold fl (rdStart p)).r.out) rfl).setCell w.heap.size 5 (.int .u64 (rdFold fl (rdStart p)).r.time) rfl).setCell w.heap.size 6 (.string (tx (rdFold fl (rdStart p)).r.tag)) rfl)
          have HFIN := Lib.hid hfin
          have HTN := Lib.hid htn
          have HRS9 := Lib.hid hrs
          have HREC9 := Lib.hid hrec
          have HC9 := Lib.hid hc9
          clear hfin htn hrs hrec hres hc9 htr
          go_wp2
          refine bodyPost_ret (results_cell_row rfl _ _ _ _ _ _ _ rfl HFIN.out Try.underlying26 rfl (by kernel_rfl)) rfl ?_
          have hown := HREC9.out.2.1
          have hlt := own_lt hown
          have hS := HREC9.out.2.2.2
          have hset := own_heap hown (fun g hg => HTN.out.2.2.2.2 g (hlt g hg) (fun h => by have := HUP2.out g (hS g hg); omega))
          refine ⟨A9, _, c9, S', rfl, ⟨own_from hset (fun k hk => by have := HUP2.out k (hS k hk); omega), HC9.out⟩, fun ad9 ha9 h9 => HE7.out.nt _ h9 (hS ad9.block (by rw [ha9]; rfl)), HRS9.out.tab.turn HTN.out (fun k hk _ h => ?_), fun k hk => ⟨?_, ?_⟩, ?_⟩
          · have h1 := (HS2.out k hk).2
            rw [HZ.out] at h1
            omega
          · have h1 := (HS2.out k hk).1
            have h2 := HTN.out.2.2.2.1
            have h3 := HTR.out.2.2.2.1
            have := e2.out; have := e3.out; have := e4.out
            omega
          · rcases (HS2.out k hk).2 with h1 | h1
            · exact .inl h1.1
            · rw [HZ.out] at h1; exact .inr (by omega)
          · refine (((((Turn.of_below HB0.out).trans HTU2.out (fun k hk h => h.1)).trans (Turn.of_below (S := S) HB27.out) (fun _ _ h => h)).trans HTR.out (fun k hk h => ?_)).trans HTN.out (fun k hk h => ?_))
            · have := HUP2.out k h; omega
            · omega

end Go.Proofs.Ytfidfhajnobonaa

/- schema.taken, over every version and kind. -/
namespace Go.Proofs.Ytfidfhajnobonaa
open Go.RowKit

/-- The fields that are read. -/
def rdFs (ver : Int) (tl : List (List UInt8)) (k : Nat) : List (Nat × (Rst → Rst)) :=
  if k = 2 then [(59, st_target ver tl)]
  else if k = 1 then
    if ver = 1 then [(59, st_target ver tl), (60, st_rule ver tl), (61, st_deps ver tl), (62, st_out ver tl)]
    else if ver = 2 then [(59, st_target ver tl), (60, st_rule ver tl), (61, st_deps ver tl), (62, st_out ver tl), (63, st_when ver tl)]
    else [(59, st_target ver tl), (60, st_rule ver tl), (61, st_deps ver tl), (62, st_out ver tl), (63, st_when ver tl), (64, st_tag ver tl)]
  else []
theorem rdFs_2 (ver : Int) (tl : List (List UInt8)) : rdFs ver tl 2 = [(59, st_target ver tl)] := rfl
theorem rdFs_11 (tl : List (List UInt8)) : rdFs 1 tl 1 = [(59, st_target 1 tl), (60, st_rule 1 tl), (61, st_deps 1 tl), (62, st_out 1 tl)] := rfl
theorem rdFs_12 (tl : List (List UInt8)) : rdFs 2 tl 1 = [(59, st_target 2 tl), (60, st_rule 2 tl), (61, st_deps 2 tl), (62, st_out 2 tl), (63, st_when 2 tl)] := rfl
theorem rdFs_13 (tl : List (List UInt8)) : rdFs 3 tl 1 = [(59, st_target 3 tl), (60, st_rule 3 tl), (61, st_deps 3 tl), (62, st_out 3 tl), (63, st_when 3 tl), (64, st_tag 3 tl)] := rfl
theorem rdFs_none (ver : Int) (tl : List (List UInt8)) (k : Nat) (h1 : k ≠ 1) (h2 : k ≠ 2) : rdFs ver tl k = [] := by
  unfold rdFs
  rw [if_neg h2, if_neg h1]
theorem rdFs_mem {ver : Int} {tl : List (List UInt8)} {k : Nat} {f : Nat × (Rst → Rst)} (h : f ∈ rdFs ver tl k) : f = (59, st_target ver tl) ∨ f = (60, st_rule ver tl) ∨ f = (61, st_deps ver tl) ∨ f = (62, st_out ver tl) ∨ f = (63, st_when ver tl) ∨ f = (64, st_tag ver tl) := by
  unfold rdFs at h
  split at h
  · simp at h; simp [h]
  · split at h
    · split at h
      · simp at h; rcases h with h | h | h | h <;> simp [h]
      · split at h
        · simp at h; rcases h with h | h | h | h | h <;> simp [h]
        · simp at h; rcases h with h | h | h | h | h | h <;> simp [h]
    · simp at h
theorem rdFs_len (ver : Int) (tl : List (List UInt8)) (k : Nat) : (rdFs ver tl k).length ≤ 6 := by
  unfold rdFs
  split
  · simp
  · split
    · split
      · simp
      · split <;> simp
    · simp
theorem rdFs_fold (ver : Int) (tl : List (List UInt8)) (k : Nat) (hv : ver = 1 ∨ ver = 2 ∨ ver = 3) (s : Rst) : rdFold (rdFs ver tl k) s = rdAll ver tl k s := by
  unfold rdFs rdAll
  by_cases h2 : k = 2
  · rw [if_pos h2, if_pos h2]; rfl
  · rw [if_neg h2, if_neg h2]
    by_cases h1 : k = 1
    · rw [if_pos h1, if_pos h1]
      rcases hv with rfl | rfl | rfl <;> rfl
    · rw [if_neg h1, if_neg h1]; rfl
theorem rdFs_grow {ver : Int} {tl : List (List UInt8)} {k : Nat} {f : Nat × (Rst → Rst)} (h : f ∈ rdFs ver tl k) (s : Rst) : (f.2 s).l.length ≤ s.l.length + 16 := by
  rcases rdFs_mem h with rfl | rfl | rfl | rfl | rfl | rfl
  · exact Nat.le_add_right _ _
  · exact Nat.le_add_right _ _
  · show (st_deps ver tl s).l.length ≤ _
    unfold st_deps
    rw [rdIter_len]
    show s.l.length + _ ≤ _
    omega
  · exact Nat.le_add_right _ _
  · exact Nat.le_add_right _ _
  · exact Nat.le_add_right _ _

set_option maxRecDepth 100000 in
theorem taken_any (S : Nat → Prop) (bt B N n c : Nat) (ver : Int) (hv : ver = 1 ∨ ver = 2 ∨ ver = 3) (tl ts : List (List UInt8)) (p : List UInt8) (A : Option Addr) (hts : ∀ t ∈ ts, t ≠ [] ∧ t.length ≤ 1000000) (hp : p.length ≤ 1000000) (hn : ts.length + 1 = n) (hn2 : n ≤ 100000) (htl : tl.length ≤ 900000000) (hN : N ≤ 900000000) (w : World) (hB : B ≤ w.heap.size) (hT : Tab w S bt N tl) (hr : PlsT w B S A n c (ts ++ [p])) (tl1 : List (List UInt8)) (htl1 : tl1 = (ts.map List.tail).foldl tput tl) :
    Calls Try.prog 34 #[.int .i64 ver, .pointer (some ⟨bt, 0, none⟩), .slice A n c] w fun e w' => ∃ (A' : Option Addr) (n' c' : Nat) (S' : Nat → Prop), e = .returned (rcv (rdAll ver tl1 (Cu.new p 0).byte.1.toNat (rdStart p)).r A' n' c') ∧ Deps w' w.heap.size A' n' c' (rdAll ver tl1 (Cu.new p 0).byte.1.toNat (rdStart p)).l ∧ (∀ ad, A' = some ad → ¬ S' ad.block) ∧ Tab w' S' bt (N + ts.length) tl1 ∧ (∀ k, S' k → k < w'.heap.size ∧ (S k ∨ w.heap.size ≤ k)) ∧ Turn S w w' := by
  rw [← rdFs_fold ver tl1 _ hv (rdStart p)]
  refine taken_core S bt B N n c ver tl ts p A hts hp hn hn2 htl hN w hB hT hr tl1 htl1 (rdFs ver tl1 (Cu.new p 0).byte.1.toNat) (rdFs_len _ _ _) ?_ (fun f hf s => rdFs_grow hf s) ?_ ?_
  · intro f hf
    rcases rdFs_mem hf with rfl | rfl | rfl | rfl | rfl | rfl <;> simp
  · intro P W
    generalize (Cu.new p 0).byte.1.toNat = k
    by_cases h2 : k = 2
    · subst h2
      exact of_2 59 60 61 62 63 64 P ver W
    · by_cases h1 : k = 1
      · subst h1
        rcases hv with rfl | rfl | rfl
        · exact of_11 59 60 61 62 63 64 P W
        · exact of_21 59 60 61 62 63 64 P W
        · exact of_31 59 60 61 62 63 64 P W
      · rw [rdFs_none _ _ _ h1 h2]
        exact of_none 59 60 61 62 63 64 P ver k ⟨by omega, by omega⟩ W
  · intro f hf S0 T0 brd bc brr B0 s W hsl hE hTT
    rcases rdFs_mem hf with rfl | rfl | rfl | rfl | rfl | rfl
    · exact rd_target S0 T0 brd bt bc brr B0 (N + ts.length) ver tl1 s W hE hTT
    · exact rd_rule S0 T0 brd bt bc brr B0 (N + ts.length) ver tl1 s W hE hTT
    · exact rd_deps S0 T0 brd bt bc brr B0 (N + ts.length) ver tl1 s hsl W hE hTT
    · exact rd_out S0 T0 brd bt bc brr B0 (N + ts.length) ver tl1 s W hE hTT
    · exact rd_when S0 T0 brd bt bc brr B0 (N + ts.length) ver tl1 s W hE hTT
    · exact rd_tag S0 T0 brd bt bc brr B0 (N + ts.length) ver tl1 s W hE hTT

end Go.Proofs.Ytfidfhajnobonaa

/- textsAhead. -/
namespace Go.Proofs.Ytfidfhajnobonaa
open Go.RowKit

/-- A payload that is a text. -/
def isTxt : List UInt8 → Bool
  | [] => false
  | x :: _ => x == 0
/-- How many payloads ahead are texts. -/
def tahead : List (List UInt8) → Nat
  | [] => 0
  | p :: l => if isTxt p then tahead l + 1 else 0
theorem tahead_le : ∀ ps, tahead ps ≤ ps.length
  | [] => Nat.le_refl _
  | p :: l => by
    unfold tahead
    split
    · have := tahead_le l; simp; omega
    · exact Nat.zero_le _
theorem tahead_texts (ts : List (List UInt8)) (p : List UInt8) (l : List (List UInt8)) (ht : ∀ t ∈ ts, isTxt t = true) (hp : isTxt p = false) : tahead (ts ++ p :: l) = ts.length := by
  induction ts with
  | nil => simp [tahead, hp]
  | cons t ts ih =>
    rw [List.cons_append, tahead, if_pos (ht t (by simp)), ih (fun x hx => ht x (by simp [hx]))]
    rfl
theorem tahead_drop {ps : List (List UInt8)} {i : Nat} {p : List UInt8} (h : ps[i]? = some p) : tahead (ps.drop i) = if isTxt p then tahead (ps.drop (i + 1)) + 1 else 0 := by
  obtain ⟨hlt, hp⟩ := List.getElem?_eq_some_iff.1 h
  rw [List.drop_eq_getElem_cons hlt, hp]
  rfl

def AhRel (ps : List (List UInt8)) (w : World) (idx : Value) (wr : World) : Prop :=
  ∃ i : Nat, i ≤ ps.length ∧ idx = .int .i64 (i : Int) ∧ wr = w ∧ tahead ps = i + tahead (ps.drop i)

set_option maxRecDepth 100000 in
set_option maxHeartbeats 1000000 in
theorem ahead_any (B n c : Nat) (ps : List (List UInt8)) (A : Option Addr) (hn : n ≤ 100000) (w : World) (hr : PlsC w B A n c ps) :
    Calls Try.prog 33 #[.slice A n c] w fun e w' => e = .returned (.int .i64 (tahead ps : Int)) ∧ w = w' := by
  obtain ⟨hnc, hpn, vs, hrv, hps⟩ := hr
  have HRV := Lib.hid hrv
  have HPS := Lib.hid hps
  have HN := Lib.hid hpn
  clear hrv hps hpn
  go_enter Try.func33, Try.ntmps33
  go_wp2_with fail
  go_loopw [7] (fun idx wr => AhRel ps w idx wr) (fun idx wr => n - (intOf idx).toNat)
  case atStart => exact ⟨0, by omega, rfl, rfl, by simp⟩
  case round =>
    obtain ⟨i, hi, rfl, rfl, hta⟩ := hrel
    rw [HN.out] at hi
    have HTA := Lib.hid hta
    clear hta
    by_cases hlt : i < n
    · obtain ⟨p, hp⟩ : ∃ p, ps[i]? = some p := ⟨_, List.getElem?_eq_getElem (by rw [HN.out]; exact hlt)⟩
      obtain ⟨A4, c4, hv4, hc4, hr4⟩ := HPS.out i p hp
      obtain ⟨ad, rfl, _, hcx⟩ := HRV.out.2 (by omega)
      have k0 := hcx i _ hv4
      have hi0 : (0 : Int) ≤ (i : Int) := by omega
      have hi1 : (i : Int) < (n : Int) := by omega
      have HD := Lib.hid (tahead_drop hp)
      cases p with
      | nil =>
        simp only [List.length_nil] at k0
        have HF : Hid ((tahead ps : Int) = (i : Int)) := by have h1 : tahead (ps.drop i) = 0 := HD.out; have h2 := HTA.out; show _ = _; omega
        clear hcx hv4 hp hc4 hr4
        go_wp2
        go_ret
        exact ⟨by rw [HF.out]; rfl, rfl⟩
      | cons x t =>
        obtain ⟨ad4, rfl, _, hcx4⟩ := hr4.2 (by simp)
        have k1 : wr.cell? ad4 = some (.int .u8 (x.toNat : Int)) := hcx4 0 (bv x) rfl
        obtain ⟨kl, hkl⟩ : ∃ kl, kl = t.length := ⟨_, rfl⟩
        simp only [List.length_cons] at k0
        rw [← hkl] at k0
        by_cases hx : x = 0
        · subst hx
          have HF : Hid (tahead ps = (i + 1) + tahead (ps.drop (i + 1))) := by have h1 : tahead (ps.drop i) = tahead (ps.drop (i + 1)) + 1 := HD.out; have h2 := HTA.out; show _ = _; omega
          clear hcx hv4 hp hc4 hr4 hcx4 hkl
          go_wp2
          exact ⟨⟨i + 1, by rw [HN.out]; omega, by go_num, rfl, HF.out⟩, by simp [intOf]; omega⟩
        · have HF : Hid ((tahead ps : Int) = (i : Int)) := by have h1 := HD.out; have h2 := HTA.out; rw [if_neg (by simp [isTxt, hx])] at h1; show _ = _; omega
          obtain ⟨kx, hkx⟩ : ∃ kx, kx = x.toNat := ⟨_, rfl⟩
          have hkx0 : ¬ (kx : Int) = 0 := fun h => hx (by apply UInt8.toNat_inj.1; rw [← hkx]; simpa using h)
          rw [← hkx] at k1
          have hq1 : ((kx : Int) != 0) = true := by simpa using hkx0
          have hq2 : ((kl : Int) + 1 == 0) = false := by simp; omega
          clear hcx hv4 hp hc4 hr4 hcx4 hkl hkx hx
          go_wp2
          go_ret
          exact ⟨by rw [HF.out]; rfl, rfl⟩
    · obtain rfl : i = n := by omega
      have HF : Hid ((tahead ps : Int) = (i : Int)) := by have h2 := HTA.out; rw [List.drop_of_length_le (by rw [HN.out]; exact Nat.le_refl _)] at h2; show _ = _; simp only [tahead] at h2; omega
      go_wp2
      go_ret
      exact ⟨by rw [HF.out]; rfl, rfl⟩

end Go.Proofs.Ytfidfhajnobonaa

/- bytes.Equal and slices.EqualFunc. -/
namespace Go.Proofs.Ytfidfhajnobonaa
open Go.RowKit

theorem tx_same {p q : List UInt8} : ((tx p).toList == (tx q).toList) = decide (p = q) := by
  rw [tx_toList, tx_toList]
  by_cases h : p = q
  · subst h; simp
  · rw [decide_eq_false h]
    exact beq_eq_false_iff_ne.2 h

set_option maxRecDepth 100000 in
set_option maxHeartbeats 400000 in
theorem equal_any (B B2 n c n2 c2 : Nat) (A A2 : Option Addr) (p q : List UInt8) (w : World) (h1 : Reads w B 1 A n (p.map bv)) (h2 : Reads w B2 1 A2 n2 (q.map bv)) :
    Calls Try.prog 37 #[.slice A n c, .slice A2 n2 c2] w fun e w' => e = .returned (.bool (decide (p = q))) ∧ w = w' := by
  have hc1 : (convert 44 9 (.slice A n c)).run Try.prog w = .ok (.string (tx p)) w := conv_reads Try.underlying44 Try.underlying5 Try.underlying9 h1
  have hc2 : (convert 44 9 (.slice A2 n2 c2)).run Try.prog w = .ok (.string (tx q)) w := conv_reads Try.underlying44 Try.underlying5 Try.underlying9 h2
  have HE := Lib.hid (tx_same (p := p) (q := q))
  generalize decide (p = q) = b at *
  clear h1 h2
  go_enter Try.func37, Try.ntmps37
  go_wp2
  go_ret
  exact ⟨by rw [← HE.out]; rfl, rfl⟩

def EqRel (ps qs : List (List UInt8)) (w : World) (idx : Value) (wr : World) : Prop :=
  ∃ i : Nat, i ≤ ps.length ∧ idx = .int .i64 (i : Int) ∧ wr = w ∧ ps.take i = qs.take i

set_option maxRecDepth 100000 in
set_option maxHeartbeats 1000000 in
theorem equalFunc_any (B B2 n c n2 c2 : Nat) (A A2 : Option Addr) (ps qs : List (List UInt8)) (hn : n ≤ 100000) (hn2 : n2 ≤ 100000) (w : World) (hr : PlsC w B A n c ps) (hr2 : PlsC w B2 A2 n2 c2 qs) :
    Calls Try.prog 36 #[.slice A n c, .slice A2 n2 c2, .func (.func 37) #[] #[]] w fun e w' => e = .returned (.bool (decide (ps = qs))) ∧ w = w' := by
  obtain ⟨hnc, hpn, vs, hrv, hps⟩ := hr
  obtain ⟨hnc2, hpn2, vs2, hrv2, hps2⟩ := hr2
  have HRV := Lib.hid hrv
  have HPS := Lib.hid hps
  have HN := Lib.hid hpn
  have HRV2 := Lib.hid hrv2
  have HPS2 := Lib.hid hps2
  have HN2 := Lib.hid hpn2
  clear hrv hps hpn hrv2 hps2 hpn2
  by_cases hnn : n = n2
  · subst hnn
    go_enter Try.func36, Try.ntmps36
    go_wp2_with fail
    go_loopw [17] (fun idx wr => EqRel ps qs w idx wr) (fun idx wr => n - (intOf idx).toNat)
    case atStart => exact ⟨0, by omega, rfl, rfl, by simp⟩
    case round =>
      obtain ⟨i, hi, rfl, rfl, hta⟩ := hrel
      rw [HN.out] at hi
      have HTA := Lib.hid hta
      clear hta
      by_cases hlt : i < n
      · obtain ⟨p, hp⟩ : ∃ p, ps[i]? = some p := ⟨_, List.getElem?_eq_getElem (by rw [HN.out]; exact hlt)⟩
        obtain ⟨q, hq⟩ : ∃ q, qs[i]? = some q := ⟨_, List.getElem?_eq_getElem (by rw [HN2.out]; exact hlt)⟩
        obtain ⟨A4, c4, hv4, hc4, hr4⟩ := HPS.out i p hp
        obtain ⟨A5, c5, hv5, hc5, hr5⟩ := HPS2.out i q hq
        obtain ⟨ad, rfl, _, hcx⟩ := HRV.out.2 (by omega)
        obtain ⟨ad2, rfl, _, hcx2⟩ := HRV2.out.2 (by omega)
        have k0 := hcx i _ hv4
        have k1 := hcx2 i _ hv5
        have hi0 : (0 : Int) ≤ (i : Int) := by omega
        have hi1 : (i : Int) < (n : Int) := by omega
        have HEQ := Lib.hid (equal_any B B2 p.length c4 q.length c5 A4 A5 p q wr hr4 hr5)
        obtain ⟨lp, hlp⟩ : ∃ lp, lp = p.length := ⟨_, rfl⟩
        obtain ⟨lq, hlq⟩ : ∃ lq, lq = q.length := ⟨_, rfl⟩
        rw [← hlp] at HEQ k0
        rw [← hlq] at HEQ k1
        by_cases hpq : p = q
        · have HF : Hid (ps.take (i + 1) = qs.take (i + 1)) := by show _ = _; rw [List.take_add_one, List.take_add_one, HTA.out, hp, hq, hpq]
          rw [decide_eq_true hpq] at HEQ
          clear hcx hcx2 hv4 hv5 hp hq hc4 hc5 hr4 hr5 hlp hlq hpq
          go_wp2_with (go_at_call 37; refine HEQ.out.mono ?_; rintro e w3 ⟨rfl, rfl⟩)
          exact ⟨⟨i + 1, by rw [HN.out]; omega, by go_num, rfl, HF.out⟩, by simp [intOf]; omega⟩
        · have HF : Hid (decide (ps = qs) = false) := by
            refine decide_eq_false fun h => hpq ?_
            rw [h] at hp
            exact Option.some.inj (hp.symm.trans hq)
          rw [decide_eq_false hpq] at HEQ
          clear hcx hcx2 hv4 hv5 hp hq hc4 hc5 hr4 hr5 hlp hlq hpq
          go_wp2_with (go_at_call 37; refine HEQ.out.mono ?_; rintro e w3 ⟨rfl, rfl⟩)
          go_ret
          exact ⟨by rw [HF.out]; rfl, rfl⟩
      · obtain rfl : i = n := by omega
        have HF : Hid (decide (ps = qs) = true) := by
          refine decide_eq_true ?_
          have h1 := HTA.out
          rw [List.take_of_length_le (by rw [HN.out]; exact Nat.le_refl _), List.take_of_length_le (by rw [HN2.out]; exact Nat.le_refl _)] at h1
          exact h1
        go_wp2
        go_ret
        exact ⟨by rw [HF.out]; rfl, rfl⟩
  · have HF : Hid (decide (ps = qs) = false) := decide_eq_false fun h => hnn (by rw [← HN.out, ← HN2.out, h])
    have hni : ¬ (n : Int) = (n2 : Int) := by omega
    have hq1 : ((n : Int) != (n2 : Int)) = true := by simpa using hni
    go_enter Try.func36, Try.ntmps36
    go_wp2
    go_ret
    exact ⟨by rw [HF.out]; rfl, rfl⟩

/-- Rows in memory of their own are read. -/
theorem PlsC.of_rows {w : World} {base : Nat} {S : Nat → Prop} {A : Option Addr} {n c : Nat} {ps : List (List UInt8)} (hn : n = ps.length) (h : Rows w base S (.slice A n c) ps) : PlsC w w.heap.size A n c ps := by
  subst hn
  obtain ⟨vs, h1, h2, h3, h4⟩ := h
  have cap : ∀ {e : TypeId} {A : Option Addr} {n c : Nat} {xs : List Value}, w.ownsRow base e 1 (.slice A n c) n xs → n ≤ c := fun h => by
    rcases h.2 with ⟨h5, h6⟩ | ⟨g, cap, cur, h5, _, _, h6, _⟩
    · cases h5; exact Nat.le_refl _
    · cases h5; exact h6
  refine ⟨cap h1, rfl, vs, Reads.of_own h1, fun i p hp => ?_⟩
  obtain ⟨v, h5, h6, h7⟩ := h4 i p hp
  obtain ⟨A', c', rfl, _⟩ := own_slice h6
  exact ⟨A', c', h5, cap h6, Reads.of_own h6⟩

end Go.Proofs.Ytfidfhajnobonaa

/- The walks of cut and Cut. -/
namespace Go.Proofs.Ytfidfhajnobonaa
open Go.RowKit Go.Maps Go.ChangeMaps Go.WideMaps

theorem clear_none {P : Program} (W : World) (t e ty : TypeId) (A : Option Addr) (c : Nat) (ht : P.underlying t = some (.slice e)) : (Builtin.clear_ #[t] ty #[.slice A 0 c]).run P W = .ok (.tuple #[]) W := by
  cases A <;> simp [Builtin.clear_, run_underlying ht]

set_option maxRecDepth 100000 in
set_option maxHeartbeats 1000000 in
theorem cut_all (L : Option Addr) (b n c : Nat) (sz : Int) (w : World) (hc0 : w.cell? ⟨b, 0, none⟩ = some (.slice L n c)) (hnc : n ≤ c) (hc1 : c ≤ 9223372036854775807) (hf0 : w.frozen? ⟨b, 0, none⟩ = false) (hsz : (n : Int) < sz ∨ sz = (n : Int) ∨ (sz < 0 ∧ n = 0)) :
    Calls Try.prog 65 #[.pointer (some ⟨b, 0, none⟩), .int .i64 sz] w fun e w' => e = .returned (.tuple #[]) ∧ w' = w.setCell ⟨b, 0, none⟩ (.slice L n c) := by
  have hcl := fun (W : World) (ty : TypeId) (A : Option Addr) (c : Nat) => clear_none (P := Try.prog) W 22 9 ty A c Try.underlying22
  rcases hsz with hsz | rfl | ⟨hsz, rfl⟩
  all_goals
    go_enter Try.func65, Try.ntmps65
    go_wp2
  all_goals
    (go_loopw [22] (fun idx wr => idx = .int .i64 0 ∧ wr = w) (fun idx wr => 0)
     case atStart => exact ⟨rfl, rfl⟩
     case round =>
       obtain ⟨rfl, rfl⟩ := hrel
       go_wp2
       go_end0
       first | exact ⟨rfl, rfl⟩ | (refine ⟨rfl, ?_⟩; subst_vars; rfl))

theorem setCells_row (g : Nat) (e : TypeId) (f : Nat × Nat) : ∀ (vs : List Value) (o : Nat) (w : World) (cur : Array Value), w.heap[g]? = some (.cells cur e f) →
    ∃ cur', (w.setCells g o vs).heap[g]? = some (.cells cur' e f) ∧ cur'.size = cur.size ∧ ∀ j : Nat, j < o → cur'[j]? = cur[j]?
  | [], _, _, cur, h => ⟨cur, h, rfl, fun _ _ => rfl⟩
  | v :: vs, o, w, _, h => by
    obtain ⟨cur', h1, h2, h3⟩ := setCells_row g e f vs (o + 1) (w.setCell ⟨g, o, none⟩ v) _ (field_set (u := v) (j := o) h)
    refine ⟨cur', h1, by rw [h2]; simp, fun j hj => ?_⟩
    rw [h3 j (by omega), Array.getElem?_setIfInBounds, if_neg (by omega)]

theorem setCells_turn (g : Nat) (S : Nat → Prop) (hs : S g) : ∀ (vs : List Value) (o : Nat) (a w : World), Turn S a w → Turn S a (w.setCells g o vs)
  | [], _, _, _, h => h
  | v :: vs, o, a, _, h => setCells_turn g S hs vs (o + 1) a _ (h.setCell g o v hs)

/-- A row that was written over from k on: what comes first stays. -/
theorem own_first {w : World} {g n k c : Nat} {e : TypeId} {xs : List Value} (h : w.ownsRow 0 e 1 (.slice (some ⟨g, 0, none⟩) n c) n xs) (hk : k ≤ n) (vs : List Value) :
    (w.setCells g k vs).ownsRow 0 e 1 (.slice (some ⟨g, 0, none⟩) k c) k (xs.take k) := by
  have hlen := h.1
  rcases h.2 with ⟨h0, _⟩ | ⟨g', cap, cur, hv, _, hg, h1, h2, h3, h4⟩
  · cases h0
  · injection hv with hv _ hv2
    cases hv
    subst hv2
    obtain ⟨cur', g1, g2, g3⟩ := setCells_row g e (0, 0) vs k w cur hg
    refine ⟨by rw [List.length_take]; omega, .inr ⟨g, c, cur', rfl, Nat.zero_le _, g1, by omega, h2, by rw [g2, h3], ?_⟩⟩
    rw [← h4, List.take_take]
    apply List.ext_getElem?
    intro j
    rw [List.getElem?_take, List.getElem?_take]
    by_cases hj : j < k * 1
    · rw [if_pos hj, if_pos (by omega)]
      have := g3 j (by omega)
      simpa using this
    · rw [if_neg hj, if_neg (by omega)]

set_option maxRecDepth 100000 in
set_option maxHeartbeats 1000000 in
theorem cut_some (S : Nat → Prop) (b g mb n k c N : Nat) (D : DataW Nat) (l : List (List UInt8)) (sz : Int) (hkn : k < n) (hnl : n = l.length) (hnb : n ≤ 1073741824) (w : World) (hh : w.heap[b]? = some (.cells #[.slice (some ⟨g, 0, none⟩) n c, .map (some mb)] 61 (0, 0)))
    (ho : w.ownsRow 0 9 1 (.slice (some ⟨g, 0, none⟩) n c) n (l.map tsv)) (hm : w.ownsMap Try.prog 9 (plainElem Try.prog 23) mb N D) (hn : NumOf D l) (hnd : l.Nodup) (hlen : ∀ s ∈ l, s.length ≤ maxLen) (hSb : S b) (hSg : S g) (hSm : S mb)
    (hsz : (sz < 0 ∧ k = 0) ∨ sz = (k : Int)) :
    Calls Try.prog 65 #[.pointer (some ⟨b, 0, none⟩), .int .i64 sz] w fun e w' => e = .returned (.tuple #[]) ∧ Tab w' S b N (l.take k) ∧ Turn S w w' := by
  have hbm : b ≠ mb := by
    intro e
    subst e
    obtain ⟨es, clock, hb, _⟩ := hm
    rw [hh] at hb; cases hb
  have hgm : g ≠ mb := own_map ho hm g rfl
  have hgb : g ≠ b := fun e => own_cells ho hh (by decide) (by rw [e]; rfl)
  have hcn : n ≤ c ∧ c ≤ maxLen := by
    rcases ho.2 with ⟨h0, _⟩ | ⟨g', cap, cur, hv, _, hg, h1, h2, h3, h4⟩
    · cases h0
    · injection hv with _ _ hv2
      subst hv2
      exact ⟨h1, h2⟩
  have hc1 : c ≤ 9223372036854775807 := by have := hcn.2; unfold maxLen at this; omega
  have hck : ¬ c = k := by omega
  have hc0 : w.cell? ⟨b, 0, none⟩ = some (.slice (some ⟨g, 0, none⟩) n c) := field_cell hh rfl
  have hcm : w.cell? ⟨b, 1, none⟩ = some (.map (some mb)) := field_cell hh rfl
  have hf0 : w.frozen? ⟨b, 0, none⟩ = false := field_free hh
  have hrow := Reads.of_own ho
  have HH := Lib.hid hh
  have HO := Lib.hid ho
  have HM := Lib.hid hm
  have HROW := Lib.hid hrow
  have HN := Lib.hid (numTill_start k hn)
  have HND := Lib.hid hnd
  have HLEN := Lib.hid hlen
  have HNL := Lib.hid hnl
  have HBM := Lib.hid hbm
  have HGM := Lib.hid hgm
  have HGB := Lib.hid hgb
  have HSS : Hid (S b ∧ S g ∧ S mb) := ⟨hSb, hSg, hSm⟩
  have hnc := hcn.1
  clear hh ho hm hrow hn hnd hlen hnl hbm hgm hgb hSb hSg hSm hcn
  rcases hsz with ⟨hsz, rfl⟩ | rfl
  · go_enter Try.func65, Try.ntmps65
    go_wp2
    go_loopw [22] (fun idx wr => ∃ (i : Nat) (D' : DataW Nat), i ≤ n ∧ idx = .int .i64 (i : Int) ∧ wr.ownsMap Try.prog 9 (plainElem Try.prog 23) mb N D' ∧ NumTill D' l 0 (0 + i) ∧ Turn (fun q => q = mb) w wr) (fun idx wr => n - (intOf idx).toNat)
    case atStart => exact ⟨0, D, by omega, rfl, HM.out, HN.out, Turn.refl _ _⟩
    case round =>
      obtain ⟨i, D', hi, rfl, hm', hn', ht'⟩ := hrel
      have hhr : wr.heap[b]? = some (.cells #[.slice (some ⟨g, 0, none⟩) n c, .map (some mb)] 61 (0, 0)) := (ht'.2.2.2.2 b (Array.getElem?_eq_some_iff.1 HH.out).1 HBM.out).trans HH.out
      have hor := own_heap (w' := wr) HO.out (fun q hq => by
        obtain rfl : g = q := by simpa [Value.ownBlock] using hq
        exact ht'.2.2.2.2 g (own_lt HO.out g rfl) HGM.out)
      have hcmr : wr.cell? ⟨b, 1, none⟩ = some (.map (some mb)) := field_cell hhr rfl
      by_cases hlt : i < n
      · obtain ⟨s, hs⟩ : ∃ s, l[0 + i]? = some s := ⟨_, List.getElem?_eq_getElem (by rw [← HNL.out]; omega)⟩
        have hcell : wr.cell? ⟨g, i, none⟩ = some (.string (tx s)) := by
          have h := hor.cellAt (0 + i) (by omega)
          rw [List.getElem?_map, hs] at h
          simpa [tsv] using h
        have hkey := tkeyOf (HLEN.out s (List.mem_of_getElem? hs))
        unfold tsv at hkey
        have HST := Lib.hid (numTill_step HND.out (by omega) hs hn')
        have HTT := Lib.hid ht'
        clear hs hhr hor hn' ht'
        go_wp2_with (at_delete; refine wpList_delete_own _ rfl _ _ 57 9 rfl 23 tkey Try.underlying57 _ mb N D' rfl hm' _ _ rfl hkey ?_; intro w1 hm1 ht1)
        exact ⟨⟨i + 1, _, by omega, by go_num, hm1, HST.out, HTT.out.grown ht1.grown (fun q e _ => by cases e; rfl)⟩, by simp [intOf]; omega⟩
      · have hk0 : 0 + i = l.length := by have := HNL.out; omega
        rw [hk0] at hn'
        have hend := numTill_end HND.out hn'
        have hc0r : wr.cell? ⟨b, 0, none⟩ = some (.slice (some ⟨g, 0, none⟩) n c) := field_cell hhr rfl
        have hf0r : wr.frozen? ⟨b, 0, none⟩ = false := field_free hhr
        have hcl : ∀ ty, (Builtin.clear_ #[22] ty #[.slice (some ⟨g, 0, none⟩) (n) (c)]).run Try.prog wr = .ok (.tuple #[]) (wr.setCells g 0 (List.replicate (n) (.string ⟨#[]⟩))) := fun ty =>
          Lib.run_clear_slice wr 22 9 ty (.string ⟨#[]⟩) Try.underlying22 (fun w => by kernel_rfl) rfl rfl g 0 (n) (c) (by omega)
            (fun j hj => by rw [hor.cellAt (0 + j) (by omega)]; simp; rw [← HNL.out]; omega) (fun j _ => hor.frozenAt _)
        have hs1 : ∀ vs : List Value, (wr.setCells g 0 vs).heap[b]? = wr.heap[b]? := fun vs => World.heap_setCells_other wr g 0 vs (Array.getElem?_eq_some_iff.1 hhr).1 (fun e => HGB.out e.symm)
        have hhs := (hs1 (List.replicate (n) (.string ⟨#[]⟩))).trans hhr
        have hc0s : (wr.setCells g 0 (List.replicate (n) (.string ⟨#[]⟩))).cell? ⟨b, 0, none⟩ = some (.slice (some ⟨g, 0, none⟩) n c) := field_cell hhs rfl
        have hf0s : (wr.setCells g 0 (List.replicate (n) (.string ⟨#[]⟩))).frozen? ⟨b, 0, none⟩ = false := field_free hhs
        have HHS := Lib.hid hhs
        have HOR := Lib.hid hor
        have HMM := Lib.hid hm'
        have HTT := Lib.hid ht'
        have HEND := Lib.hid hend
        have HHR := Lib.hid hhr
        clear hhs hor hm' ht' hend hs1 hn' hk0 hhr
        generalize hvs : List.replicate (n) (Value.string ⟨#[]⟩) = vs at hcl hc0s hf0s HHS
        clear hvs
        go_wp2
        go_end0
        obtain ⟨sb, sg, sm⟩ := HSS.out
        have hlk : (l.take 0).length = 0 := by rw [List.length_take, ← HNL.out]; omega
        have htu : Turn S w wr := ⟨HTT.out.1, HTT.out.2.1, HTT.out.2.2.1, HTT.out.2.2.2.1, fun q h1 h2 => HTT.out.2.2.2.2 q h1 (fun e => h2 (by rw [e]; exact sm))⟩
        have hof := own_first HOR.out (k := 0) (by omega) vs
        have hmb : ((wr.setCells g 0 vs).setCell ⟨b, 0, none⟩ (.slice (some ⟨g, 0, none⟩) 0 c)).heap[mb]? = wr.heap[mb]? :=
          (Below.heap_setCell _ _ _ mb (fun e => HBM.out e.symm)).trans (World.heap_setCells_other wr g 0 vs HMM.out.lt (fun e => HGM.out e.symm))
        refine ⟨rfl, ⟨some ⟨g, 0, none⟩, c, some mb, ?_, sb, ?_, fun q hq => ?_, .inr ⟨mb, D', rfl, sm, map_heap HMM.out hmb, HEND.out⟩, HND.out.sublist (List.take_sublist _ _), fun s hs => HLEN.out s (List.mem_of_mem_take hs)⟩, ?_⟩
        · rw [hlk]; exact field_set HHS.out
        · rw [hlk, List.map_take]
          exact own_heap hof (fun q hq => Below.heap_setCell _ _ _ q (fun e => by
            obtain rfl : g = q := by simpa [Value.ownBlock] using hq
            exact HGB.out e))
        · obtain rfl : g = q := by simpa [Value.ownBlock] using hq
          exact sg
        · exact (setCells_turn g S sg vs 0 w wr htu).setCell b 0 _ sb
  · go_enter Try.func65, Try.ntmps65
    go_wp2
    go_loopw [22] (fun idx wr => ∃ (i : Nat) (D' : DataW Nat), i ≤ n - k ∧ idx = .int .i64 (i : Int) ∧ wr.ownsMap Try.prog 9 (plainElem Try.prog 23) mb N D' ∧ NumTill D' l k (k + i) ∧ Turn (fun q => q = mb) w wr) (fun idx wr => n - k - (intOf idx).toNat)
    case atStart => exact ⟨0, D, by omega, rfl, HM.out, HN.out, Turn.refl _ _⟩
    case round =>
      obtain ⟨i, D', hi, rfl, hm', hn', ht'⟩ := hrel
      have hhr : wr.heap[b]? = some (.cells #[.slice (some ⟨g, 0, none⟩) n c, .map (some mb)] 61 (0, 0)) := (ht'.2.2.2.2 b (Array.getElem?_eq_some_iff.1 HH.out).1 HBM.out).trans HH.out
      have hor := own_heap (w' := wr) HO.out (fun q hq => by
        obtain rfl : g = q := by simpa [Value.ownBlock] using hq
        exact ht'.2.2.2.2 g (own_lt HO.out g rfl) HGM.out)
      have hcmr : wr.cell? ⟨b, 1, none⟩ = some (.map (some mb)) := field_cell hhr rfl
      by_cases hlt : i < n - k
      · obtain ⟨s, hs⟩ : ∃ s, l[k + i]? = some s := ⟨_, List.getElem?_eq_getElem (by rw [← HNL.out]; omega)⟩
        have hcell : wr.cell? ⟨g, k + i, none⟩ = some (.string (tx s)) := by
          have h := hor.cellAt (k + i) (by omega)
          rw [List.getElem?_map, hs] at h
          simpa [tsv] using h
        have hkey := tkeyOf (HLEN.out s (List.mem_of_getElem? hs))
        unfold tsv at hkey
        have HST := Lib.hid (numTill_step HND.out (by omega) hs hn')
        have HTT := Lib.hid ht'
        clear hs hhr hor hn' ht'
        go_wp2_with (at_delete; refine wpList_delete_own _ rfl _ _ 57 9 rfl 23 tkey Try.underlying57 _ mb N D' rfl hm' _ _ rfl hkey ?_; intro w1 hm1 ht1)
        exact ⟨⟨i + 1, _, by omega, by go_num, hm1, HST.out, HTT.out.grown ht1.grown (fun q e _ => by cases e; rfl)⟩, by simp [intOf]; omega⟩
      · have hk0 : k + i = l.length := by have := HNL.out; omega
        rw [hk0] at hn'
        have hend := numTill_end HND.out hn'
        have hc0r : wr.cell? ⟨b, 0, none⟩ = some (.slice (some ⟨g, 0, none⟩) n c) := field_cell hhr rfl
        have hf0r : wr.frozen? ⟨b, 0, none⟩ = false := field_free hhr
        have hcl : ∀ ty, (Builtin.clear_ #[22] ty #[.slice (some ⟨g, k, none⟩) (n - k) (c - k)]).run Try.prog wr = .ok (.tuple #[]) (wr.setCells g k (List.replicate (n - k) (.string ⟨#[]⟩))) := fun ty =>
          Lib.run_clear_slice wr 22 9 ty (.string ⟨#[]⟩) Try.underlying22 (fun w => by kernel_rfl) rfl rfl g k (n - k) (c - k) (by omega)
            (fun j hj => by rw [hor.cellAt (k + j) (by omega)]; simp; rw [← HNL.out]; omega) (fun j _ => hor.frozenAt _)
        have hs1 : ∀ vs : List Value, (wr.setCells g k vs).heap[b]? = wr.heap[b]? := fun vs => World.heap_setCells_other wr g k vs (Array.getElem?_eq_some_iff.1 hhr).1 (fun e => HGB.out e.symm)
        have hhs := (hs1 (List.replicate (n - k) (.string ⟨#[]⟩))).trans hhr
        have hc0s : (wr.setCells g k (List.replicate (n - k) (.string ⟨#[]⟩))).cell? ⟨b, 0, none⟩ = some (.slice (some ⟨g, 0, none⟩) n c) := field_cell hhs rfl
        have hf0s : (wr.setCells g k (List.replicate (n - k) (.string ⟨#[]⟩))).frozen? ⟨b, 0, none⟩ = false := field_free hhs
        have HHS := Lib.hid hhs
        have HOR := Lib.hid hor
        have HMM := Lib.hid hm'
        have HTT := Lib.hid ht'
        have HEND := Lib.hid hend
        have HHR := Lib.hid hhr
        clear hhs hor hm' ht' hend hs1 hn' hk0 hhr
        generalize hvs : List.replicate (n - k) (Value.string ⟨#[]⟩) = vs at hcl hc0s hf0s HHS
        clear hvs
        go_wp2
        go_end0
        obtain ⟨sb, sg, sm⟩ := HSS.out
        have hlk : (l.take k).length = k := by rw [List.length_take, ← HNL.out]; omega
        have htu : Turn S w wr := ⟨HTT.out.1, HTT.out.2.1, HTT.out.2.2.1, HTT.out.2.2.2.1, fun q h1 h2 => HTT.out.2.2.2.2 q h1 (fun e => h2 (by rw [e]; exact sm))⟩
        have hof := own_first HOR.out (k := k) (by omega) vs
        have hmb : ((wr.setCells g k vs).setCell ⟨b, 0, none⟩ (.slice (some ⟨g, 0, none⟩) k c)).heap[mb]? = wr.heap[mb]? :=
          (Below.heap_setCell _ _ _ mb (fun e => HBM.out e.symm)).trans (World.heap_setCells_other wr g k vs HMM.out.lt (fun e => HGM.out e.symm))
        refine ⟨rfl, ⟨some ⟨g, 0, none⟩, c, some mb, ?_, sb, ?_, fun q hq => ?_, .inr ⟨mb, D', rfl, sm, map_heap HMM.out hmb, HEND.out⟩, HND.out.sublist (List.take_sublist _ _), fun s hs => HLEN.out s (List.mem_of_mem_take hs)⟩, ?_⟩
        · rw [hlk]; exact field_set HHS.out
        · rw [hlk, List.map_take]
          exact own_heap hof (fun q hq => Below.heap_setCell _ _ _ q (fun e => by
            obtain rfl : g = q := by simpa [Value.ownBlock] using hq
            exact HGB.out e))
        · obtain rfl : g = q := by simpa [Value.ownBlock] using hq
          exact sg
        · exact (setCells_turn g S sg vs k w wr htu).setCell b 0 _ sb

set_option maxRecDepth 100000 in
theorem Cut_call (b : Nat) (sz : Int) (w : World) (Q : World → Prop) (h : Calls Try.prog 65 #[.pointer (some ⟨b, 0, none⟩), .int .i64 sz] w fun e w' => e = .returned (.tuple #[]) ∧ Q w') :
    Calls Try.prog 35 #[.pointer (some ⟨b, 0, none⟩), .int .i64 sz] w fun e w' => e = .returned (.tuple #[]) ∧ Q w' := by
  have H := Lib.hid h
  clear h
  go_enter Try.func35, Try.ntmps35
  go_wp2_with (first
    | (go_at_call 39; refine (all_any b _).mono ?_; rintro e w1 ⟨rfl, rfl⟩)
    | (go_at_call 65; refine H.out.mono ?_; rintro e w1 ⟨rfl, hq⟩))
  go_end0
  exact ⟨rfl, hq⟩

/-- How many stay. -/
def tcut (n : Nat) (sz : Int) : Nat := min n (max sz 0).toNat

theorem Cut_any (S : Nat → Prop) (b N : Nat) (l : List (List UInt8)) (sz : Int) (hl : l.length ≤ 1073741824) (w : World) (h : Tab w S b N l) :
    Calls Try.prog 35 #[.pointer (some ⟨b, 0, none⟩), .int .i64 sz] w fun e w' => e = .returned (.tuple #[]) ∧ Tab w' S b N (l.take (tcut l.length sz)) ∧ Turn S w w' := by
  refine Cut_call b sz w (fun w' => Tab w' S b N (l.take (tcut l.length sz)) ∧ Turn S w w') ?_
  have htab := h
  obtain ⟨L, c, mv, h1, hSb, h3, h4, h5, hnd, hlen⟩ := h
  by_cases hk : tcut l.length sz = l.length
  · rw [hk, List.take_length]
    have hcap : l.length ≤ c ∧ c ≤ maxLen := by
      rcases h3.2 with ⟨h0, h00⟩ | ⟨g', cap, cur, hv, _, _, g1, g2, _⟩
      · injection h0 with _ _ h0; subst h0; rw [h00]; exact ⟨Nat.le_refl _, Nat.zero_le _⟩
      · injection hv with _ _ hv2; subst hv2; exact ⟨g1, g2⟩
    refine (cut_all L b l.length c sz w (field_cell h1 rfl) hcap.1 (by have := hcap.2; unfold maxLen at this; omega) (field_free h1) (by unfold tcut at hk; omega)).mono ?_
    rintro e w' ⟨rfl, rfl⟩
    refine ⟨rfl, ?_, (Turn.refl S w).setCell b 0 _ hSb⟩
    have hb2 : (w.setCell ⟨b, 0, none⟩ (.slice L l.length c)).heap[b]? = w.heap[b]? := by rw [field_set h1, h1]; rfl
    exact htab.keep fun q _ hq => by
      by_cases e : q = b
      · rw [e]; exact hb2
      · exact Below.heap_setCell _ _ _ q e
  · have hlt : tcut l.length sz < l.length := by unfold tcut at hk ⊢; omega
    obtain ⟨g, hL⟩ : ∃ g, L = some ⟨g, 0, none⟩ := by
      rcases h3.2 with ⟨_, h00⟩ | ⟨g', cap, cur, hv, _⟩
      · omega
      · injection hv with hv _ _; exact ⟨g', hv⟩
    subst hL
    rcases h5 with ⟨_, e⟩ | ⟨mb, D, rfl, hSm, hm, hn⟩
    · rw [e] at hlt; simp at hlt
    · exact cut_some S b g mb l.length (tcut l.length sz) c N D l sz hlt rfl hl w h1 h3 hm hn hnd hlen hSb (h4 g rfl) hSm (by unfold tcut at hlt ⊢; omega)

end Go.Proofs.Ytfidfhajnobonaa
