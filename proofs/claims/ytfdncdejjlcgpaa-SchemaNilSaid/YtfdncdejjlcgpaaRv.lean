/- record.Names. -/
import Derived.Test.YtfdncdejjlcgpaaRo
import Derived.Test.YtfdncdejjlcgpaaIh
import Derived.Test.YtfdncdejjlcgpaaIbt
namespace Go.Proofs.Ytfdncdejjlcgpaa
open Go.RowKit

/-- A record's texts, each once. -/
def rnames (r : Rc) (l : List Dp) : List (List UInt8) := tnew (r.target :: names l ++ (if r.tag = [] then [] else [r.tag]))

theorem fill_step (T Z : List Value) (i : Nat) (u : Value) (hl : Z.length = T.length) (hu : T[i]? = some u) : (T.take i ++ Z.drop i).set i u = T.take (i + 1) ++ Z.drop (i + 1) := by
  have hi : i < T.length := (List.getElem?_eq_some_iff.1 hu).1
  have h1 : (T.take i).length = i := by rw [List.length_take]; omega
  have h2 : Z.drop i = Z[i]'(by omega) :: Z.drop (i + 1) := List.drop_eq_getElem_cons (by omega)
  rw [h2, List.take_add_one, hu, List.set_append_right _ _ (by omega), h1, Nat.sub_self]
  show T.take i ++ (u :: Z.drop (i + 1)) = _
  simp

def NmRel (w : World) (b g N : Nat) (ts : List (List UInt8)) (Z : List Value) (idx : Value) (wr : World) : Prop :=
  ∃ i : Nat, i ≤ ts.length ∧ idx = .int .i64 (i : Int) ∧ Tab wr (fun k => k < g) b N ts ∧ Below w.heap.size w wr ∧ wr.heap[g]? = some (.cells ((ts.map tsv).take i ++ Z.drop i).toArray 9 (0, 0))

theorem tnew_pos (t : List UInt8) (ts : List (List UInt8)) : 0 < (tnew (t :: ts)).length := by
  have h : t ∈ tnew (t :: ts) := tnew_mem (by simp)
  exact List.length_pos_of_mem h

set_option maxRecDepth 100000 in
set_option maxHeartbeats 2000000 in
theorem names_any (r : Rc) (A : Option Addr) (n c : Nat) (l : List Dp) (hn : n ≤ 1000) (hfit : Fits r l) (w : World) (h : Reads w w.heap.size 3 A n (dps l)) :
    Calls Try.prog 46 #[rcv r A n c] w fun e w' => ∃ v, e = .returned v ∧ Own w' w.heap.size v (rnames r l) ∧ Below w.heap.size w w' := by
  obtain ⟨i0, hi0, hz0, hz1, hz2⟩ := info_parts tinfo
  have hl : l.length = n := by have := h.1; rw [dps_len] at this; omega
  have hz : (w.alloc (.cells (rcells r A n c) 26)).heap.size = w.heap.size + 1 := by simp
  have h0 := one_new w (.cells (rcells r A n c) 26)
  have hb0 := (Below.refl w.heap.size w).alloc (Nat.le_refl _) (.cells (rcells r A n c) 26)
  have HNAMED := Lib.hid (named_any r A n c l hn hfit.1 hfit.2.2 (w.alloc (.cells (rcells r A n c) 26)) ((h.below hb0).more (by rw [hz]; omega)))
  have hlen0 : (tnew (r.target :: names l)).length ≤ 1 + n := by have := tnew_len (r.target :: names l); rw [List.length_cons, show (names l).length = n from by unfold names; rw [List.length_map, hl]] at this; omega
  have HPOS := Lib.hid (tnew_pos r.target (names l))
  have HZ := Lib.hid hz
  have HB0 := Lib.hid hb0
  have q0 := at_cell (i := 0) h0 rfl
  have q1 := at_cell (i := 1) h0 rfl
  have q2 := at_cell (i := 2) h0 rfl
  have q3 := at_cell (i := 3) h0 rfl
  have q4 := at_cell (i := 4) h0 rfl
  have q5 := at_cell (i := 5) h0 rfl
  have q6 := at_cell (i := 6) h0 rfl
  have Q6 := Lib.hid q6
  obtain ⟨k, t, u, o, m, g⟩ := r
  have hfg := hfit.2.1
  have HFG := Lib.hid hfg
  simp only at hlen0 HPOS hfg HFG
  clear h hb0 hz h0 hfit hl
  unfold rcells at *
  unfold rcv rsv at *
  by_cases hg : g = []
  · subst hg
    have he : (tx ([] : List UInt8)).toList = [] := by simp [tx]
    have hT : Hid (tnew (t :: names l) = rnames ⟨k, t, u, o, m, []⟩ l) := by show _ = _; unfold rnames; simp
    obtain ⟨T, hTT⟩ : ∃ T, T = tnew (t :: names l) := ⟨_, rfl⟩
    rw [← hTT] at hT HPOS hlen0 HNAMED
    clear hTT
    go_enter Try.func46, Try.ntmps46
    go_wp2_with (first
      | (at_make; have hk := HB2.out.size; refine wpList_make_at _ rfl (.tmp 16) (.tmp 16) 22 rfl 9 i0 (.string { data := #[] }) Try.underlying22 hi0 hz0 hz1 .i64 .i64 _ _ T.length T.length rfl rfl rfl rfl (Nat.le_refl _) (by rw [hz2]; omega) (by unfold maxLen; omega) ?_; intro Z HZL HZ2; clear HZ2)
      | (go_at_call 31; have hk := HB2.out.size; refine (Len_any _ _ _ _ _ HT2.out).mono ?_; rintro e w3 ⟨rfl, rfl⟩)
      | (go_at_call 70; refine HNAMED.out.mono ?_; rintro e w2 ⟨tb, rfl, htb0, htb1, ht2, hb2⟩; have p6 := (hb2.cell (p := ⟨w.heap.size, 6, none⟩) (show w.heap.size < _ by rw [HZ.out]; omega)).trans Q6.out; have HB2 := Lib.hid (HB0.out.trans (hb2.mono HB0.out.size)); have HT2 := Lib.hid ht2; clear ht2 hb2 htb0 htb1))
    have HB3 := Lib.hid (HB2.out.alloc HB2.out.size (.cells Z.toArray 9))
    have HT3 := Lib.hid (((HT2.out).wide (S2 := fun k => k < w2.heap.size) (fun k _ hk => hk)).keep (w' := w2.alloc (.cells Z.toArray 9)) (fun k _ hk => Below.heap_alloc _ _ _ hk))
    have HG3 := Lib.hid (one_new w2 (.cells Z.toArray 9))
    have HW2 : Hid (w.heap.size ≤ w2.heap.size) := HB2.out.size
    go_loopw [20] (fun idx wr => NmRel w tb w2.heap.size _ T Z idx wr) (fun idx wr => T.length - (intOf idx).toNat)
    case atStart => exact ⟨0, by omega, rfl, HT3.out, HB3.out, by simpa using HG3.out⟩
    case round =>
      obtain ⟨i, hi, rfl, htb, hb, hgr⟩ := hrel
      have HTB := Lib.hid htb
      have HBR := Lib.hid hb
      have HGR := Lib.hid hgr
      by_cases hlt : i < T.length
      · obtain ⟨s, hs⟩ : ∃ s, T[i]? = some s := ⟨_, List.getElem?_eq_getElem hlt⟩
        have htx := Text_any _ tb _ T i (by omega) wr htb
        have hts : ttext T i = s := by unfold ttext; rw [hs]; rfl
        rw [hts, decide_eq_true hlt] at htx
        have HTX := Lib.hid htx
        unfold tsv at HTX
        have hfz := at_frozen (i := i) hgr
        have hclen : i < ((T.map tsv).take i ++ Z.drop i).length := by have h2 : Z.length = T.length := HZL; simp; omega
        obtain ⟨old, hold⟩ : ∃ u, ((T.map tsv).take i ++ Z.drop i)[i]? = some u := ⟨_, List.getElem?_eq_getElem hclen⟩
        have hcell := at_cell (i := i) hgr (by simpa using hold)
        have HSET : Hid ((wr.setCell ⟨w2.heap.size, i, none⟩ (.string (tx s))).heap[w2.heap.size]? = some (.cells ((T.map tsv).take (i + 1) ++ Z.drop (i + 1)).toArray 9 (0, 0))) := by
          show _ = _
          rw [set_same hgr i (.string (tx s))]
          have := fill_step (T.map tsv) Z i (.string (tx s)) (by rw [List.length_map]; exact HZL) (by rw [List.getElem?_map, hs]; rfl)
          rw [← this]
          simp
        have hi0 : (0 : Int) ≤ (i : Int) := by omega
        have hi1 : (i : Int) < (T.length : Int) := by omega
        clear htb hb hgr htx hts hs hold hclen
        go_wp2_with (go_at_call 32; refine HTX.out.mono ?_; rintro e w3 ⟨rfl, rfl⟩)
        exact ⟨⟨i + 1, by omega, by go_num, HTB.out.keep (fun k hk _ => Below.heap_setCell _ _ _ _ (by show k ≠ w2.heap.size; omega)), HBR.out.setCell HW2.out _, HSET.out⟩, by simp [intOf]; omega⟩
      · obtain rfl : i = T.length := by omega
        have h2 : Z.length = T.length := HZL
        have HGR2 : Hid (wr.heap[w2.heap.size]? = some (.cells (T.map tsv).toArray 9 (0, 0))) := by
          show _ = _
          rw [hgr, List.take_of_length_le (by simp), List.drop_of_length_le (by omega), List.append_nil]
        clear htb hb hgr
        go_wp2
        go_ret
        refine ⟨_, rfl, ?_, HBR.out⟩
        rw [← hT.out]
        exact ownsRow_of_block HW2.out HGR2.out (Nat.le_refl _) (by unfold maxLen; omega) (by simp) (by rw [List.take_of_length_le (by simp)])
  · have he := tx_empty g hg
    have hT : Hid (tput (tnew (t :: names l)) g = rnames ⟨k, t, u, o, m, g⟩ l) := by show _ = _; unfold rnames; simp only [if_neg hg]; rw [tnew_snoc]
    have hlen1 : Hid ((tnew (t :: names l)).length + 1 ≤ 1073741824) := by show _ ≤ _; omega
    obtain ⟨T, hTT⟩ : ∃ T, T = tput (tnew (t :: names l)) g := ⟨_, rfl⟩
    have hlen0' : T.length ≤ 2 + n := by rw [hTT]; have := tput_len (tnew (t :: names l)) g; omega
    have HTT := Lib.hid hTT
    rw [← hTT] at hT
    have hlen0 := hlen0'
    clear hTT hlen0' HPOS hg
    go_enter Try.func46, Try.ntmps46
    go_wp2_with (first
      | (at_make; have hk := HB2.out.size; refine wpList_make_at _ rfl (.tmp 16) (.tmp 16) 22 rfl 9 i0 (.string { data := #[] }) Try.underlying22 hi0 hz0 hz1 .i64 .i64 _ _ T.length T.length rfl rfl rfl rfl (Nat.le_refl _) (by rw [hz2]; omega) (by unfold maxLen; omega) ?_; intro Z HZL HZ2; clear HZ2)
      | (go_at_call 31; have hk := HB2.out.size; refine (Len_any _ _ _ _ _ HT2.out).mono ?_; rintro e w3 ⟨rfl, rfl⟩)
      | (go_at_call 21; have hk := HB1.out.size; refine (ID_any _ _ _ _ g HFG.out hlen1.out (by omega) _ HT1.out).mono ?_; rintro e w2 ⟨rfl, ht2, htu2⟩; rw [← HTT.out] at ht2; have HB2 := Lib.hid (HB1.out.trans (htu2.below (fun k hk => by have := HZ.out; omega) HB1.out.size)); have HT2 := Lib.hid ht2; clear ht2 htu2)
      | (go_at_call 70; refine HNAMED.out.mono ?_; rintro e w1 ⟨tb, rfl, htb0, htb1, ht1, hb1⟩; have p6 := (hb1.cell (p := ⟨w.heap.size, 6, none⟩) (show w.heap.size < _ by rw [HZ.out]; omega)).trans Q6.out; have HB1 := Lib.hid (HB0.out.trans (hb1.mono HB0.out.size)); have HT1 := Lib.hid ht1; clear ht1 hb1 htb0 htb1))
    have HB3 := Lib.hid (HB2.out.alloc HB2.out.size (.cells Z.toArray 9))
    have HT3 := Lib.hid (((HT2.out).wide (S2 := fun k => k < w2.heap.size) (fun k _ hk => hk)).keep (w' := w2.alloc (.cells Z.toArray 9)) (fun k _ hk => Below.heap_alloc _ _ _ hk))
    have HG3 := Lib.hid (one_new w2 (.cells Z.toArray 9))
    have HW2 : Hid (w.heap.size ≤ w2.heap.size) := HB2.out.size
    go_loopw [20] (fun idx wr => NmRel w tb w2.heap.size _ T Z idx wr) (fun idx wr => T.length - (intOf idx).toNat)
    case atStart => exact ⟨0, by omega, rfl, HT3.out, HB3.out, by simpa using HG3.out⟩
    case round =>
      obtain ⟨i, hi, rfl, htb, hb, hgr⟩ := hrel
      have HTB := Lib.hid htb
      have HBR := Lib.hid hb
      have HGR := Lib.hid hgr
      by_cases hlt : i < T.length
      · obtain ⟨s, hs⟩ : ∃ s, T[i]? = some s := ⟨_, List.getElem?_eq_getElem hlt⟩
        have htx := Text_any _ tb _ T i (by omega) wr htb
        have hts : ttext T i = s := by unfold ttext; rw [hs]; rfl
        rw [hts, decide_eq_true hlt] at htx
        have HTX := Lib.hid htx
        unfold tsv at HTX
        have hfz := at_frozen (i := i) hgr
        have hclen : i < ((T.map tsv).take i ++ Z.drop i).length := by have h2 : Z.length = T.length := HZL; simp; omega
        obtain ⟨old, hold⟩ : ∃ u, ((T.map tsv).take i ++ Z.drop i)[i]? = some u := ⟨_, List.getElem?_eq_getElem hclen⟩
        have hcell := at_cell (i := i) hgr (by simpa using hold)
        have HSET : Hid ((wr.setCell ⟨w2.heap.size, i, none⟩ (.string (tx s))).heap[w2.heap.size]? = some (.cells ((T.map tsv).take (i + 1) ++ Z.drop (i + 1)).toArray 9 (0, 0))) := by
          show _ = _
          rw [set_same hgr i (.string (tx s))]
          have := fill_step (T.map tsv) Z i (.string (tx s)) (by rw [List.length_map]; exact HZL) (by rw [List.getElem?_map, hs]; rfl)
          rw [← this]
          simp
        have hi0 : (0 : Int) ≤ (i : Int) := by omega
        have hi1 : (i : Int) < (T.length : Int) := by omega
        clear htb hb hgr htx hts hs hold hclen
        go_wp2_with (go_at_call 32; refine HTX.out.mono ?_; rintro e w3 ⟨rfl, rfl⟩)
        exact ⟨⟨i + 1, by omega, by go_num, HTB.out.keep (fun k hk _ => Below.heap_setCell _ _ _ _ (by show k ≠ w2.heap.size; omega)), HBR.out.setCell HW2.out _, HSET.out⟩, by simp [intOf]; omega⟩
      · obtain rfl : i = T.length := by omega
        have h2 : Z.length = T.length := HZL
        have HGR2 : Hid (wr.heap[w2.heap.size]? = some (.cells (T.map tsv).toArray 9 (0, 0))) := by
          show _ = _
          rw [hgr, List.take_of_length_le (by simp), List.drop_of_length_le (by omega), List.append_nil]
        clear htb hb hgr
        go_wp2
        go_ret
        refine ⟨_, rfl, ?_, HBR.out⟩
        rw [← hT.out]
        exact ownsRow_of_block HW2.out HGR2.out (Nat.le_refl _) (by unfold maxLen; omega) (by simp) (by rw [List.take_of_length_le (by simp)])

end Go.Proofs.Ytfdncdejjlcgpaa
