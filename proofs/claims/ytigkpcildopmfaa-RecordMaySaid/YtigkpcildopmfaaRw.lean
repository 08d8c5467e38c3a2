/- The document's Names. -/
import Derived.Test.YtigkpcildopmfaaRv
namespace Go.Proofs.Ytigkpcildopmfaa
open Go.RowKit

set_option maxRecDepth 100000 in
set_option maxHeartbeats 2000000 in
theorem rnames_any (r : Rc) (A : Option Addr) (n c : Nat) (l : List Dp) (hn : n ≤ 1000) (w : World) (h : Reads w w.heap.size 3 A n (dps l)) :
    Calls Try.prog 12 #[rcv r A n c] w fun e w' => ∃ v, e = .returned v ∧ Own w' w.heap.size v (rnames r l) ∧ Below w.heap.size w w' := by
  obtain ⟨is, his, his0, his1, his2⟩ := info_parts tinfo
  have HL : Hid (l.length = n) := by have := h.1; rw [dps_len] at this; show _ = _; omega
  have hz : (w.alloc (.cells (rcells r A n c) 25)).heap.size = w.heap.size + 1 := by simp
  have h0 := one_new w (.cells (rcells r A n c) 25)
  have HB0 := Lib.hid ((Below.refl w.heap.size w).alloc (Nat.le_refl _) (.cells (rcells r A n c) 25))
  have HO0 : Hid (((w.alloc (.cells (rcells r A n c) 25)).alloc (.cells #[.string (tx r.target)] 9)).ownsRow (w.heap.size + 1) 9 1 (.slice (some ⟨w.heap.size + 1, 0, none⟩) 1 1) 1 [.string (tx r.target)]) :=
    ownsRow_of_block (cs := [.string (tx r.target)]) (Nat.le_refl _) (by have := one_new (w.alloc (.cells (rcells r A n c) 25)) (.cells #[.string (tx r.target)] 9); rw [hz] at this; exact this) (Nat.le_refl _) (by unfold maxLen; omega) rfl rfl
  have HS0 : Hid (Below (w.heap.size + 1) (w.alloc (.cells (rcells r A n c) 25)) ((w.alloc (.cells (rcells r A n c) 25)).alloc (.cells #[.string (tx r.target)] 9))) := (Below.refl _ _).alloc (by rw [hz]; exact Nat.le_refl _) _
  have H1 := Lib.hid h
  have H0 := Lib.hid h0
  have HZ := Lib.hid hz
  have q1 := at_cell (i := 1) h0 rfl
  obtain ⟨k, t, u, o, m, g⟩ := r
  clear h h0 hz
  unfold rcells at *
  unfold rcv rsv
  go_enter Try.func12, Try.ntmps12
  go_wp2
  generalize hW0 : w.alloc (.cells #[.int .i64 k, .string (tx t), .int .u64 u, .slice A n c, .int .u64 o, .int .u64 m, .string (tx g)] 25) = W0 at *
  clear hW0
  go_loopw [3, 4] (fun v idx wr => ∃ i : Nat, i ≤ n ∧ idx = .int .i64 (i : Int) ∧ Own wr (w.heap.size + 1) v (t :: (names l).take i) ∧ Below (w.heap.size + 1) W0 wr) (fun v idx wr => n - (intOf idx).toNat)
  case atStart => exact ⟨0, by omega, rfl, by simpa [Own, tsv] using HO0.out, HS0.out⟩
  case round =>
    obtain ⟨i, hi, rfl, ho, hb⟩ := hrel
    have HO := Lib.hid ho
    have HBS := Lib.hid hb
    have HBR := Lib.hid (HB0.out.trans (hb.mono (by omega)))
    have hnl : (names l).length = n := by unfold names; rw [List.length_map]; exact HL.out
    have hlen : (t :: (names l).take i).length = i + 1 := by rw [List.length_cons, List.length_take]; omega
    have q3 := (hb.cell (p := ⟨w.heap.size, 3, none⟩) (show w.heap.size < w.heap.size + 1 by omega)).trans (at_cell (i := 3) H0.out rfl)
    have q6 := (hb.cell (p := ⟨w.heap.size, 6, none⟩) (show w.heap.size < w.heap.size + 1 by omega)).trans (at_cell (i := 6) H0.out rfl)
    have hwr : w.heap.size + 1 ≤ wr.heap.size := by have := hb.size; have := HZ.out; omega
    have HWR := Lib.hid hwr
    by_cases hlt : i < n
    · obtain ⟨x, hx⟩ : ∃ x, l[i]? = some x := ⟨_, List.getElem?_eq_getElem (by rw [HL.out]; exact hlt)⟩
      obtain ⟨ad, rfl, _, hcx⟩ := (H1.out.below HBR.out).2 (by omega)
      obtain ⟨x0, x1, x2⟩ := dps_at l i x hx
      have k0 := hcx _ _ x0
      have htk : Hid ((t :: (names l).take i) ++ [x.name] = t :: (names l).take (i + 1)) := by
        show _ = _
        rw [List.take_add_one]; unfold names; rw [List.getElem?_map, hx]; rfl
      have hown := ho; unfold Own at hown; rw [hlen] at hown
      have HOW := Lib.hid hown
      have hi0 : (0 : Int) ≤ (i : Int) := by omega
      have hi1 : (i : Int) < (n : Int) := by omega
      obtain ⟨xn, xh, xo⟩ := x
      unfold rsv at k0
      simp only at k0 htk
      clear hcx x0 x1 x2 hx ho hb hown hnl hlen
      go_wp2_with (at_builtin; refine wpList_append_own _ rfl (.tmp 15) (.tmp 22) 30 rfl (w.heap.size + 1) 9 is (.string { data := #[] }) 1 16 Try.underlying30 his his0 his1 his2 rfl (by decide) _ (i + 1) _ rfl (HOW.out.alloc _) ⟨wr.heap.size, 0, none⟩ 1 1 [.string (tx xn)] rfl rfl (cell_one_new _ _ _) (by simp [Value.oneCell']) (by unfold maxLen; omega) (by omega) (by have := HWR.out; simp; omega) ?_; intro v3 w3 ho3 hg3 _; have HO3 := Lib.hid ho3; have HG3 := Lib.hid hg3; clear ho3 hg3)
      refine ⟨⟨i + 1, by omega, by go_num, ?_, (HBS.out.alloc HWR.out _).grown HG3.out (by simp; have := HWR.out; omega) (own_block HOW.out)⟩, by simp [intOf]; omega⟩
      have h4 := HO3.out
      unfold Own
      rw [← htk.out, List.length_append, List.map_append]
      have hnl : (names l).length = n := by unfold names; rw [List.length_map]; exact HL.out
      rw [show (t :: (names l).take i).length = i + 1 from by rw [List.length_cons, List.length_take]; omega]
      exact h4
    · obtain rfl : i = n := by omega
      rw [List.take_of_length_le (by omega)] at ho hlen
      have hown := ho; unfold Own at hown; rw [hlen] at hown
      have HOW := Lib.hid hown
      by_cases hg : g = []
      · subst hg
        have he : (tx ([] : List UInt8)).toList = [] := by simp [tx]
        have hT : Hid (tnew (t :: names l) = rnames ⟨k, t, u, o, m, []⟩ l) := by show _ = _; unfold rnames; simp
        obtain ⟨A2, c2, rfl, _, hr2⟩ := own_reads hown
        have HNEW := Lib.hid (rnew_any A2 (i + 1) c2 (t :: names l) (by omega) wr hr2)
        rw [hT.out] at HNEW
        clear ho hb hown hnl hlen hr2
        go_wp2_with (go_at_call 25; refine HNEW.out.mono ?_; rintro e w4 ⟨v4, rfl, ho4, hb4⟩)
        go_ret
        exact ⟨v4, rfl, ho4.less (by have := HWR.out; omega), HBR.out.trans (hb4.mono (by have := HWR.out; omega))⟩
      · have he := tx_empty g hg
        have hT : Hid (tnew (t :: names l ++ [g]) = rnames ⟨k, t, u, o, m, g⟩ l) := by show _ = _; unfold rnames; simp only [if_neg hg]
        clear ho hb hown hnl hlen hg
        go_wp2_with (first
          | (go_at_call 25; have hk := HB3.out.size; refine HNEW.out.mono ?_; rintro e w4 ⟨v4, rfl, ho4, hb4⟩)
          | (at_builtin; refine wpList_append_own _ rfl (.tmp 27) (.tmp 30) 30 rfl (w.heap.size + 1) 9 is (.string { data := #[] }) 1 16 Try.underlying30 his his0 his1 his2 rfl (by decide) _ (i + 1) _ rfl (HOW.out.alloc _) ⟨wr.heap.size, 0, none⟩ 1 1 [.string (tx g)] rfl rfl (cell_one_new _ _ _) (by simp [Value.oneCell']) (by unfold maxLen; omega) (by omega) (by have := HWR.out; simp; omega) ?_; intro v3 w3 ho3 hg3 _; have HB3 := Lib.hid ((HBR.out.alloc HBR.out.size (.cells #[.string (tx g)] 9)).grown hg3 (by simp; have := HWR.out; omega) (fun g hg => by have := own_block HOW.out g hg; omega)); obtain ⟨A3, c3, rfl, _, hr3⟩ := own_reads ho3; rw [show (t :: names l).map tsv ++ [.string (tx g)] = (t :: names l ++ [g]).map tsv from by simp [tsv]] at hr3; have HNEW := Lib.hid (rnew_any A3 (i + 1 + 1) c3 (t :: names l ++ [g]) (by omega) w3 hr3); rw [hT.out] at HNEW; clear ho3 hg3 hr3))
        go_ret
        exact ⟨v4, rfl, ho4.less HB3.out.size, HB3.out.trans (hb4.mono HB3.out.size)⟩

end Go.Proofs.Ytigkpcildopmfaa
