/- Texts of one proof, one behind the other. -/
import Derived.Test.YtidkahmjjknkmaaMh21
import Derived.Test.YtidkahmjjknkmaaMh22
import Derived.Test.YtidkahmjjknkmaaMh23
import Derived.Test.YtidkahmjjknkmaaMh24
import Derived.Test.YtidkahmjjknkmaaMh10
import Derived.Test.YtidkahmjjknkmaaMh15
import Derived.Test.YtidkahmjjknkmaaMh11

/- The document's May. -/
namespace Go.Proofs.Ytidkahmjjknkmaa
open Go.RowKit

set_option maxRecDepth 100000 in
set_option maxHeartbeats 2000000 in
theorem rmay_anyB (v : Int) (r : Rc) (A : Option Addr) (n c : Nat) (l : List Dp) (hn : n ≤ 100000) (hfit : Fits r l) (w : World) (h : Reads w w.heap.size 3 A n (dps l)) :
    Calls Try.prog 24 #[.int .i64 v, rcv r A n c] w fun e w' => Tells (MayP v r l) e ∧ Below w.heap.size w w' := by
  have HL : Hid (l.length = n) := by have := h.1; rw [dps_len] at this; show _ = _; omega
  have H1 := Lib.hid h
  have H0 := Lib.hid (one_new w (.cells (rcells r A n c) 26))
  have HB0 := Lib.hid ((Below.refl w.heap.size w).alloc (Nat.le_refl _) (.cells (rcells r A n c) 26))
  have HS0 : Hid (w.heap.size < (w.alloc (.cells (rcells r A n c) 26)).heap.size) := by show w.heap.size < _; simp
  obtain ⟨k, t, u, o, m, g⟩ := r
  have hst := tx_size0 t
  have hsg := tx_size0 g
  obtain ⟨hft, hfg, hfd⟩ := hfit
  have HFD := Lib.hid hfd
  have HNAME := Lib.hid (rname_any t)
  have q0 := at_cell (i := 0) H0.out rfl
  have q1 := at_cell (i := 1) H0.out rfl
  have q2 := at_cell (i := 2) H0.out rfl
  have q3 := at_cell (i := 3) H0.out rfl
  have q4 := at_cell (i := 4) H0.out rfl
  have q5 := at_cell (i := 5) H0.out rfl
  have q6 := at_cell (i := 6) H0.out rfl
  unfold maxLen at hft hfg
  simp only at hft hfg
  have HH := Lib.hid h
  have HFIT : Hid (Fits ⟨k, t, u, o, m, g⟩ l) := ⟨hft, hfg, hfd⟩
  clear h hfd
  unfold rcells at *
  unfold rcv rsv at *
  by_cases hv1 : v < 1
  · have d1 : decide (v < 1) = true := decide_eq_true hv1
    have HP : Hid (¬ MayP v ⟨k, t, u, o, m, g⟩ l) := fun h => by have := h.1; omega
    go_enter Try.func24, Try.ntmps24
    go_wp2
    go_ret
    exact ⟨tells_false HP.out, HB0.out⟩
  have d1 : decide (v < 1) = false := decide_eq_false hv1
  by_cases hv3 : 3 < v
  · have d3 : decide (v > 3) = true := decide_eq_true hv3
    have HP : Hid (¬ MayP v ⟨k, t, u, o, m, g⟩ l) := fun h => by have := h.2.1; omega
    go_enter Try.func24, Try.ntmps24
    go_wp2
    go_ret
    exact ⟨tells_false HP.out, HB0.out⟩
  have d3 : decide (v > 3) = false := decide_eq_false hv3
  cases hq : isName t
  · rw [hq] at HNAME
    have HP : Hid (¬ MayP v ⟨k, t, u, o, m, g⟩ l) := fun h => by have h2 : isName t = true := h.2.2.1; rw [hq] at h2; cases h2
    go_enter Try.func24, Try.ntmps24
    go_wp2_with (go_at_call 53; refine (HNAME.out _).mono ?_; rintro e w2 ⟨rfl, rfl⟩)
    go_ret
    exact ⟨tells_false HP.out, HB0.out⟩
  rw [hq] at HNAME
  by_cases hk2 : k = 2
  · subst hk2
    by_cases hu : u = 0
    · subst hu
      by_cases hn0 : n = 0
      · subst hn0
        by_cases ho : o = 0
        · subst ho
          by_cases hm : m = 0
          · subst hm
            by_cases hg : g = []
            · subst hg
              have he : (tx ([] : List UInt8)).toList = [] := by simp [tx]
              have HP : Hid (MayP v ⟨2, t, 0, 0, 0, []⟩ l) := ⟨by omega, by omega, hq, .inr ⟨rfl, rfl, List.eq_nil_of_length_eq_zero HL.out⟩⟩
              go_enter Try.func24, Try.ntmps24
              go_wp2_with (go_at_call 53; refine (HNAME.out _).mono ?_; rintro e w2 ⟨rfl, rfl⟩)
              go_ret
              exact ⟨tells_true HP.out, HB0.out⟩
            · have he := tx_empty g hg
              have HP : Hid (¬ MayP v ⟨2, t, 0, 0, 0, g⟩ l) := fun h => by rcases h.2.2.2 with h | h; exact absurd h.1 (by simp); have h2 := h.2; exact hg (by have h3 := h2.1; injection h3)
              go_enter Try.func24, Try.ntmps24
              go_wp2_with (go_at_call 53; refine (HNAME.out _).mono ?_; rintro e w2 ⟨rfl, rfl⟩)
              go_ret
              exact ⟨tells_false HP.out, HB0.out⟩
          · have em : decide (m = 0) = false := decide_eq_false hm
            have fm : (m == 0) = false := by rw [beq_eq_false_iff_ne]; exact hm
            have HP : Hid (¬ MayP v ⟨2, t, 0, 0, m, g⟩ l) := fun h => by rcases h.2.2.2 with h | h; exact absurd h.1 (by simp); have h2 := h.2; exact hm (by have h3 := h2.1; injection h3)
            go_enter Try.func24, Try.ntmps24
            go_wp2_with (go_at_call 53; refine (HNAME.out _).mono ?_; rintro e w2 ⟨rfl, rfl⟩)
            go_ret
            exact ⟨tells_false HP.out, HB0.out⟩
        · have eo : decide (o = 0) = false := decide_eq_false ho
          have fo : (o == 0) = false := by rw [beq_eq_false_iff_ne]; exact ho
          have HP : Hid (¬ MayP v ⟨2, t, 0, o, m, g⟩ l) := fun h => by rcases h.2.2.2 with h | h; exact absurd h.1 (by simp); have h2 := h.2; exact ho (by have h3 := h2.1; injection h3)
          go_enter Try.func24, Try.ntmps24
          go_wp2_with (go_at_call 53; refine (HNAME.out _).mono ?_; rintro e w2 ⟨rfl, rfl⟩)
          go_ret
          exact ⟨tells_false HP.out, HB0.out⟩
      · have e6 : decide ((n : Int) = 0) = false := decide_eq_false (by omega)
        have f6 : ((n : Int) == 0) = false := by rw [beq_eq_false_iff_ne]; omega
        have HP : Hid (¬ MayP v ⟨2, t, 0, o, m, g⟩ l) := fun h => by rcases h.2.2.2 with h | h; exact absurd h.1 (by simp); have h2 := h.2; exact hn0 (by rw [← HL.out, h2.2]; rfl)
        go_enter Try.func24, Try.ntmps24
        go_wp2_with (go_at_call 53; refine (HNAME.out _).mono ?_; rintro e w2 ⟨rfl, rfl⟩)
        go_ret
        exact ⟨tells_false HP.out, HB0.out⟩
    · have eu : decide (u = 0) = false := decide_eq_false hu
      have fu : (u == 0) = false := by rw [beq_eq_false_iff_ne]; exact hu
      have HP : Hid (¬ MayP v ⟨2, t, u, o, m, g⟩ l) := fun h => by rcases h.2.2.2 with h | h; exact absurd h.1 (by simp); have h2 := h.2; exact hu (by have h3 := h2.1; injection h3)
      go_enter Try.func24, Try.ntmps24
      go_wp2_with (go_at_call 53; refine (HNAME.out _).mono ?_; rintro e w2 ⟨rfl, rfl⟩)
      go_ret
      exact ⟨tells_false HP.out, HB0.out⟩
  have dk2 : decide (k = 2) = false := decide_eq_false hk2
  have ek2 : (k == 2) = false := by rw [beq_eq_false_iff_ne]; exact hk2
  by_cases hk1 : k = 1
  · subst hk1
    clear hk2 dk2 ek2
    by_cases h16 : 16 < n
    · have d16 : decide ((n : Int) > 16) = true := decide_eq_true (by omega)
      have HP : Hid (¬ MayP v ⟨1, t, u, o, m, g⟩ l) := fun h => by rcases h.2.2.2 with h | h; have h3 := h.2.2.2.1; rw [HL.out] at h3; omega; exact absurd h.1 (by simp)
      go_enter Try.func24, Try.ntmps24
      go_wp2_with (go_at_call 53; refine (HNAME.out _).mono ?_; rintro e w2 ⟨rfl, rfl⟩)
      go_ret
      exact ⟨tells_false HP.out, HB0.out⟩
    have d16 : decide ((n : Int) > 16) = false := decide_eq_false (by omega)
    obtain ⟨x, hx⟩ : ∃ x, x = g.length := ⟨_, rfl⟩
    rw [← hx] at hsg hfg
    have HX := Lib.hid hx
    clear hx
    by_cases h64 : 64 < x
    · have d64 : decide ((x : Int) > 64) = true := decide_eq_true (by omega)
      have HP : Hid (¬ MayP v ⟨1, t, u, o, m, g⟩ l) := fun h => by rcases h.2.2.2 with h | h; rcases h.2.2.1 with h3 | h3; (have h4 := HX.out; simp only at h3; rw [h3] at h4; simp at h4; omega); (have h4 := HX.out; have h5 := h3.2; simp only at h5; omega); exact absurd h.1 (by simp)
      go_enter Try.func24, Try.ntmps24
      go_wp2_with (go_at_call 53; refine (HNAME.out _).mono ?_; rintro e w2 ⟨rfl, rfl⟩)
      go_ret
      exact ⟨tells_false HP.out, HB0.out⟩
    have d64 : decide ((x : Int) > 64) = false := decide_eq_false (by omega)
    by_cases hT : TimeP v ⟨1, t, u, o, m, g⟩
    rotate_left
    · have hm : m ≠ 0 := fun h => hT (.inl h)
      have hv : v = 1 := by have h2 : ¬ 2 ≤ v := fun h => hT (.inr h); omega
      subst hv
      have em : (m != 0) = true := by rw [bne_iff_ne]; exact hm
      have em2 : decide (m = 0) = false := decide_eq_false hm
      have em3 : (m == 0) = false := by rw [beq_eq_false_iff_ne]; exact hm
      have HP : Hid (¬ MayP 1 ⟨1, t, u, o, m, g⟩ l) := fun h => by rcases h.2.2.2 with h | h; exact hT h.2.1; exact absurd h.1 (by simp)
      go_enter Try.func24, Try.ntmps24
      go_wp2_with (go_at_call 53; refine (HNAME.out _).mono ?_; rintro e w2 ⟨rfl, rfl⟩)
      go_ret
      exact ⟨tells_false HP.out, HB0.out⟩
    by_cases hG : TagP v ⟨1, t, u, o, m, g⟩
    rotate_left
    · have hg : g ≠ [] := fun h => hG (.inl h)
      have hv : v < 3 := by
        rcases Int.lt_or_le v 3 with h3 | h3
        · exact h3
        · exact absurd (.inr ⟨h3, by have := HX.out; simp only; omega⟩) hG
      have he := tx_empty g hg
      have dv3 : decide (v < 3) = true := decide_eq_true hv
      have HP : Hid (¬ MayP v ⟨1, t, u, o, m, g⟩ l) := fun h => by rcases h.2.2.2 with h | h; exact hG h.2.2.1; exact absurd h.1 (by simp)
      by_cases hv1' : v = 1
      · have hm : m = 0 := by
          rcases hT with h | h
          · exact h
          · omega
        subst hv1'; subst hm
        clear hT hG
        go_enter Try.func24, Try.ntmps24
        go_wp2_with (go_at_call 53; refine (HNAME.out _).mono ?_; rintro e w2 ⟨rfl, rfl⟩)
        go_ret
        exact ⟨tells_false HP.out, HB0.out⟩
      · have ev : decide (v = 1) = false := decide_eq_false hv1'
        have ev2 : (v == 1) = false := by rw [beq_eq_false_iff_ne]; exact hv1'
        clear hT hG
        go_enter Try.func24, Try.ntmps24
        go_wp2_with (go_at_call 53; refine (HNAME.out _).mono ?_; rintro e w2 ⟨rfl, rfl⟩)
        go_ret
        exact ⟨tells_false HP.out, HB0.out⟩
    rcases hG with hg | hg
    · simp only at hg
      subst hg
      rcases hT with hm | hm
      · simp only at hm
        subst hm
        by_cases hv1' : v = 1
        · subst hv1'
          exact rmay_l1 t u o A n c l (by omega) HFIT.out hq (by omega) w HH.out
        · by_cases hv2' : v = 2
          · subst hv2'
            exact rmay_l2 t u o 0 A n c l (by omega) HFIT.out hq (by omega) w HH.out
          · obtain rfl : v = 3 := by omega
            exact rmay_l3 t u o 0 A n c l (by omega) HFIT.out hq (by omega) w HH.out
      · by_cases hv2' : v = 2
        · subst hv2'
          exact rmay_l2 t u o m A n c l (by omega) HFIT.out hq (by omega) w HH.out
        · obtain rfl : v = 3 := by omega
          exact rmay_l3 t u o m A n c l (by omega) HFIT.out hq (by omega) w HH.out
    · obtain rfl : v = 3 := by have := hg.1; omega
      by_cases hge : g = []
      · subst hge
        exact rmay_l3 t u o m A n c l (by omega) HFIT.out hq (by omega) w HH.out
      · exact rmay_l4 t u o m g A n c l (by omega) HFIT.out hq (by omega) hge hg.2 w HH.out
  · have dk1 : (k != 1) = true := by rw [bne_iff_ne]; exact hk1
    have dk3 : decide (k = 1) = false := decide_eq_false hk1
    have dk4 : (k == 1) = false := by rw [beq_eq_false_iff_ne]; exact hk1
    have HP : Hid (¬ MayP v ⟨k, t, u, o, m, g⟩ l) := fun h => by rcases h.2.2.2 with h | h; exact hk1 h.1; exact hk2 h.1
    go_enter Try.func24, Try.ntmps24
    go_wp2_with (go_at_call 53; refine (HNAME.out _).mono ?_; rintro e w2 ⟨rfl, rfl⟩)
    go_ret
    exact ⟨tells_false HP.out, HB0.out⟩
theorem rmay_any (v : Int) (r : Rc) (A : Option Addr) (n c : Nat) (l : List Dp) (hn : n ≤ 1000) (hfit : Fits r l) (w : World) (h : Reads w w.heap.size 3 A n (dps l)) :
    Calls Try.prog 24 #[.int .i64 v, rcv r A n c] w fun e w' => Tells (MayP v r l) e ∧ Below w.heap.size w w' :=
  rmay_anyB v r A n c l (by omega) hfit w h

end Go.Proofs.Ytidkahmjjknkmaa

/- The document's Names. -/
namespace Go.Proofs.Ytidkahmjjknkmaa
open Go.RowKit

set_option maxRecDepth 100000 in
set_option maxHeartbeats 2000000 in
theorem rnames_any (r : Rc) (A : Option Addr) (n c : Nat) (l : List Dp) (hn : n ≤ 1000) (w : World) (h : Reads w w.heap.size 3 A n (dps l)) :
    Calls Try.prog 25 #[rcv r A n c] w fun e w' => ∃ v, e = .returned v ∧ Own w' w.heap.size v (rnames r l) ∧ Below w.heap.size w w' := by
  obtain ⟨is, his, his0, his1, his2⟩ := info_parts tinfo
  have HL : Hid (l.length = n) := by have := h.1; rw [dps_len] at this; show _ = _; omega
  have hz : (w.alloc (.cells (rcells r A n c) 26)).heap.size = w.heap.size + 1 := by simp
  have h0 := one_new w (.cells (rcells r A n c) 26)
  have HB0 := Lib.hid ((Below.refl w.heap.size w).alloc (Nat.le_refl _) (.cells (rcells r A n c) 26))
  have HO0 : Hid (((w.alloc (.cells (rcells r A n c) 26)).alloc (.cells #[.string (tx r.target)] 9)).ownsRow (w.heap.size + 1) 9 1 (.slice (some ⟨w.heap.size + 1, 0, none⟩) 1 1) 1 [.string (tx r.target)]) :=
    ownsRow_of_block (cs := [.string (tx r.target)]) (Nat.le_refl _) (by have := one_new (w.alloc (.cells (rcells r A n c) 26)) (.cells #[.string (tx r.target)] 9); rw [hz] at this; exact this) (Nat.le_refl _) (by unfold maxLen; omega) rfl rfl
  have HS0 : Hid (Below (w.heap.size + 1) (w.alloc (.cells (rcells r A n c) 26)) ((w.alloc (.cells (rcells r A n c) 26)).alloc (.cells #[.string (tx r.target)] 9))) := (Below.refl _ _).alloc (by rw [hz]; exact Nat.le_refl _) _
  have H1 := Lib.hid h
  have H0 := Lib.hid h0
  have HZ := Lib.hid hz
  have q1 := at_cell (i := 1) h0 rfl
  obtain ⟨k, t, u, o, m, g⟩ := r
  clear h h0 hz
  unfold rcells at *
  unfold rcv rsv
  go_enter Try.func25, Try.ntmps25
  go_wp2
  generalize hW0 : w.alloc (.cells #[.int .i64 k, .string (tx t), .int .u64 u, .slice A n c, .int .u64 o, .int .u64 m, .string (tx g)] 26) = W0 at *
  clear hW0
  go_loopw [3, 4] (fun v idx wr => ∃ i : Nat, i ≤ n ∧ idx = .int .i64 (i : Int) ∧ Own wr (w.heap.size + 1) v (t :: (names l).take i) ∧ Below (w.heap.size + 1) W0 wr) (fun v idx wr => n - (intOf idx).toNat)
  case atStart => exact ⟨0, by omega, rfl, by simpa [Own, tsv] using HO0.out, HS0.out⟩
  case round =>
    obtain ⟨i, hi, rfl, ho, hb⟩ := hrel
    have HO := Lib.hid ho
    have HBS := Lib.hid hb
    have HBR := Lib.hid (HB0.out.trans (hb.mono (by omega)))
    have hnl : (names l).length = n := by unfold names; rw [List.length_map]; exact HL.out
    have hlen : (t :: (names l).take i).length = i + 1 := by rw [List.length_cons, List.length_take]; omega
    have q3 := (hb.cell (p := ⟨w.heap.size, 3, none⟩) (show w.heap.size < w.heap.size + 1 by omega)).trans (at_cell (i := 3) H0.out rfl)
    have q6 := (hb.cell (p := ⟨w.heap.size, 6, none⟩) (show w.heap.size < w.heap.size + 1 by omega)).trans (at_cell (i := 6) H0.out rfl)
    have hwr : w.heap.size + 1 ≤ wr.heap.size := by have := hb.size; have := HZ.out; omega
    have HWR := Lib.hid hwr
    by_cases hlt : i < n
    · obtain ⟨x, hx⟩ : ∃ x, l[i]? = some x := ⟨_, List.getElem?_eq_getElem (by rw [HL.out]; exact hlt)⟩
      obtain ⟨ad, rfl, _, hcx⟩ := (H1.out.below HBR.out).2 (by omega)
      obtain ⟨x0, x1, x2⟩ := dps_at l i x hx
      have k0 := hcx _ _ x0
      have htk : Hid ((t :: (names l).take i) ++ [x.name] = t :: (names l).take (i + 1)) := by
        show _ = _
        rw [List.take_add_one]; unfold names; rw [List.getElem?_map, hx]; rfl
      have hown := ho; unfold Own at hown; rw [hlen] at hown
      have HOW := Lib.hid hown
      have hi0 : (0 : Int) ≤ (i : Int) := by omega
      have hi1 : (i : Int) < (n : Int) := by omega
      obtain ⟨xn, xh, xo⟩ := x
      unfold rsv at k0
      simp only at k0 htk
      clear hcx x0 x1 x2 hx ho hb hown hnl hlen
      go_wp2_with (at_builtin; refine wpList_append_own _ rfl (.tmp 15) (.tmp 22) 22 rfl (w.heap.size + 1) 9 is (.string { data := #[] }) 1 16 Try.underlying22 his his0 his1 his2 rfl (by decide) _ (i + 1) _ rfl (HOW.out.alloc _) ⟨wr.heap.size, 0, none⟩ 1 1 [.string (tx xn)] rfl rfl (cell_one_new _ _ _) (by simp [Value.oneCell']) (by unfold maxLen; omega) (by omega) (by have := HWR.out; simp; omega) ?_; intro v3 w3 ho3 hg3 _; have HO3 := Lib.hid ho3; have HG3 := Lib.hid hg3; clear ho3 hg3)
      refine ⟨⟨i + 1, by omega, by go_num, ?_, (HBS.out.alloc HWR.out _).grown HG3.out (by simp; have := HWR.out; omega) (own_block HOW.out)⟩, by simp [intOf]; omega⟩
      have h4 := HO3.out
      unfold Own
      rw [← htk.out, List.length_append, List.map_append]
      have hnl : (names l).length = n := by unfold names; rw [List.length_map]; exact HL.out
      rw [show (t :: (names l).take i).length = i + 1 from by rw [List.length_cons, List.length_take]; omega]
      exact h4
    · obtain rfl : i = n := by omega
      rw [List.take_of_length_le (by omega)] at ho hlen
      have hown := ho; unfold Own at hown; rw [hlen] at hown
      have HOW := Lib.hid hown
      by_cases hg : g = []
      · subst hg
        have he : (tx ([] : List UInt8)).toList = [] := by simp [tx]
        have hT : Hid (tnew (t :: names l) = rnames ⟨k, t, u, o, m, []⟩ l) := by show _ = _; unfold rnames; simp
        obtain ⟨A2, c2, rfl, _, hr2⟩ := own_reads hown
        have HNEW := Lib.hid (rnew_any A2 (i + 1) c2 (t :: names l) (by omega) wr hr2)
        rw [hT.out] at HNEW
        clear ho hb hown hnl hlen hr2
        go_wp2_with (go_at_call 12; refine HNEW.out.mono ?_; rintro e w4 ⟨v4, rfl, ho4, hb4⟩)
        go_ret
        exact ⟨v4, rfl, ho4.less (by have := HWR.out; omega), HBR.out.trans (hb4.mono (by have := HWR.out; omega))⟩
      · have he := tx_empty g hg
        have hT : Hid (tnew (t :: names l ++ [g]) = rnames ⟨k, t, u, o, m, g⟩ l) := by show _ = _; unfold rnames; simp only [if_neg hg]
        clear ho hb hown hnl hlen hg
        go_wp2_with (first
          | (go_at_call 12; have hk := HB3.out.size; refine HNEW.out.mono ?_; rintro e w4 ⟨v4, rfl, ho4, hb4⟩)
          | (at_builtin; refine wpList_append_own _ rfl (.tmp 27) (.tmp 30) 22 rfl (w.heap.size + 1) 9 is (.string { data := #[] }) 1 16 Try.underlying22 his his0 his1 his2 rfl (by decide) _ (i + 1) _ rfl (HOW.out.alloc _) ⟨wr.heap.size, 0, none⟩ 1 1 [.string (tx g)] rfl rfl (cell_one_new _ _ _) (by simp [Value.oneCell']) (by unfold maxLen; omega) (by omega) (by have := HWR.out; simp; omega) ?_; intro v3 w3 ho3 hg3 _; have HB3 := Lib.hid ((HBR.out.alloc HBR.out.size (.cells #[.string (tx g)] 9)).grown hg3 (by simp; have := HWR.out; omega) (fun g hg => by have := own_block HOW.out g hg; omega)); obtain ⟨A3, c3, rfl, _, hr3⟩ := own_reads ho3; rw [show (t :: names l).map tsv ++ [.string (tx g)] = (t :: names l ++ [g]).map tsv from by simp [tsv]] at hr3; have HNEW := Lib.hid (rnew_any A3 (i + 1 + 1) c3 (t :: names l ++ [g]) (by omega) w3 hr3); rw [hT.out] at HNEW; clear ho3 hg3 hr3))
        go_ret
        exact ⟨v4, rfl, ho4.less HB3.out.size, HB3.out.trans (hb4.mono HB3.out.size)⟩

end Go.Proofs.Ytidkahmjjknkmaa

/- The document's way to lay a text; which rows stay apart. -/
namespace Go.Proofs.Ytidkahmjjknkmaa
open Go.RowKit

theorem tplace_in {l : List (List UInt8)} {s : List UInt8} (h : s ∈ l) : tplace l s = (tnum l s : Int) := by
  unfold tplace tnum
  rw [if_pos h]
  simp [h]
theorem tplace_out {l : List (List UInt8)} {s : List UInt8} (h : s ∉ l) : tplace l s = -1 := by
  unfold tplace
  rw [if_neg h]

set_option maxRecDepth 100000 in
theorem doctext_any (ver : Int) (hv : 1 ≤ ver) (L : Option Addr) (n c : Nat) (l : List (List UInt8)) (s : List UInt8) (hs : s.length ≤ 300) (hin : ver < 2 ∨ s ∈ l) (hl : l.length ≤ 1000000) (w : World) (hr : Reads w w.heap.size 1 L n (l.map tsv)) :
    Calls Try.prog 29 #[.int .i64 ver, .slice L n c, .string (tx s)] w fun e w' => e = .returned (.string (tx (nmB ver l s))) ∧ Below w.heap.size w w' := by
  have hn : n ≤ 1000000 := by have := hr.1; simp at this; omega
  by_cases h1 : ver < 2
  · obtain rfl : ver = 1 := by omega
    have he : nmB 1 l s = blob s := by unfold nmB; rw [if_pos (by omega)]
    rw [he]
    have HP := Lib.hid (fun W => rbput_any s (by omega) W)
    go_enter Try.func29, Try.ntmps29
    go_wp2_with fail
    refine (HP.out _).mono ?_
    rintro e w3 ⟨rfl, hb3⟩
    go_wp2
    go_ret
    exact ⟨rfl, hb3⟩
  · have hin' : s ∈ l := hin.resolve_left h1
    have he : nmB ver l s = vb (tnum l s) := by unfold nmB; rw [if_neg h1]
    rw [he]
    have hlt := tnum_lt hin'
    have hpl := place_any L n c l s (by omega) w hr
    rw [tplace_in hin'] at hpl
    have hput := fun W => refput_any (tnum l s) (by unfold top; omega) W
    generalize tnum l s = k at *
    have HP := Lib.hid hpl
    have HU := Lib.hid hput
    unfold tsv at HP
    have h2 : (ver == 1) = false := by rw [beq_eq_false_iff_ne]; omega
    have hk0 : (0 : Int) ≤ (k : Int) := by omega
    have hk1 : (k : Int) ≤ 1000000 := by omega
    clear hpl hput he hr hin
    go_enter Try.func29, Try.ntmps29
    go_wp2_with fail
    refine HP.out.mono ?_
    rintro e w3 ⟨rfl, rfl⟩
    go_wp2_with fail
    refine (HU.out _).mono ?_
    rintro e w4 ⟨rfl, hb4⟩
    go_wp2
    go_ret
    exact ⟨rfl, hb4⟩

theorem apart_told {w : World} {b n size : Nat} {e : TypeId} {v v' x : Value} {xs : List Value} (h : Apart v x) (hx : w.ownsRow b e size x n xs) (hv : v'.ownBlock = v.ownBlock ∨ v'.ownBlock = some w.heap.size) : Apart v' x := by
  intro g hg h2
  rcases hv with e | e
  · exact h g (e ▸ hg) h2
  · rw [e] at hg
    obtain rfl : w.heap.size = g := by simpa using hg
    have := own_lt hx _ h2
    omega
theorem apart_up {w : World} {b n size : Nat} {e : TypeId} {v x : Value} {xs : List Value} (hv : w.ownsRow b e size v n xs) (hx : ∀ g, x.ownBlock = some g → w.heap.size ≤ g) : Apart v x := by
  intro g hg h2
  have h3 := own_lt hv g hg
  have h4 := hx g h2
  omega

/-- At a round over a record's names: the payloads so far, and the table. -/
def DnRel (B0 B : Nat) (W0 : World) (tl ns : List (List UInt8)) (vn v1 v9 v11 : Value) (wr : World) : Prop :=
  ∃ (i : Nat) (a1 a9 : Value), a1 = v1 ∧ a9 = v9 ∧ i ≤ ns.length ∧ v11 = .int .i64 (i : Int) ∧ Own wr B0 a1 ((ns.take i).foldl tput tl) ∧ Own wr B a9 (freshL tl (ns.take i)) ∧ Own wr 0 vn ns ∧ Apart a9 a1 ∧ Apart a9 vn ∧ Below B W0 wr

theorem nm_in {B0 B : Nat} {wr : World} {tl ns : List (List UInt8)} {a1 a9 : Value} {i : Nat} {s : List UInt8} (hs : ns[i]? = some s) (hin : s ∈ (ns.take i).foldl tput tl) (h1 : Own wr B0 a1 ((ns.take i).foldl tput tl)) (h2 : Own wr B a9 (freshL tl (ns.take i))) :
    Own wr B0 a1 ((ns.take (i + 1)).foldl tput tl) ∧ Own wr B a9 (freshL tl (ns.take (i + 1))) := by
  have e1 : (ns.take (i + 1)).foldl tput tl = (ns.take i).foldl tput tl := by rw [List.take_add_one, hs, List.foldl_append]; exact tput_in hin
  have e2 : freshL tl (ns.take (i + 1)) = freshL tl (ns.take i) := by rw [List.take_add_one, hs]; exact (freshL_snoc _ _ _).trans (by rw [if_pos hin, List.append_nil])
  rw [e1, e2]
  exact ⟨h1, h2⟩
theorem nm_new {tl ns : List (List UInt8)} {i : Nat} {s : List UInt8} (hs : ns[i]? = some s) (hin : s ∉ (ns.take i).foldl tput tl) :
    (ns.take (i + 1)).foldl tput tl = tput ((ns.take i).foldl tput tl) s ∧ freshL tl (ns.take (i + 1)) = freshL tl (ns.take i) ++ [0 :: s] := by
  have e1 : (ns.take (i + 1)).foldl tput tl = tput ((ns.take i).foldl tput tl) s := by rw [List.take_add_one, hs, List.foldl_append]; rfl
  have e2 : freshL tl (ns.take (i + 1)) = freshL tl (ns.take i) ++ [0 :: s] := by rw [List.take_add_one, hs]; exact (freshL_snoc _ _ _).trans (by rw [if_neg hin])
  exact ⟨e1, e2⟩

/-- At a round over a record's deps: what is laid so far. -/
def DqRel (ver : Int) (T : List (List UInt8)) (s : List UInt8) (l : List Dp) (ws : World) (v12 v13 : Value) (wr : World) : Prop :=
  ∃ j : Nat, j ≤ l.length ∧ v13 = .int .i64 (j : Int) ∧ v12 = .string (tx (s ++ (l.take j).flatMap (fDep ver T))) ∧ Below ws.heap.size ws wr
theorem dq_snoc {ver : Int} {T : List (List UInt8)} {s : List UInt8} {l : List Dp} {j : Nat} {x : Dp} (h : l[j]? = some x) : s ++ (l.take (j + 1)).flatMap (fDep ver T) = (s ++ (l.take j).flatMap (fDep ver T)) ++ fDep ver T x := by
  rw [List.take_add_one, h, List.flatMap_append]; simp

end Go.Proofs.Ytidkahmjjknkmaa
