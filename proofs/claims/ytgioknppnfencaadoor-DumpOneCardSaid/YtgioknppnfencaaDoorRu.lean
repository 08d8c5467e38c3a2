/- The document's May. -/
import Derived.Test.YtgioknppnfencaaDoorRuB1
import Derived.Test.YtgioknppnfencaaDoorRuB2
import Derived.Test.YtgioknppnfencaaDoorRuB3
import Derived.Test.YtgioknppnfencaaDoorRuB4
namespace Go.Proofs.YtgioknppnfencaaDoor
open Go.RowKit

set_option maxRecDepth 100000 in
set_option maxHeartbeats 2000000 in
theorem rmay_any (v : Int) (r : Rc) (A : Option Addr) (n c : Nat) (l : List Dp) (hn : n ≤ 1000) (hfit : Fits r l) (w : World) (h : Reads w w.heap.size 3 A n (dps l)) :
    Calls Tryd.prog 38 #[.int .i64 v, rcv r A n c] w fun e w' => Tells (MayP v r l) e ∧ Below w.heap.size w w' := by
  have HL : Hid (l.length = n) := by have := h.1; rw [dps_len] at this; show _ = _; omega
  have H1 := Lib.hid h
  have H0 := Lib.hid (one_new w (.cells (rcells r A n c) 35))
  have HB0 := Lib.hid ((Below.refl w.heap.size w).alloc (Nat.le_refl _) (.cells (rcells r A n c) 35))
  have HS0 : Hid (w.heap.size < (w.alloc (.cells (rcells r A n c) 35)).heap.size) := by show w.heap.size < _; simp
  obtain ⟨k, t, u, o, m, g⟩ := r
  have hst := tx_size0 t
  have hsg := tx_size0 g
  obtain ⟨hft, hfg, hfd⟩ := hfit
  have HFD := Lib.hid hfd
  have HNAME := Lib.hid (rname_any t)
  have q0 := at_cell (i := 0) H0.out rfl
  have q1 := at_cell (i := 1) H0.out rfl
  have q2 := at_cell (i := 2) H0.out rfl
  have q3 := at_cell (i := 3) H0.out rfl
  have q4 := at_cell (i := 4) H0.out rfl
  have q5 := at_cell (i := 5) H0.out rfl
  have q6 := at_cell (i := 6) H0.out rfl
  unfold maxLen at hft hfg
  simp only at hft hfg
  have HH := Lib.hid h
  have HFIT : Hid (Fits ⟨k, t, u, o, m, g⟩ l) := ⟨hft, hfg, hfd⟩
  clear h hfd
  unfold rcells at *
  unfold rcv rsv at *
  by_cases hv1 : v < 1
  · have d1 : decide (v < 1) = true := decide_eq_true hv1
    have HP : Hid (¬ MayP v ⟨k, t, u, o, m, g⟩ l) := fun h => by have := h.1; omega
    go_enter Tryd.func38, Tryd.ntmps38
    go_wp2
    go_ret
    exact ⟨tells_false HP.out, HB0.out⟩
  have d1 : decide (v < 1) = false := decide_eq_false hv1
  by_cases hv3 : 3 < v
  · have d3 : decide (v > 3) = true := decide_eq_true hv3
    have HP : Hid (¬ MayP v ⟨k, t, u, o, m, g⟩ l) := fun h => by have := h.2.1; omega
    go_enter Tryd.func38, Tryd.ntmps38
    go_wp2
    go_ret
    exact ⟨tells_false HP.out, HB0.out⟩
  have d3 : decide (v > 3) = false := decide_eq_false hv3
  cases hq : isName t
  · rw [hq] at HNAME
    have HP : Hid (¬ MayP v ⟨k, t, u, o, m, g⟩ l) := fun h => by have h2 : isName t = true := h.2.2.1; rw [hq] at h2; cases h2
    go_enter Tryd.func38, Tryd.ntmps38
    go_wp2_with (go_at_call 54; refine (HNAME.out _).mono ?_; rintro e w2 ⟨rfl, rfl⟩)
    go_ret
    exact ⟨tells_false HP.out, HB0.out⟩
  rw [hq] at HNAME
  by_cases hk2 : k = 2
  · subst hk2
    by_cases hu : u = 0
    · subst hu
      by_cases hn0 : n = 0
      · subst hn0
        by_cases ho : o = 0
        · subst ho
          by_cases hm : m = 0
          · subst hm
            by_cases hg : g = []
            · subst hg
              have he : (tx ([] : List UInt8)).toList = [] := by simp [tx]
              have HP : Hid (MayP v ⟨2, t, 0, 0, 0, []⟩ l) := ⟨by omega, by omega, hq, .inr ⟨rfl, rfl, List.eq_nil_of_length_eq_zero HL.out⟩⟩
              go_enter Tryd.func38, Tryd.ntmps38
              go_wp2_with (go_at_call 54; refine (HNAME.out _).mono ?_; rintro e w2 ⟨rfl, rfl⟩)
              go_ret
              exact ⟨tells_true HP.out, HB0.out⟩
            · have he := tx_empty g hg
              have HP : Hid (¬ MayP v ⟨2, t, 0, 0, 0, g⟩ l) := fun h => by rcases h.2.2.2 with h | h; exact absurd h.1 (by simp); have h2 := h.2; exact hg (by have h3 := h2.1; injection h3)
              go_enter Tryd.func38, Tryd.ntmps38
              go_wp2_with (go_at_call 54; refine (HNAME.out _).mono ?_; rintro e w2 ⟨rfl, rfl⟩)
              go_ret
              exact ⟨tells_false HP.out, HB0.out⟩
          · have em : decide (m = 0) = false := decide_eq_false hm
            have fm : (m == 0) = false := by rw [beq_eq_false_iff_ne]; exact hm
            have HP : Hid (¬ MayP v ⟨2, t, 0, 0, m, g⟩ l) := fun h => by rcases h.2.2.2 with h | h; exact absurd h.1 (by simp); have h2 := h.2; exact hm (by have h3 := h2.1; injection h3)
            go_enter Tryd.func38, Tryd.ntmps38
            go_wp2_with (go_at_call 54; refine (HNAME.out _).mono ?_; rintro e w2 ⟨rfl, rfl⟩)
            go_ret
            exact ⟨tells_false HP.out, HB0.out⟩
        · have eo : decide (o = 0) = false := decide_eq_false ho
          have fo : (o == 0) = false := by rw [beq_eq_false_iff_ne]; exact ho
          have HP : Hid (¬ MayP v ⟨2, t, 0, o, m, g⟩ l) := fun h => by rcases h.2.2.2 with h | h; exact absurd h.1 (by simp); have h2 := h.2; exact ho (by have h3 := h2.1; injection h3)
          go_enter Tryd.func38, Tryd.ntmps38
          go_wp2_with (go_at_call 54; refine (HNAME.out _).mono ?_; rintro e w2 ⟨rfl, rfl⟩)
          go_ret
          exact ⟨tells_false HP.out, HB0.out⟩
      · have e6 : decide ((n : Int) = 0) = false := decide_eq_false (by omega)
        have f6 : ((n : Int) == 0) = false := by rw [beq_eq_false_iff_ne]; omega
        have HP : Hid (¬ MayP v ⟨2, t, 0, o, m, g⟩ l) := fun h => by rcases h.2.2.2 with h | h; exact absurd h.1 (by simp); have h2 := h.2; exact hn0 (by rw [← HL.out, h2.2]; rfl)
        go_enter Tryd.func38, Tryd.ntmps38
        go_wp2_with (go_at_call 54; refine (HNAME.out _).mono ?_; rintro e w2 ⟨rfl, rfl⟩)
        go_ret
        exact ⟨tells_false HP.out, HB0.out⟩
    · have eu : decide (u = 0) = false := decide_eq_false hu
      have fu : (u == 0) = false := by rw [beq_eq_false_iff_ne]; exact hu
      have HP : Hid (¬ MayP v ⟨2, t, u, o, m, g⟩ l) := fun h => by rcases h.2.2.2 with h | h; exact absurd h.1 (by simp); have h2 := h.2; exact hu (by have h3 := h2.1; injection h3)
      go_enter Tryd.func38, Tryd.ntmps38
      go_wp2_with (go_at_call 54; refine (HNAME.out _).mono ?_; rintro e w2 ⟨rfl, rfl⟩)
      go_ret
      exact ⟨tells_false HP.out, HB0.out⟩
  have dk2 : decide (k = 2) = false := decide_eq_false hk2
  have ek2 : (k == 2) = false := by rw [beq_eq_false_iff_ne]; exact hk2
  by_cases hk1 : k = 1
  · subst hk1
    clear hk2 dk2 ek2
    by_cases h16 : 16 < n
    · have d16 : decide ((n : Int) > 16) = true := decide_eq_true (by omega)
      have HP : Hid (¬ MayP v ⟨1, t, u, o, m, g⟩ l) := fun h => by rcases h.2.2.2 with h | h; have h3 := h.2.2.2.1; rw [HL.out] at h3; omega; exact absurd h.1 (by simp)
      go_enter Tryd.func38, Tryd.ntmps38
      go_wp2_with (go_at_call 54; refine (HNAME.out _).mono ?_; rintro e w2 ⟨rfl, rfl⟩)
      go_ret
      exact ⟨tells_false HP.out, HB0.out⟩
    have d16 : decide ((n : Int) > 16) = false := decide_eq_false (by omega)
    obtain ⟨x, hx⟩ : ∃ x, x = g.length := ⟨_, rfl⟩
    rw [← hx] at hsg hfg
    have HX := Lib.hid hx
    clear hx
    by_cases h64 : 64 < x
    · have d64 : decide ((x : Int) > 64) = true := decide_eq_true (by omega)
      have HP : Hid (¬ MayP v ⟨1, t, u, o, m, g⟩ l) := fun h => by rcases h.2.2.2 with h | h; rcases h.2.2.1 with h3 | h3; (have h4 := HX.out; simp only at h3; rw [h3] at h4; simp at h4; omega); (have h4 := HX.out; have h5 := h3.2; simp only at h5; omega); exact absurd h.1 (by simp)
      go_enter Tryd.func38, Tryd.ntmps38
      go_wp2_with (go_at_call 54; refine (HNAME.out _).mono ?_; rintro e w2 ⟨rfl, rfl⟩)
      go_ret
      exact ⟨tells_false HP.out, HB0.out⟩
    have d64 : decide ((x : Int) > 64) = false := decide_eq_false (by omega)
    by_cases hT : TimeP v ⟨1, t, u, o, m, g⟩
    rotate_left
    · have hm : m ≠ 0 := fun h => hT (.inl h)
      have hv : v = 1 := by have h2 : ¬ 2 ≤ v := fun h => hT (.inr h); omega
      subst hv
      have em : (m != 0) = true := by rw [bne_iff_ne]; exact hm
      have em2 : decide (m = 0) = false := decide_eq_false hm
      have em3 : (m == 0) = false := by rw [beq_eq_false_iff_ne]; exact hm
      have HP : Hid (¬ MayP 1 ⟨1, t, u, o, m, g⟩ l) := fun h => by rcases h.2.2.2 with h | h; exact hT h.2.1; exact absurd h.1 (by simp)
      go_enter Tryd.func38, Tryd.ntmps38
      go_wp2_with (go_at_call 54; refine (HNAME.out _).mono ?_; rintro e w2 ⟨rfl, rfl⟩)
      go_ret
      exact ⟨tells_false HP.out, HB0.out⟩
    by_cases hG : TagP v ⟨1, t, u, o, m, g⟩
    rotate_left
    · have hg : g ≠ [] := fun h => hG (.inl h)
      have hv : v < 3 := by
        rcases Int.lt_or_le v 3 with h3 | h3
        · exact h3
        · exact absurd (.inr ⟨h3, by have := HX.out; simp only; omega⟩) hG
      have he := tx_empty g hg
      have dv3 : decide (v < 3) = true := decide_eq_true hv
      have HP : Hid (¬ MayP v ⟨1, t, u, o, m, g⟩ l) := fun h => by rcases h.2.2.2 with h | h; exact hG h.2.2.1; exact absurd h.1 (by simp)
      by_cases hv1' : v = 1
      · have hm : m = 0 := by
          rcases hT with h | h
          · exact h
          · omega
        subst hv1'; subst hm
        clear hT hG
        go_enter Tryd.func38, Tryd.ntmps38
        go_wp2_with (go_at_call 54; refine (HNAME.out _).mono ?_; rintro e w2 ⟨rfl, rfl⟩)
        go_ret
        exact ⟨tells_false HP.out, HB0.out⟩
      · have ev : decide (v = 1) = false := decide_eq_false hv1'
        have ev2 : (v == 1) = false := by rw [beq_eq_false_iff_ne]; exact hv1'
        clear hT hG
        go_enter Tryd.func38, Tryd.ntmps38
        go_wp2_with (go_at_call 54; refine (HNAME.out _).mono ?_; rintro e w2 ⟨rfl, rfl⟩)
        go_ret
        exact ⟨tells_false HP.out, HB0.out⟩
    rcases hG with hg | hg
    · simp only at hg
      subst hg
      rcases hT with hm | hm
      · simp only at hm
        subst hm
        by_cases hv1' : v = 1
        · subst hv1'
          exact rmay_l1 t u o A n c l hn HFIT.out hq (by omega) w HH.out
        · by_cases hv2' : v = 2
          · subst hv2'
            exact rmay_l2 t u o 0 A n c l hn HFIT.out hq (by omega) w HH.out
          · obtain rfl : v = 3 := by omega
            exact rmay_l3 t u o 0 A n c l hn HFIT.out hq (by omega) w HH.out
      · by_cases hv2' : v = 2
        · subst hv2'
          exact rmay_l2 t u o m A n c l hn HFIT.out hq (by omega) w HH.out
        · obtain rfl : v = 3 := by omega
          exact rmay_l3 t u o m A n c l hn HFIT.out hq (by omega) w HH.out
    · obtain rfl : v = 3 := by have := hg.1; omega
      by_cases hge : g = []
      · subst hge
        exact rmay_l3 t u o m A n c l hn HFIT.out hq (by omega) w HH.out
      · exact rmay_l4 t u o m g A n c l hn HFIT.out hq (by omega) hge hg.2 w HH.out
  · have dk1 : (k != 1) = true := by rw [bne_iff_ne]; exact hk1
    have dk3 : decide (k = 1) = false := decide_eq_false hk1
    have dk4 : (k == 1) = false := by rw [beq_eq_false_iff_ne]; exact hk1
    have HP : Hid (¬ MayP v ⟨k, t, u, o, m, g⟩ l) := fun h => by rcases h.2.2.2 with h | h; exact hk1 h.1; exact hk2 h.1
    go_enter Tryd.func38, Tryd.ntmps38
    go_wp2_with (go_at_call 54; refine (HNAME.out _).mono ?_; rintro e w2 ⟨rfl, rfl⟩)
    go_ret
    exact ⟨tells_false HP.out, HB0.out⟩

end Go.Proofs.YtgioknppnfencaaDoor
