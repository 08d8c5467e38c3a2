/- record.May. -/
import Derived.Test.YtgioknppnfencaaDoorRn
import Derived.Test.YtgioknppnfencaaDoorRj
namespace Go.Proofs.YtgioknppnfencaaDoor
open Go.RowKit

def GoneP (r : Rc) (l : List Dp) : Prop := r = ⟨2, r.target, 0, 0, 0, []⟩ ∧ l = []
/-- A record may be at a version. -/
def MayP (v : Int) (r : Rc) (l : List Dp) : Prop := 1 ≤ v ∧ v ≤ 3 ∧ isName r.target = true ∧ ((r.kind = 1 ∧ TimeP v r ∧ TagP v r ∧ DepsP v r l) ∨ (r.kind = 2 ∧ GoneP r l))
set_option maxRecDepth 100000 in
set_option maxHeartbeats 2000000 in
theorem may_any (v : Int) (r : Rc) (A : Option Addr) (n c : Nat) (l : List Dp) (hn : n ≤ 1000) (hfit : Fits r l) (w : World) (h : Reads w w.heap.size 3 A n (dps l)) :
    Calls Tryd.prog 30 #[.int .i64 v, rcv r A n c] w fun e w' => Tells (MayP v r l) e ∧ Below w.heap.size w w' := by
  have hz : (w.alloc (.cells (rcells r A n c) 35)).heap.size = w.heap.size + 1 := by simp
  have H0 := Lib.hid (one_new w (.cells (rcells r A n c) 35))
  have HB0 := Lib.hid ((Below.refl w.heap.size w).alloc (Nat.le_refl _) (.cells (rcells r A n c) 35))
  have HTIME : Hid (∀ W, Calls Tryd.prog 46 #[.int .i64 v, rcv r A n c] W fun e w' => Tells (TimeP v r) e ∧ Below W.heap.size W w') := fun W => (time_any v r A n c W).mono fun e w' ⟨q, h1, h2, h3⟩ => ⟨⟨q, h1, h2⟩, h3⟩
  have HTAG : Hid (∀ W, Calls Tryd.prog 47 #[.int .i64 v, rcv r A n c] W fun e w' => Tells (TagP v r) e ∧ Below W.heap.size W w') := fun W => (tag_any v r A n c W).mono fun e w' ⟨q, h1, h2, h3⟩ => ⟨⟨q, h1, h2⟩, h3⟩
  have HDEPS : Hid (∀ W, Below w.heap.size w W → Calls Tryd.prog 48 #[.int .i64 v, rcv r A n c] W fun e w' => Tells (DepsP v r l) e ∧ Below W.heap.size W w') := fun W hb => deps_any v r A n c l hn hfit.1 hfit.2.2 W ((h.below hb).more hb.size)
  have HSAME : Hid (∀ W, Below w.heap.size w W → Calls Tryd.prog 49 #[rcv r A n c, rcv ⟨2, r.target, 0, 0, 0, []⟩ none 0 0] W fun e w' => Tells (GoneP r l) e ∧ Below W.heap.size W w') := fun W hb =>
    (same_any r ⟨2, r.target, 0, 0, 0, []⟩ A none n 0 c 0 l [] (by omega) W ((h.below hb).more hb.size) Reads.none_).mono fun e w' ⟨q, h1, h2, h3⟩ => ⟨⟨q, h1, h2⟩, h3⟩
  obtain ⟨k, t, u, o, m, g⟩ := r
  have HNAME := Lib.hid (name_any t)
  clear h hfit
  generalize hW : w.alloc (.cells (rcells ⟨k, t, u, o, m, g⟩ A n c) 35) = W0 at *
  have CELL : ∀ {i : Nat} {x : Value}, (rcells ⟨k, t, u, o, m, g⟩ A n c)[i]? = some x → ∀ {W : World}, Below (w.heap.size + 1) W0 W → W.cell? ⟨w.heap.size, i, none⟩ = some x := fun hi W hb => (hb.cell (p := ⟨w.heap.size, _, none⟩) (show w.heap.size < w.heap.size + 1 by omega)).trans (at_cell H0.out hi)
  have hs := Below.refl (w.heap.size + 1) W0
  have q0 := CELL (i := 0) rfl hs
  have q1 := CELL (i := 1) rfl hs
  have q2 := CELL (i := 2) rfl hs
  have q3 := CELL (i := 3) rfl hs
  have q4 := CELL (i := 4) rfl hs
  have q5 := CELL (i := 5) rfl hs
  have q6 := CELL (i := 6) rfl hs
  subst hW
  have HZ := Lib.hid hz
  have HCELL : Hid (∀ {i : Nat} {x : Value}, (rcells ⟨k, t, u, o, m, g⟩ A n c)[i]? = some x → ∀ {W : World}, Below (w.heap.size + 1) (w.alloc (.cells (rcells ⟨k, t, u, o, m, g⟩ A n c) 35)) W → W.cell? ⟨w.heap.size, i, none⟩ = some x) := CELL
  clear CELL hs hz
  unfold rcells at *
  unfold rcv rsv at *
  by_cases hv1 : v < 1
  · have HP : Hid (¬ MayP v ⟨k, t, u, o, m, g⟩ l) := fun h => by have := h.1; omega
    have d1 : decide (v < 1) = true := decide_eq_true hv1
    go_enter Tryd.func30, Tryd.ntmps30
    go_wp2
    go_ret
    exact ⟨tells_false HP.out, HB0.out⟩
  have d1 : decide (v < 1) = false := decide_eq_false hv1
  by_cases hv3 : 3 < v
  · have HP : Hid (¬ MayP v ⟨k, t, u, o, m, g⟩ l) := fun h => by have := h.2.1; omega
    have d3 : decide (v > 3) = true := decide_eq_true hv3
    go_enter Tryd.func30, Tryd.ntmps30
    go_wp2
    go_ret
    exact ⟨tells_false HP.out, HB0.out⟩
  have d3 : decide (v > 3) = false := decide_eq_false hv3
  cases hq : isName t
  · have HP : Hid (¬ MayP v ⟨k, t, u, o, m, g⟩ l) := fun h => by have h2 : isName t = true := h.2.2.1; rw [hq] at h2; cases h2
    rw [hq] at HNAME
    go_enter Tryd.func30, Tryd.ntmps30
    go_wp2_with (go_at_call 45; refine (HNAME.out _).mono ?_; rintro e w2 ⟨rfl, rfl⟩)
    go_ret
    exact ⟨tells_false HP.out, HB0.out⟩
  rw [hq] at HNAME
  by_cases hk1 : k = 1
  · subst hk1
    by_cases hT : TimeP v ⟨1, t, u, o, m, g⟩
    · have HT : Hid (∀ W, Calls Tryd.prog 46 #[.int .i64 v, .agg #[.int .i64 1, .string (tx t), .int .u64 u, .slice A n c, .int .u64 o, .int .u64 m, .string (tx g)]] W fun e w' => e = .returned (.bool true) ∧ Below W.heap.size W w') := fun W => (HTIME.out W).mono fun e w' ⟨h1, h2⟩ => ⟨h1.yes hT, h2⟩
      by_cases hG : TagP v ⟨1, t, u, o, m, g⟩
      · have HG : Hid (∀ W, Calls Tryd.prog 47 #[.int .i64 v, .agg #[.int .i64 1, .string (tx t), .int .u64 u, .slice A n c, .int .u64 o, .int .u64 m, .string (tx g)]] W fun e w' => e = .returned (.bool true) ∧ Below W.heap.size W w') := fun W => (HTAG.out W).mono fun e w' ⟨h1, h2⟩ => ⟨h1.yes hG, h2⟩
        have HD : Hid (∀ W, Below w.heap.size w W → Calls Tryd.prog 48 #[.int .i64 v, .agg #[.int .i64 1, .string (tx t), .int .u64 u, .slice A n c, .int .u64 o, .int .u64 m, .string (tx g)]] W fun e w' => ∃ q : Bool, e = .returned (.bool q) ∧ Hid (Tells (MayP v ⟨1, t, u, o, m, g⟩ l) e) ∧ Below W.heap.size W w') := fun W hb => (HDEPS.out W hb).mono fun e w' ⟨h1, h2⟩ => by
          have h3 : Tells (MayP v ⟨1, t, u, o, m, g⟩ l) e := h1.iff ⟨fun hd => ⟨by omega, by omega, hq, .inl ⟨rfl, hT, hG, hd⟩⟩, fun hm => by rcases hm.2.2.2 with h | h; exact h.2.2.2; exact absurd h.1 (by simp)⟩
          obtain ⟨q, _, h5⟩ := h1
          exact ⟨q, h5, h3, h2⟩
        clear HTIME HTAG HDEPS HSAME hT hG
        go_enter Tryd.func30, Tryd.ntmps30
        go_wp2_with (first
          | (go_at_call 48; refine (HD.out _ (HB3.out.drew)).mono ?_; rintro e w4 ⟨q, rfl, hq4, hb4⟩; have HB4 := Lib.hid (HB3.out.trans (hb4.mono HB3.out.size)))
          | (go_at_call 48; refine (HD.out _ (HB3.out)).mono ?_; rintro e w4 ⟨q, rfl, hq4, hb4⟩; have HB4 := Lib.hid (HB3.out.trans (hb4.mono HB3.out.size)))
          | (go_at_call 47; refine (HG.out _).mono ?_; rintro e w3 ⟨rfl, hb3⟩; have HB3 := Lib.hid (HB2.out.trans (hb3.mono HB2.out.size)); have HS3 := Lib.hid (HS2.out.trans (hb3.mono HS2Z.out)); have hs30 := HCELL.out (i := 0) rfl HS3.out; have hs31 := HCELL.out (i := 1) rfl HS3.out; have hs32 := HCELL.out (i := 2) rfl HS3.out; have hs33 := HCELL.out (i := 3) rfl HS3.out; have hs34 := HCELL.out (i := 4) rfl HS3.out; have hs35 := HCELL.out (i := 5) rfl HS3.out; have hs36 := HCELL.out (i := 6) rfl HS3.out; clear hb3)
          | (go_at_call 46; refine (HT.out _).mono ?_; rintro e w2 ⟨rfl, hb2⟩; have HB2 := Lib.hid (HB0.out.trans (hb2.mono HB0.out.size)); have HS2 := Lib.hid (hb2.mono (Nat.le_of_eq HZ.out.symm)); have HS2Z : Hid (w.heap.size + 1 ≤ w2.heap.size) := by { have h1 := hb2.size; rw [HZ.out] at h1; exact h1 }; have hs20 := HCELL.out (i := 0) rfl HS2.out; have hs21 := HCELL.out (i := 1) rfl HS2.out; have hs22 := HCELL.out (i := 2) rfl HS2.out; have hs23 := HCELL.out (i := 3) rfl HS2.out; have hs24 := HCELL.out (i := 4) rfl HS2.out; have hs25 := HCELL.out (i := 5) rfl HS2.out; have hs26 := HCELL.out (i := 6) rfl HS2.out; clear hb2)
          | (go_at_call 45; refine (HNAME.out _).mono ?_; rintro e w2 ⟨rfl, rfl⟩))
        go_ret
        exact ⟨hq4.out, HB4.out⟩
      · have HG : Hid (∀ W, Calls Tryd.prog 47 #[.int .i64 v, .agg #[.int .i64 1, .string (tx t), .int .u64 u, .slice A n c, .int .u64 o, .int .u64 m, .string (tx g)]] W fun e w' => e = .returned (.bool false) ∧ Below W.heap.size W w') := fun W => (HTAG.out W).mono fun e w' ⟨h1, h2⟩ => ⟨h1.no hG, h2⟩
        have HP : Hid (¬ MayP v ⟨1, t, u, o, m, g⟩ l) := fun hm => by rcases hm.2.2.2 with h | h; exact hG h.2.2.1; exact absurd h.1 (by simp)
        clear HTIME HTAG HDEPS HSAME hT hG
        go_enter Tryd.func30, Tryd.ntmps30
        go_wp2_with (first
          | (go_at_call 47; refine (HG.out _).mono ?_; rintro e w3 ⟨rfl, hb3⟩; have HB3 := Lib.hid (HB2.out.trans (hb3.mono HB2.out.size)); clear hb3)
          | (go_at_call 46; refine (HT.out _).mono ?_; rintro e w2 ⟨rfl, hb2⟩; have HB2 := Lib.hid (HB0.out.trans (hb2.mono HB0.out.size)); have HS2 := Lib.hid (hb2.mono (Nat.le_of_eq HZ.out.symm)); have hs20 := HCELL.out (i := 0) rfl HS2.out; have hs21 := HCELL.out (i := 1) rfl HS2.out; have hs22 := HCELL.out (i := 2) rfl HS2.out; have hs23 := HCELL.out (i := 3) rfl HS2.out; have hs24 := HCELL.out (i := 4) rfl HS2.out; have hs25 := HCELL.out (i := 5) rfl HS2.out; have hs26 := HCELL.out (i := 6) rfl HS2.out; clear hb2)
          | (go_at_call 45; refine (HNAME.out _).mono ?_; rintro e w2 ⟨rfl, rfl⟩))
        go_ret
        exact ⟨tells_false HP.out, HB3.out⟩
    · have HT : Hid (∀ W, Calls Tryd.prog 46 #[.int .i64 v, .agg #[.int .i64 1, .string (tx t), .int .u64 u, .slice A n c, .int .u64 o, .int .u64 m, .string (tx g)]] W fun e w' => e = .returned (.bool false) ∧ Below W.heap.size W w') := fun W => (HTIME.out W).mono fun e w' ⟨h1, h2⟩ => ⟨h1.no hT, h2⟩
      have HP : Hid (¬ MayP v ⟨1, t, u, o, m, g⟩ l) := fun hm => by rcases hm.2.2.2 with h | h; exact hT h.2.1; exact absurd h.1 (by simp)
      clear HTIME HTAG HDEPS HSAME hT
      go_enter Tryd.func30, Tryd.ntmps30
      go_wp2_with (first
        | (go_at_call 46; refine (HT.out _).mono ?_; rintro e w2 ⟨rfl, hb2⟩; have HB2 := Lib.hid (HB0.out.trans (hb2.mono HB0.out.size)); clear hb2)
        | (go_at_call 45; refine (HNAME.out _).mono ?_; rintro e w2 ⟨rfl, rfl⟩))
      go_ret
      exact ⟨tells_false HP.out, HB2.out⟩
  · have d4 : decide (k = 1) = false := decide_eq_false hk1
    have d5 : (k == 1) = false := by rw [beq_eq_false_iff_ne]; exact hk1
    by_cases hk2 : k = 2
    · subst hk2
      have HD : Hid (∀ W, Below w.heap.size w W → Calls Tryd.prog 49 #[.agg #[.int .i64 2, .string (tx t), .int .u64 u, .slice A n c, .int .u64 o, .int .u64 m, .string (tx g)], .agg #[.int .i64 2, .string (tx t), .int .u64 0, .slice none 0 0, .int .u64 0, .int .u64 0, .string (tx [])]] W fun e w' => ∃ q : Bool, e = .returned (.bool q) ∧ Hid (Tells (MayP v ⟨2, t, u, o, m, g⟩ l) e) ∧ Below W.heap.size W w') := fun W hb => (HSAME.out W hb).mono fun e w' ⟨h1, h2⟩ => by
        have h3 : Tells (MayP v ⟨2, t, u, o, m, g⟩ l) e := h1.iff ⟨fun hd => ⟨by omega, by omega, hq, .inr ⟨rfl, hd⟩⟩, fun hm => by rcases hm.2.2.2 with h | h; exact absurd h.1 (by simp); exact h.2⟩
        obtain ⟨q, _, h5⟩ := h1
        exact ⟨q, h5, h3, h2⟩
      have htx : tx [] = ({ data := #[] } : ByteArray) := rfl
      rw [htx] at HD
      clear HTIME HTAG HDEPS HSAME htx
      go_enter Tryd.func30, Tryd.ntmps30
      go_wp2_with (first
        | (go_at_call 49; refine (HD.out _ HB0.out).mono ?_; rintro e w4 ⟨q, rfl, hq4, hb4⟩; have HB4 := Lib.hid (HB0.out.trans (hb4.mono HB0.out.size)))
        | (go_at_call 45; refine (HNAME.out _).mono ?_; rintro e w2 ⟨rfl, rfl⟩))
      go_ret
      exact ⟨hq4.out, HB4.out⟩
    · have HP : Hid (¬ MayP v ⟨k, t, u, o, m, g⟩ l) := fun hm => by rcases hm.2.2.2 with h | h; exact hk1 h.1; exact hk2 h.1
      have d6 : decide (k = 2) = false := decide_eq_false hk2
      have d7 : (k == 2) = false := by rw [beq_eq_false_iff_ne]; exact hk2
      clear HTIME HTAG HDEPS HSAME hk1 hk2
      go_enter Tryd.func30, Tryd.ntmps30
      go_wp2_with (first
        | (go_at_call 45; refine (HNAME.out _).mono ?_; rintro e w2 ⟨rfl, rfl⟩))
      go_ret
      exact ⟨tells_false HP.out, HB0.out⟩

end Go.Proofs.YtgioknppnfencaaDoor
