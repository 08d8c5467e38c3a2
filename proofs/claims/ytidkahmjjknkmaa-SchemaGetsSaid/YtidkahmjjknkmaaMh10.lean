/- Texts of one proof, one behind the other. -/
import Derived.Test.YtidkahmjjknkmaaMh9
import Derived.Test.YtidkahmjjknkmaaMh8
import Derived.Test.YtidkahmjjknkmaaMh7
import Derived.Test.YtidkahmjjknkmaaProg
import Derived.Test.YtidkahmjjknkmaaMh1
import Derived.Test.YtidkahmjjknkmaaMh3
import Derived.Maps.OwnSet
import Derived.Lib.Hide
import Derived.Lib.AppendStr
import Derived.Test.YtidkahmjjknkmaaMh6

/- Whether two records are the same: the document's. -/
namespace Go.Proofs.Ytidkahmjjknkmaa
open Go.RowKit

theorem rsame_any (r1 r2 : Rc) (A B : Option Addr) (n1 n2 c d : Nat) (l1 l2 : List Dp) (hn : n1 ≤ 1000000) (w : World) (h1 : Reads w w.heap.size 3 A n1 (dps l1)) (h2 : Reads w w.heap.size 3 B n2 (dps l2)) :
    Calls Try.prog 17 #[rcv r1 A n1 c, rcv r2 B n2 d] w fun e w' => ∃ q : Bool, (q = true ↔ r1 = r2 ∧ l1 = l2) ∧ e = .returned (.bool q) ∧ Below w.heap.size w w' := by
  have hl1 : l1.length = n1 := by have := h1.1; rw [dps_len] at this; omega
  have hl2 : l2.length = n2 := by have := h2.1; rw [dps_len] at this; omega
  obtain ⟨k1, t1, u1, o1, m1, g1⟩ := r1
  obtain ⟨k2, t2, u2, o2, m2, g2⟩ := r2
  unfold rcv rsv
  have bad : ∀ {e : Ending} {w' : World}, ¬ ((⟨k1, t1, u1, o1, m1, g1⟩ : Rc) = ⟨k2, t2, u2, o2, m2, g2⟩ ∧ l1 = l2) → e = .returned (.bool false) ∧ Below w.heap.size w w' → ∃ q : Bool, (q = true ↔ (⟨k1, t1, u1, o1, m1, g1⟩ : Rc) = ⟨k2, t2, u2, o2, m2, g2⟩ ∧ l1 = l2) ∧ e = .returned (.bool q) ∧ Below w.heap.size w w' :=
    fun h ⟨he, hb⟩ => ⟨false, by simpa using h, he, hb⟩
  by_cases e1 : k1 = k2
  · by_cases e2 : t1 = t2
    · by_cases e3 : u1 = u2
      · by_cases e4 : o1 = o2
        · by_cases e5 : m1 = m2
          · by_cases e6 : g1 = g2
            · subst e1 e2 e3 e4 e5 e6
              by_cases en : n1 = n2
              · subst en
                refine (rsl_any k1 u1 o1 m1 t1 g1 A B n1 c d l1 l2 hn w h1 h2).mono ?_
                rintro e w' ⟨he, hb⟩
                rcases he with ⟨hl, he⟩ | ⟨hl, he⟩
                · exact ⟨true, by simp [hl], he, hb⟩
                · exact ⟨false, by simp [hl], he, hb⟩
              · refine (rsn_n k1 t1 u1 o1 m1 g1 n1 n2 A B c d en w).mono fun _ _ h => bad (fun ⟨_, h⟩ => en (by rw [← hl1, ← hl2, h])) h
            · subst e1 e2 e3 e4 e5
              exact (rsn_tag k1 t1 u1 o1 m1 g1 g2 n1 n2 A B c d e6 w).mono fun _ _ h => bad (fun ⟨h, _⟩ => e6 (by injection h)) h
          · subst e1 e2 e3 e4
            exact (rsn_time k1 t1 u1 o1 m1 m2 g1 g2 n1 n2 A B c d e5 w).mono fun _ _ h => bad (fun ⟨h, _⟩ => e5 (by injection h)) h
        · subst e1 e2 e3
          exact (rsn_out k1 t1 u1 o1 o2 m1 m2 g1 g2 n1 n2 A B c d e4 w).mono fun _ _ h => bad (fun ⟨h, _⟩ => e4 (by injection h)) h
      · subst e1 e2
        exact (rsn_rule k1 t1 u1 u2 o1 o2 m1 m2 g1 g2 n1 n2 A B c d e3 w).mono fun _ _ h => bad (fun ⟨h, _⟩ => e3 (by injection h)) h
    · subst e1
      exact (rsn_target k1 t1 t2 u1 u2 o1 o2 m1 m2 g1 g2 n1 n2 A B c d e2 w).mono fun _ _ h => bad (fun ⟨h, _⟩ => e2 (by injection h)) h
  · exact (rsn_kind k1 k2 t1 t2 u1 u2 o1 o2 m1 m2 g1 g2 n1 n2 A B c d e1 w).mono fun _ _ h => bad (fun ⟨h, _⟩ => e1 (by injection h)) h

end Go.Proofs.Ytidkahmjjknkmaa

/- Whether two records are the same. -/
namespace Go.Proofs.Ytidkahmjjknkmaa
open Go.RowKit

theorem same_any (r1 r2 : Rc) (A B : Option Addr) (n1 n2 c d : Nat) (l1 l2 : List Dp) (hn : n1 ≤ 1000000) (w : World) (h1 : Reads w w.heap.size 3 A n1 (dps l1)) (h2 : Reads w w.heap.size 3 B n2 (dps l2)) :
    Calls Try.prog 44 #[rcv r1 A n1 c, rcv r2 B n2 d] w fun e w' => ∃ q : Bool, (q = true ↔ r1 = r2 ∧ l1 = l2) ∧ e = .returned (.bool q) ∧ Below w.heap.size w w' := by
  have hl1 : l1.length = n1 := by have := h1.1; rw [dps_len] at this; omega
  have hl2 : l2.length = n2 := by have := h2.1; rw [dps_len] at this; omega
  by_cases e : r1 = r2
  · by_cases en : n1 = n2
    · subst e en
      refine (same_deps r1 A B n1 c d l1 l2 hn w h1 h2).mono ?_
      rintro e w' ⟨q, hq, he, hb⟩
      exact ⟨q, by simpa using hq, he, hb⟩
    · subst e
      refine (same_lens r1 A B n1 n2 c d en w).mono ?_
      rintro e w' ⟨he, hb⟩
      exact ⟨false, by simp; intro h; exact en (by rw [← hl1, ← hl2, h]), he, hb⟩
  · refine (same_rests r1 r2 A B n1 n2 c d e w).mono ?_
    rintro e' w' ⟨he, hb⟩
    exact ⟨false, by simp [e], he, hb⟩

end Go.Proofs.Ytidkahmjjknkmaa

/- record.May. -/
namespace Go.Proofs.Ytidkahmjjknkmaa
open Go.RowKit

def GoneP (r : Rc) (l : List Dp) : Prop := r = ⟨2, r.target, 0, 0, 0, []⟩ ∧ l = []
/-- A record may be at a version. -/
def MayP (v : Int) (r : Rc) (l : List Dp) : Prop := 1 ≤ v ∧ v ≤ 3 ∧ isName r.target = true ∧ ((r.kind = 1 ∧ TimeP v r ∧ TagP v r ∧ DepsP v r l) ∨ (r.kind = 2 ∧ GoneP r l))
set_option maxRecDepth 100000 in
set_option maxHeartbeats 2000000 in
theorem may_any (v : Int) (r : Rc) (A : Option Addr) (n c : Nat) (l : List Dp) (hn : n ≤ 1000) (hfit : Fits r l) (w : World) (h : Reads w w.heap.size 3 A n (dps l)) :
    Calls Try.prog 21 #[.int .i64 v, rcv r A n c] w fun e w' => Tells (MayP v r l) e ∧ Below w.heap.size w w' := by
  have hz : (w.alloc (.cells (rcells r A n c) 26)).heap.size = w.heap.size + 1 := by simp
  have H0 := Lib.hid (one_new w (.cells (rcells r A n c) 26))
  have HB0 := Lib.hid ((Below.refl w.heap.size w).alloc (Nat.le_refl _) (.cells (rcells r A n c) 26))
  have HTIME : Hid (∀ W, Calls Try.prog 41 #[.int .i64 v, rcv r A n c] W fun e w' => Tells (TimeP v r) e ∧ Below W.heap.size W w') := fun W => (time_any v r A n c W).mono fun e w' ⟨q, h1, h2, h3⟩ => ⟨⟨q, h1, h2⟩, h3⟩
  have HTAG : Hid (∀ W, Calls Try.prog 42 #[.int .i64 v, rcv r A n c] W fun e w' => Tells (TagP v r) e ∧ Below W.heap.size W w') := fun W => (tag_any v r A n c W).mono fun e w' ⟨q, h1, h2, h3⟩ => ⟨⟨q, h1, h2⟩, h3⟩
  have HDEPS : Hid (∀ W, Below w.heap.size w W → Calls Try.prog 43 #[.int .i64 v, rcv r A n c] W fun e w' => Tells (DepsP v r l) e ∧ Below W.heap.size W w') := fun W hb => deps_any v r A n c l hn hfit.1 hfit.2.2 W ((h.below hb).more hb.size)
  have HSAME : Hid (∀ W, Below w.heap.size w W → Calls Try.prog 44 #[rcv r A n c, rcv ⟨2, r.target, 0, 0, 0, []⟩ none 0 0] W fun e w' => Tells (GoneP r l) e ∧ Below W.heap.size W w') := fun W hb =>
    (same_any r ⟨2, r.target, 0, 0, 0, []⟩ A none n 0 c 0 l [] (by omega) W ((h.below hb).more hb.size) Reads.none_).mono fun e w' ⟨q, h1, h2, h3⟩ => ⟨⟨q, h1, h2⟩, h3⟩
  obtain ⟨k, t, u, o, m, g⟩ := r
  have HNAME := Lib.hid (name_any t)
  clear h hfit
  generalize hW : w.alloc (.cells (rcells ⟨k, t, u, o, m, g⟩ A n c) 26) = W0 at *
  have CELL : ∀ {i : Nat} {x : Value}, (rcells ⟨k, t, u, o, m, g⟩ A n c)[i]? = some x → ∀ {W : World}, Below (w.heap.size + 1) W0 W → W.cell? ⟨w.heap.size, i, none⟩ = some x := fun hi W hb => (hb.cell (p := ⟨w.heap.size, _, none⟩) (show w.heap.size < w.heap.size + 1 by omega)).trans (at_cell H0.out hi)
  have hs := Below.refl (w.heap.size + 1) W0
  have q0 := CELL (i := 0) rfl hs
  have q1 := CELL (i := 1) rfl hs
  have q2 := CELL (i := 2) rfl hs
  have q3 := CELL (i := 3) rfl hs
  have q4 := CELL (i := 4) rfl hs
  have q5 := CELL (i := 5) rfl hs
  have q6 := CELL (i := 6) rfl hs
  subst hW
  have HZ := Lib.hid hz
  have HCELL : Hid (∀ {i : Nat} {x : Value}, (rcells ⟨k, t, u, o, m, g⟩ A n c)[i]? = some x → ∀ {W : World}, Below (w.heap.size + 1) (w.alloc (.cells (rcells ⟨k, t, u, o, m, g⟩ A n c) 26)) W → W.cell? ⟨w.heap.size, i, none⟩ = some x) := CELL
  clear CELL hs hz
  unfold rcells at *
  unfold rcv rsv at *
  by_cases hv1 : v < 1
  · have HP : Hid (¬ MayP v ⟨k, t, u, o, m, g⟩ l) := fun h => by have := h.1; omega
    have d1 : decide (v < 1) = true := decide_eq_true hv1
    go_enter Try.func21, Try.ntmps21
    go_wp2
    go_ret
    exact ⟨tells_false HP.out, HB0.out⟩
  have d1 : decide (v < 1) = false := decide_eq_false hv1
  by_cases hv3 : 3 < v
  · have HP : Hid (¬ MayP v ⟨k, t, u, o, m, g⟩ l) := fun h => by have := h.2.1; omega
    have d3 : decide (v > 3) = true := decide_eq_true hv3
    go_enter Try.func21, Try.ntmps21
    go_wp2
    go_ret
    exact ⟨tells_false HP.out, HB0.out⟩
  have d3 : decide (v > 3) = false := decide_eq_false hv3
  cases hq : isName t
  · have HP : Hid (¬ MayP v ⟨k, t, u, o, m, g⟩ l) := fun h => by have h2 : isName t = true := h.2.2.1; rw [hq] at h2; cases h2
    rw [hq] at HNAME
    go_enter Try.func21, Try.ntmps21
    go_wp2_with (go_at_call 40; refine (HNAME.out _).mono ?_; rintro e w2 ⟨rfl, rfl⟩)
    go_ret
    exact ⟨tells_false HP.out, HB0.out⟩
  rw [hq] at HNAME
  by_cases hk1 : k = 1
  · subst hk1
    by_cases hT : TimeP v ⟨1, t, u, o, m, g⟩
    · have HT : Hid (∀ W, Calls Try.prog 41 #[.int .i64 v, .agg #[.int .i64 1, .string (tx t), .int .u64 u, .slice A n c, .int .u64 o, .int .u64 m, .string (tx g)]] W fun e w' => e = .returned (.bool true) ∧ Below W.heap.size W w') := fun W => (HTIME.out W).mono fun e w' ⟨h1, h2⟩ => ⟨h1.yes hT, h2⟩
      by_cases hG : TagP v ⟨1, t, u, o, m, g⟩
      · have HG : Hid (∀ W, Calls Try.prog 42 #[.int .i64 v, .agg #[.int .i64 1, .string (tx t), .int .u64 u, .slice A n c, .int .u64 o, .int .u64 m, .string (tx g)]] W fun e w' => e = .returned (.bool true) ∧ Below W.heap.size W w') := fun W => (HTAG.out W).mono fun e w' ⟨h1, h2⟩ => ⟨h1.yes hG, h2⟩
        have HD : Hid (∀ W, Below w.heap.size w W → Calls Try.prog 43 #[.int .i64 v, .agg #[.int .i64 1, .string (tx t), .int .u64 u, .slice A n c, .int .u64 o, .int .u64 m, .string (tx g)]] W fun e w' => ∃ q : Bool, e = .returned (.bool q) ∧ Hid (Tells (MayP v ⟨1, t, u, o, m, g⟩ l) e) ∧ Below W.heap.size W w') := fun W hb => (HDEPS.out W hb).mono fun e w' ⟨h1, h2⟩ => by
          have h3 : Tells (MayP v ⟨1, t, u, o, m, g⟩ l) e := h1.iff ⟨fun hd => ⟨by omega, by omega, hq, .inl ⟨rfl, hT, hG, hd⟩⟩, fun hm => by rcases hm.2.2.2 with h | h; exact h.2.2.2; exact absurd h.1 (by simp)⟩
          obtain ⟨q, _, h5⟩ := h1
          exact ⟨q, h5, h3, h2⟩
        clear HTIME HTAG HDEPS HSAME hT hG
        go_enter Try.func21, Try.ntmps21
        go_wp2_with (first
          | (go_at_call 43; refine (HD.out _ (HB3.out.drew)).mono ?_; rintro e w4 ⟨q, rfl, hq4, hb4⟩; have HB4 := Lib.hid (HB3.out.trans (hb4.mono HB3.out.size)))
          | (go_at_call 43; refine (HD.out _ (HB3.out)).mono ?_; rintro e w4 ⟨q, rfl, hq4, hb4⟩; have HB4 := Lib.hid (HB3.out.trans (hb4.mono HB3.out.size)))
          | (go_at_call 42; refine (HG.out _).mono ?_; rintro e w3 ⟨rfl, hb3⟩; have HB3 := Lib.hid (HB2.out.trans (hb3.mono HB2.out.size)); have HS3 := Lib.hid (HS2.out.trans (hb3.mono HS2Z.out)); have hs30 := HCELL.out (i := 0) rfl HS3.out; have hs31 := HCELL.out (i := 1) rfl HS3.out; have hs32 := HCELL.out (i := 2) rfl HS3.out; have hs33 := HCELL.out (i := 3) rfl HS3.out; have hs34 := HCELL.out (i := 4) rfl HS3.out; have hs35 := HCELL.out (i := 5) rfl HS3.out; have hs36 := HCELL.out (i := 6) rfl HS3.out; clear hb3)
          | (go_at_call 41; refine (HT.out _).mono ?_; rintro e w2 ⟨rfl, hb2⟩; have HB2 := Lib.hid (HB0.out.trans (hb2.mono HB0.out.size)); have HS2 := Lib.hid (hb2.mono (Nat.le_of_eq HZ.out.symm)); have HS2Z : Hid (w.heap.size + 1 ≤ w2.heap.size) := by { have h1 := hb2.size; rw [HZ.out] at h1; exact h1 }; have hs20 := HCELL.out (i := 0) rfl HS2.out; have hs21 := HCELL.out (i := 1) rfl HS2.out; have hs22 := HCELL.out (i := 2) rfl HS2.out; have hs23 := HCELL.out (i := 3) rfl HS2.out; have hs24 := HCELL.out (i := 4) rfl HS2.out; have hs25 := HCELL.out (i := 5) rfl HS2.out; have hs26 := HCELL.out (i := 6) rfl HS2.out; clear hb2)
          | (go_at_call 40; refine (HNAME.out _).mono ?_; rintro e w2 ⟨rfl, rfl⟩))
        go_ret
        exact ⟨hq4.out, HB4.out⟩
      · have HG : Hid (∀ W, Calls Try.prog 42 #[.int .i64 v, .agg #[.int .i64 1, .string (tx t), .int .u64 u, .slice A n c, .int .u64 o, .int .u64 m, .string (tx g)]] W fun e w' => e = .returned (.bool false) ∧ Below W.heap.size W w') := fun W => (HTAG.out W).mono fun e w' ⟨h1, h2⟩ => ⟨h1.no hG, h2⟩
        have HP : Hid (¬ MayP v ⟨1, t, u, o, m, g⟩ l) := fun hm => by rcases hm.2.2.2 with h | h; exact hG h.2.2.1; exact absurd h.1 (by simp)
        clear HTIME HTAG HDEPS HSAME hT hG
        go_enter Try.func21, Try.ntmps21
        go_wp2_with (first
          | (go_at_call 42; refine (HG.out _).mono ?_; rintro e w3 ⟨rfl, hb3⟩; have HB3 := Lib.hid (HB2.out.trans (hb3.mono HB2.out.size)); clear hb3)
          | (go_at_call 41; refine (HT.out _).mono ?_; rintro e w2 ⟨rfl, hb2⟩; have HB2 := Lib.hid (HB0.out.trans (hb2.mono HB0.out.size)); have HS2 := Lib.hid (hb2.mono (Nat.le_of_eq HZ.out.symm)); have hs20 := HCELL.out (i := 0) rfl HS2.out; have hs21 := HCELL.out (i := 1) rfl HS2.out; have hs22 := HCELL.out (i := 2) rfl HS2.out; have hs23 := HCELL.out (i := 3) rfl HS2.out; have hs24 := HCELL.out (i := 4) rfl HS2.out; have hs25 := HCELL.out (i := 5) rfl HS2.out; have hs26 := HCELL.out (i := 6) rfl HS2.out; clear hb2)
          | (go_at_call 40; refine (HNAME.out _).mono ?_; rintro e w2 ⟨rfl, rfl⟩))
        go_ret
        exact ⟨tells_false HP.out, HB3.out⟩
    · have HT : Hid (∀ W, Calls Try.prog 41 #[.int .i64 v, .agg #[.int .i64 1, .string (tx t), .int .u64 u, .slice A n c, .int .u64 o, .int .u64 m, .string (tx g)]] W fun e w' => e = .returned (.bool false) ∧ Below W.heap.size W w') := fun W => (HTIME.out W).mono fun e w' ⟨h1, h2⟩ => ⟨h1.no hT, h2⟩
      have HP : Hid (¬ MayP v ⟨1, t, u, o, m, g⟩ l) := fun hm => by rcases hm.2.2.2 with h | h; exact hT h.2.1; exact absurd h.1 (by simp)
      clear HTIME HTAG HDEPS HSAME hT
      go_enter Try.func21, Try.ntmps21
      go_wp2_with (first
        | (go_at_call 41; refine (HT.out _).mono ?_; rintro e w2 ⟨rfl, hb2⟩; have HB2 := Lib.hid (HB0.out.trans (hb2.mono HB0.out.size)); clear hb2)
        | (go_at_call 40; refine (HNAME.out _).mono ?_; rintro e w2 ⟨rfl, rfl⟩))
      go_ret
      exact ⟨tells_false HP.out, HB2.out⟩
  · have d4 : decide (k = 1) = false := decide_eq_false hk1
    have d5 : (k == 1) = false := by rw [beq_eq_false_iff_ne]; exact hk1
    by_cases hk2 : k = 2
    · subst hk2
      have HD : Hid (∀ W, Below w.heap.size w W → Calls Try.prog 44 #[.agg #[.int .i64 2, .string (tx t), .int .u64 u, .slice A n c, .int .u64 o, .int .u64 m, .string (tx g)], .agg #[.int .i64 2, .string (tx t), .int .u64 0, .slice none 0 0, .int .u64 0, .int .u64 0, .string (tx [])]] W fun e w' => ∃ q : Bool, e = .returned (.bool q) ∧ Hid (Tells (MayP v ⟨2, t, u, o, m, g⟩ l) e) ∧ Below W.heap.size W w') := fun W hb => (HSAME.out W hb).mono fun e w' ⟨h1, h2⟩ => by
        have h3 : Tells (MayP v ⟨2, t, u, o, m, g⟩ l) e := h1.iff ⟨fun hd => ⟨by omega, by omega, hq, .inr ⟨rfl, hd⟩⟩, fun hm => by rcases hm.2.2.2 with h | h; exact absurd h.1 (by simp); exact h.2⟩
        obtain ⟨q, _, h5⟩ := h1
        exact ⟨q, h5, h3, h2⟩
      have htx : tx [] = ({ data := #[] } : ByteArray) := rfl
      rw [htx] at HD
      clear HTIME HTAG HDEPS HSAME htx
      go_enter Try.func21, Try.ntmps21
      go_wp2_with (first
        | (go_at_call 44; refine (HD.out _ HB0.out).mono ?_; rintro e w4 ⟨q, rfl, hq4, hb4⟩; have HB4 := Lib.hid (HB0.out.trans (hb4.mono HB0.out.size)))
        | (go_at_call 40; refine (HNAME.out _).mono ?_; rintro e w2 ⟨rfl, rfl⟩))
      go_ret
      exact ⟨hq4.out, HB4.out⟩
    · have HP : Hid (¬ MayP v ⟨k, t, u, o, m, g⟩ l) := fun hm => by rcases hm.2.2.2 with h | h; exact hk1 h.1; exact hk2 h.1
      have d6 : decide (k = 2) = false := decide_eq_false hk2
      have d7 : (k == 2) = false := by rw [beq_eq_false_iff_ne]; exact hk2
      clear HTIME HTAG HDEPS HSAME hk1 hk2
      go_enter Try.func21, Try.ntmps21
      go_wp2_with (first
        | (go_at_call 40; refine (HNAME.out _).mono ?_; rintro e w2 ⟨rfl, rfl⟩))
      go_ret
      exact ⟨tells_false HP.out, HB0.out⟩

end Go.Proofs.Ytidkahmjjknkmaa

/- The document's place of a text. -/
namespace Go.Proofs.Ytidkahmjjknkmaa
open Go.RowKit

/-- Where a text stands; -1. -/
def tplace (l : List (List UInt8)) (s : List UInt8) : Int := if s ∈ l then (l.idxOf s : Int) else -1

theorem tplace_at {l : List (List UInt8)} {s t : List UInt8} {i : Nat} (hno : s ∉ l.take i) (hs : l[i]? = some t) (e : t = s) : tplace l s = (i : Int) := by
  subst e
  have hlt : i < l.length := (List.getElem?_eq_some_iff.1 hs).1
  have h1 : l = l.take i ++ l.drop i := (List.take_append_drop i l).symm
  have h2 : l.drop i = t :: l.drop (i + 1) := by
    rw [List.drop_eq_getElem_cons hlt]
    rw [List.getElem?_eq_getElem hlt] at hs
    rw [Option.some.inj hs]
  have hin : t ∈ l := List.mem_of_getElem? hs
  unfold tplace
  rw [if_pos hin]
  have h3 : l.idxOf t = i := by
    conv => lhs; rw [h1, h2]
    rw [List.idxOf_append, if_neg hno, List.length_take, List.idxOf_cons_self]
    omega
  rw [h3]

set_option maxRecDepth 100000 in
set_option maxHeartbeats 400000 in
theorem place_any (L : Option Addr) (n c : Nat) (l : List (List UInt8)) (s : List UInt8) (hn : n ≤ 1073741824) (w : World) (hr : Reads w w.heap.size 1 L n (l.map tsv)) :
    Calls Try.prog 26 #[.slice L n c, tsv s] w fun e w' => e = .returned (.int .i64 (tplace l s)) ∧ w = w' := by
  have hml : l.length = n := by have := hr.1; simpa using this
  have HML := Lib.hid hml
  have HR := Lib.hid hr
  unfold tsv
  clear hml hr
  go_enter Try.func26, Try.ntmps26
  go_wp2
  go_loopw [5] (fun idx wr => ∃ i : Nat, i ≤ n ∧ idx = .int .i64 (i : Int) ∧ s ∉ l.take i ∧ w = wr) (fun idx wr => n - (intOf idx).toNat)
  case atStart => exact ⟨0, by omega, rfl, by simp, rfl⟩
  case round =>
    obtain ⟨i, hi, rfl, hno, rfl⟩ := hrel
    by_cases hlt : i < n
    · obtain ⟨ad, u, rfl, _, hu, hcell⟩ := HR.out.at_ hlt
      obtain ⟨t, hs⟩ : ∃ t, l[i]? = some t := ⟨_, List.getElem?_eq_getElem (by rw [HML.out]; exact hlt)⟩
      obtain rfl : u = tsv t := by rw [List.getElem?_map, hs] at hu; simpa using hu.symm
      unfold tsv at hcell
      by_cases e : t = s
      · have hp := Lib.hid (tplace_at hno hs e)
        subst e
        have hself : ((tx t).toList == (tx t).toList) = true := by simp
        clear hu hs hno
        go_wp2
        go_ret
        rw [hp.out]
        exact ⟨rfl, rfl⟩
      · have hne : ((tx t).toList == (tx s).toList) = false := by
          rw [beq_eq_false_iff_ne]
          intro e2
          exact e (by simpa [tx] using e2)
        have HNO : Hid (s ∉ l.take (i + 1)) := by
          show s ∉ _
          rw [List.take_add_one, hs]
          intro h
          rcases List.mem_append.1 h with h | h
          · exact hno h
          · exact e (show s = t by simpa using h).symm
        clear hu hs hno e
        go_wp2
        exact ⟨⟨i + 1, by omega, by go_num, HNO.out, trivial⟩, by simp [intOf]; omega⟩
    · obtain rfl : i = n := by omega
      have hp : Hid (tplace l s = -1) := by
        show tplace l s = -1
        rw [List.take_of_length_le (by rw [HML.out]; omega)] at hno
        unfold tplace
        rw [if_neg hno]
      clear hno
      go_wp2
      go_ret
      rw [hp.out]
      exact ⟨rfl, rfl⟩

end Go.Proofs.Ytidkahmjjknkmaa

/- The document's Put of a text. -/
namespace Go.Proofs.Ytidkahmjjknkmaa
open Go.RowKit

/-- A list that a call was handed, or has made: where it lies. -/
def Lis (w : World) (B : Nat) (v : Value) (l : List (List UInt8)) : Prop := ∃ A n c, v = .slice A n c ∧ n = l.length ∧ n ≤ c ∧ (A = none → c = 0) ∧ Reads w B 1 A n (l.map tsv)

theorem Lis.of_own {w : World} {base n : Nat} {e : TypeId} {v : Value} {l : List (List UInt8)} (h : w.ownsRow base e 1 v n (l.map tsv)) : Lis w w.heap.size v l := by
  obtain ⟨A, c, rfl, hn, hr⟩ := own_reads h
  refine ⟨A, n, c, rfl, by have := hr.1; simpa using this.symm, hn, fun e => ?_, hr⟩
  subst e
  rcases h.2 with ⟨h0, h00⟩ | ⟨g', cap, cur, hv, _⟩
  · injection h0
  · injection hv with hv _ _; cases hv

set_option maxRecDepth 100000 in
set_option maxHeartbeats 400000 in
theorem put_in (v : Value) (l : List (List UInt8)) (s : List UInt8) (hin : s ∈ l) (hn : l.length ≤ 1073741824) (w : World) (hl : Lis w w.heap.size v l) :
    Calls Try.prog 27 #[v, tsv s] w fun e w' => e = .returned v ∧ w = w' := by
  obtain ⟨A, n, c, rfl, hnl, _, _, hr⟩ := hl
  have HP := Lib.hid (place_any A n c l s (by omega) w hr)
  have hge : Hid (tplace l s = ((l.idxOf s : Nat) : Int)) := if_pos hin
  rw [hge.out] at HP
  clear hr hge hnl hin
  generalize l.idxOf s = k at HP
  unfold tsv at HP ⊢
  go_enter Try.func27, Try.ntmps27
  go_wp2_with (go_at_call 26; refine HP.out.mono ?_; rintro e w1 ⟨rfl, rfl⟩)
  go_ret
  exact ⟨rfl, rfl⟩

set_option maxRecDepth 100000 in
set_option maxHeartbeats 400000 in
theorem put_new (v : Value) (l : List (List UInt8)) (s : List UInt8) (hin : s ∉ l) (hn : l.length ≤ 1000000) (w : World) (hl : Lis w w.heap.size v l) :
    Calls Try.prog 27 #[v, tsv s] w fun e w' => ∃ v', e = .returned v' ∧ w'.ownsRow w.heap.size 9 1 v' (l.length + 1) ((l ++ [s]).map tsv) ∧ Below w.heap.size w w' := by
  obtain ⟨is, his, his0, his1, his2⟩ := info_parts tinfo
  obtain ⟨A, n, c, rfl, hnl, _, hA, hr⟩ := hl
  have HP := Lib.hid (place_any A n c l s (by omega) w hr)
  have hge : Hid (tplace l s = (-1 : Int)) := if_neg hin
  rw [hge.out] at HP
  have HR := Lib.hid hr
  have HA := Lib.hid hA
  have HNL := Lib.hid hnl
  have hn6 : n ≤ 1000000 := by omega
  clear hr hge hnl hin hn hA
  unfold tsv at HP ⊢
  have H1 := Lib.hid (own_empty w 9)
  have HB0 := Lib.hid ((Below.refl w.heap.size w).alloc (Nat.le_refl _) (.cells #[] 9))
  go_enter Try.func27, Try.ntmps27
  go_wp2_with (first
    | (go_at_call 26; refine HP.out.mono ?_; rintro e w1 ⟨rfl, rfl⟩)
    | (at_builtin; refine wpList_append_reads _ rfl (.tmp 10) (.tmp 11) 22 rfl w.heap.size 9 is (.string { data := #[] }) 16 Try.underlying22 his his0 his1 his2 rfl _ 0 [] rfl H1.out A n c w.heap.size (l.map tsv) rfl HA.out (HR.out.alloc (Nat.le_refl _) _) (by simp [Value.oneCell', tsv]) (by unfold maxLen; omega) (by omega) (by simp) ?_
       intro v2 w2 ho2 hg2
       rw [Nat.zero_add, List.nil_append] at ho2
       have HO2 := Lib.hid ho2
       have HG2 := Lib.hid hg2
       obtain ⟨A2, c2, rfl, hc2, -⟩ := own_reads ho2
       clear ho2 hg2)
    | (at_builtin; refine wpList_append_own _ rfl (.tmp 12) (.tmp 14) 22 rfl w.heap.size 9 is (.string { data := #[] }) 1 16 Try.underlying22 his his0 his1 his2 rfl (by decide) _ n _ rfl (HO2.out.alloc _) ⟨w2.heap.size, 0, none⟩ 1 1 [.string (tx s)] rfl rfl (cell_one_new _ _ _) (by simp [Value.oneCell']) (by unfold maxLen; omega) (by omega) (by have := HG2.out.size; simp at this; simp; omega) ?_
       intro v3 w3 ho3 hg3 _
       have HO3 := Lib.hid ho3
       have HG3 := Lib.hid hg3
       clear ho3 hg3))
  go_ret
  have h2 := HB0.out.grown HG2.out (by simp) (own_block H1.out)
  have h3 := (h2.alloc h2.size (.cells #[.string (tx s)] 9)).grown HG3.out (by have := h2.size; simp; omega) (own_block HO2.out)
  refine ⟨_, rfl, ?_, h3⟩
  have h4 := HO3.out
  rw [← HNL.out, List.map_append]
  exact h4

/-- A list that the document's functions have made. -/
def Own (w : World) (base : Nat) (v : Value) (l : List (List UInt8)) : Prop := w.ownsRow base 9 1 v l.length (l.map tsv)

theorem Own.below {w w' : World} {base : Nat} {v : Value} {l : List (List UInt8)} (h : Own w base v l) (hb : Below w.heap.size w w') : Own w' base v l := own_below h hb
theorem Own.lis {w : World} {base : Nat} {v : Value} {l : List (List UInt8)} (h : Own w base v l) : Lis w w.heap.size v l := Lis.of_own h
theorem Own.less {w : World} {base base' : Nat} {v : Value} {l : List (List UInt8)} (h : Own w base v l) (hb : base' ≤ base) : Own w base' v l := by
  obtain ⟨h1, h2 | ⟨g, cap, cur, hv, hbg, r⟩⟩ := h
  · exact ⟨h1, .inl h2⟩
  · exact ⟨h1, .inr ⟨g, cap, cur, hv, by omega, r⟩⟩

theorem iput_any (base : Nat) (v : Value) (l : List (List UInt8)) (s : List UInt8) (hn : l.length ≤ 1000000) (w : World) (hb : base ≤ w.heap.size) (hl : Own w base v l) :
    Calls Try.prog 27 #[v, tsv s] w fun e w' => ∃ v', e = .returned v' ∧ Own w' base v' (tput l s) ∧ (v' = v ∨ ∀ g, v'.ownBlock = some g → w.heap.size ≤ g) ∧ Below w.heap.size w w' := by
  by_cases hin : s ∈ l
  · refine (put_in v l s hin (by omega) w hl.lis).mono ?_
    rintro e w' ⟨rfl, rfl⟩
    exact ⟨v, rfl, by rw [tput_in hin]; exact hl, .inl rfl, Below.refl _ _⟩
  · refine (put_new v l s hin hn w hl.lis).mono ?_
    rintro e w' ⟨v', rfl, ho, hb'⟩
    have ho' : Own w' w.heap.size v' (l ++ [s]) := by unfold Own; rw [List.length_append]; exact ho
    exact ⟨v', rfl, by rw [tput_new hin]; exact ho'.less hb, .inr (own_block ho), hb'⟩

end Go.Proofs.Ytidkahmjjknkmaa

/- The document's table: Place, Put, New, Cut. -/
namespace Go.Proofs.Ytidkahmjjknkmaa
open Go.RowKit Go.Maps Go.ChangeMaps Go.WideMaps

set_option maxRecDepth 100000 in
set_option maxHeartbeats 400000 in
theorem rnew_any (L : Option Addr) (m d : Nat) (ts : List (List UInt8)) (hm : m ≤ 1000000) (w : World) (hr : Reads w w.heap.size 1 L m (ts.map tsv)) :
    Calls Try.prog 12 #[.slice L m d] w fun e w' => ∃ v, e = .returned v ∧ Own w' w.heap.size v (tnew ts) ∧ Below w.heap.size w w' := by
  have hml : ts.length = m := by have := hr.1; simpa using this
  have HML := Lib.hid hml
  have HR := Lib.hid hr
  have H1 : Hid (Own (w.alloc (.cells #[] 9)) w.heap.size (.slice (some ⟨w.heap.size, 0, none⟩) 0 0) []) := own_empty w 9
  have HB0 := Lib.hid ((Below.refl w.heap.size w).alloc (Nat.le_refl _) (.cells #[] 9))
  clear hml hr
  go_enter Try.func12, Try.ntmps12
  go_wp2
  go_loopw [3, 4] (fun v idx wr => ∃ i : Nat, i ≤ m ∧ idx = .int .i64 (i : Int) ∧ Own wr w.heap.size v (tnew (ts.take i)) ∧ Below w.heap.size w wr) (fun v idx wr => m - (intOf idx).toNat)
  case atStart => exact ⟨0, by omega, rfl, H1.out, HB0.out⟩
  case round =>
    obtain ⟨i, hi, rfl, ho, hb⟩ := hrel
    by_cases hlt : i < m
    · obtain ⟨ad, u, rfl, _, hu, hcell⟩ := (HR.out.below hb).at_ hlt
      obtain ⟨s, hs⟩ : ∃ s, ts[i]? = some s := ⟨_, List.getElem?_eq_getElem (by rw [HML.out]; exact hlt)⟩
      obtain rfl : u = tsv s := by rw [List.getElem?_map, hs] at hu; simpa using hu.symm
      have htk : ts.take (i + 1) = ts.take i ++ [s] := by rw [List.take_add_one, hs]; rfl
      have hln : (tnew (ts.take i)).length ≤ i := by have := tnew_len (ts.take i); rw [List.length_take] at this; omega
      have hput := iput_any w.heap.size _ (tnew (ts.take i)) s (by omega) wr hb.size ho
      rw [← tnew_snoc, ← htk] at hput
      have HPUT := Lib.hid hput
      have HB := Lib.hid hb
      unfold tsv at hcell HPUT
      clear hu hs htk hln hput ho hb
      go_wp2_with (go_at_call 27; refine HPUT.out.mono ?_; rintro e w1 ⟨v1, rfl, ho1, -, hb1⟩)
      have hsz := HB.out.size
      exact ⟨⟨i + 1, by omega, by go_num, ho1, HB.out.trans (hb1.mono hsz)⟩, by simp [intOf]; omega⟩
    · obtain rfl : i = m := by omega
      have hall : ts.take i = ts := List.take_of_length_le (by rw [HML.out]; omega)
      rw [hall] at ho
      go_wp2
      go_ret
      exact ⟨_, rfl, ho, hb⟩

end Go.Proofs.Ytidkahmjjknkmaa

/- The walks of thing, Text. -/
namespace Go.Proofs.Ytidkahmjjknkmaa
open Go.RowKit Go.Maps Go.ChangeMaps Go.WideMaps

/-- The text of a number; none. -/
def ttext (l : List (List UInt8)) (i : Nat) : List UInt8 := (l[i]?).getD []

set_option maxRecDepth 100000 in
set_option maxHeartbeats 400000 in
theorem thing_any (S : Nat → Prop) (b N : Nat) (l : List (List UInt8)) (i : Nat) (hl : l.length ≤ 1073741824) (w : World) (h : Tab w S b N l) :
    Calls Try.prog 55 #[.pointer (some ⟨b, 0, none⟩), .int .u64 (i : Int)] w fun e w' => e = .returned (.tuple #[tsv (ttext l i), .bool (decide (i < l.length))]) ∧ w = w' := by
  obtain ⟨L, c, mv, h1, _, h3, _⟩ := h
  have hc0 := field_cell (i := 0) h1 rfl
  have hrd := Reads.of_own h3
  obtain ⟨n, hn⟩ : ∃ n, n = l.length := ⟨_, rfl⟩
  rw [← hn] at hc0 hrd hl ⊢
  have HN := Lib.hid hn
  have hw1 : IntKind.u64.wrap (n : Int) = (n : Int) := by rw [IntKind.wrap_u64]; omega
  clear h1 h3 hn
  by_cases hlt : i < n
  · obtain ⟨ad, u, rfl, _, hu, hcell⟩ := hrd.at_ hlt
    obtain ⟨s, hs⟩ : ∃ s, l[i]? = some s := ⟨_, List.getElem?_eq_getElem (by rw [← HN.out]; exact hlt)⟩
    have e1 : ttext l i = s := by rw [ttext, hs]; rfl
    obtain rfl : u = tsv s := by rw [List.getElem?_map, hs] at hu; simpa using hu.symm
    rw [e1, decide_eq_true hlt]
    unfold tsv at hcell ⊢
    clear hu hs e1 hrd
    go_enter Try.func55, Try.ntmps55
    go_wp2
    go_ret2
    exact ⟨rfl, rfl⟩
  · have e1 : ttext l i = [] := by rw [ttext, List.getElem?_eq_none (by rw [← HN.out]; omega)]; rfl
    have e2 : tsv ([] : List UInt8) = .string ⟨#[]⟩ := rfl
    rw [e1, decide_eq_false hlt, e2]
    clear hrd e1 e2
    go_enter Try.func55, Try.ntmps55
    go_wp2
    go_ret2
    exact ⟨rfl, rfl⟩

set_option maxRecDepth 100000 in
set_option maxHeartbeats 400000 in
theorem Text_any (S : Nat → Prop) (b N : Nat) (l : List (List UInt8)) (i : Nat) (hl : l.length ≤ 1073741824) (w : World) (h : Tab w S b N l) :
    Calls Try.prog 31 #[.pointer (some ⟨b, 0, none⟩), .int .u64 (i : Int)] w fun e w' => e = .returned (.tuple #[tsv (ttext l i), .bool (decide (i < l.length))]) ∧ w = w' := by
  have HF := Lib.hid (thing_any S b N l i hl w h)
  unfold tsv at HF ⊢
  generalize decide (i < l.length) = q at HF ⊢
  clear h hl
  go_enter Try.func31, Try.ntmps31
  go_wp2_with (first
    | (go_at_call 38; refine (all_any b _).mono ?_; rintro e w1 ⟨rfl, rfl⟩)
    | (go_at_call 55; refine HF.out.mono ?_; rintro e w1 ⟨rfl, rfl⟩))
  go_ret2
  exact ⟨rfl, rfl⟩

end Go.Proofs.Ytidkahmjjknkmaa

/- record.Names. -/
namespace Go.Proofs.Ytidkahmjjknkmaa
open Go.RowKit

/-- A record's texts, each once. -/
def rnames (r : Rc) (l : List Dp) : List (List UInt8) := tnew (r.target :: names l ++ (if r.tag = [] then [] else [r.tag]))

theorem fill_step (T Z : List Value) (i : Nat) (u : Value) (hl : Z.length = T.length) (hu : T[i]? = some u) : (T.take i ++ Z.drop i).set i u = T.take (i + 1) ++ Z.drop (i + 1) := by
  have hi : i < T.length := (List.getElem?_eq_some_iff.1 hu).1
  have h1 : (T.take i).length = i := by rw [List.length_take]; omega
  have h2 : Z.drop i = Z[i]'(by omega) :: Z.drop (i + 1) := List.drop_eq_getElem_cons (by omega)
  rw [h2, List.take_add_one, hu, List.set_append_right _ _ (by omega), h1, Nat.sub_self]
  show T.take i ++ (u :: Z.drop (i + 1)) = _
  simp

def NmRel (w : World) (b g N : Nat) (ts : List (List UInt8)) (Z : List Value) (idx : Value) (wr : World) : Prop :=
  ∃ i : Nat, i ≤ ts.length ∧ idx = .int .i64 (i : Int) ∧ Tab wr (fun k => k < g) b N ts ∧ Below w.heap.size w wr ∧ wr.heap[g]? = some (.cells ((ts.map tsv).take i ++ Z.drop i).toArray 9 (0, 0))

theorem tnew_pos (t : List UInt8) (ts : List (List UInt8)) : 0 < (tnew (t :: ts)).length := by
  have h : t ∈ tnew (t :: ts) := tnew_mem (by simp)
  exact List.length_pos_of_mem h

set_option maxRecDepth 100000 in
set_option maxHeartbeats 2000000 in
theorem names_any (r : Rc) (A : Option Addr) (n c : Nat) (l : List Dp) (hn : n ≤ 1000) (hfit : Fits r l) (w : World) (h : Reads w w.heap.size 3 A n (dps l)) :
    Calls Try.prog 45 #[rcv r A n c] w fun e w' => ∃ v, e = .returned v ∧ Own w' w.heap.size v (rnames r l) ∧ Below w.heap.size w w' := by
  obtain ⟨i0, hi0, hz0, hz1, hz2⟩ := info_parts tinfo
  have hl : l.length = n := by have := h.1; rw [dps_len] at this; omega
  have hz : (w.alloc (.cells (rcells r A n c) 26)).heap.size = w.heap.size + 1 := by simp
  have h0 := one_new w (.cells (rcells r A n c) 26)
  have hb0 := (Below.refl w.heap.size w).alloc (Nat.le_refl _) (.cells (rcells r A n c) 26)
  have HNAMED := Lib.hid (named_any r A n c l hn hfit.1 hfit.2.2 (w.alloc (.cells (rcells r A n c) 26)) ((h.below hb0).more (by rw [hz]; omega)))
  have hlen0 : (tnew (r.target :: names l)).length ≤ 1 + n := by have := tnew_len (r.target :: names l); rw [List.length_cons, show (names l).length = n from by unfold names; rw [List.length_map, hl]] at this; omega
  have HPOS := Lib.hid (tnew_pos r.target (names l))
  have HZ := Lib.hid hz
  have HB0 := Lib.hid hb0
  have q0 := at_cell (i := 0) h0 rfl
  have q1 := at_cell (i := 1) h0 rfl
  have q2 := at_cell (i := 2) h0 rfl
  have q3 := at_cell (i := 3) h0 rfl
  have q4 := at_cell (i := 4) h0 rfl
  have q5 := at_cell (i := 5) h0 rfl
  have q6 := at_cell (i := 6) h0 rfl
  have Q6 := Lib.hid q6
  obtain ⟨k, t, u, o, m, g⟩ := r
  have hfg := hfit.2.1
  have HFG := Lib.hid hfg
  simp only at hlen0 HPOS hfg HFG
  clear h hb0 hz h0 hfit hl
  unfold rcells at *
  unfold rcv rsv at *
  by_cases hg : g = []
  · subst hg
    have he : (tx ([] : List UInt8)).toList = [] := by simp [tx]
    have hT : Hid (tnew (t :: names l) = rnames ⟨k, t, u, o, m, []⟩ l) := by show _ = _; unfold rnames; simp
    obtain ⟨T, hTT⟩ : ∃ T, T = tnew (t :: names l) := ⟨_, rfl⟩
    rw [← hTT] at hT HPOS hlen0 HNAMED
    clear hTT
    go_enter Try.func45, Try.ntmps45
    go_wp2_with (first
      | (at_make; have hk := HB2.out.size; refine wpList_make_at _ rfl (.tmp 16) (.tmp 16) 22 rfl 9 i0 (.string { data := #[] }) Try.underlying22 hi0 hz0 hz1 .i64 .i64 _ _ T.length T.length rfl rfl rfl rfl (Nat.le_refl _) (by rw [hz2]; omega) (by unfold maxLen; omega) ?_; intro Z HZL HZ2; clear HZ2)
      | (go_at_call 30; have hk := HB2.out.size; refine (Len_any _ _ _ _ _ HT2.out).mono ?_; rintro e w3 ⟨rfl, rfl⟩)
      | (go_at_call 69; refine HNAMED.out.mono ?_; rintro e w2 ⟨tb, rfl, htb0, htb1, ht2, hb2⟩; have p6 := (hb2.cell (p := ⟨w.heap.size, 6, none⟩) (show w.heap.size < _ by rw [HZ.out]; omega)).trans Q6.out; have HB2 := Lib.hid (HB0.out.trans (hb2.mono HB0.out.size)); have HT2 := Lib.hid ht2; clear ht2 hb2 htb0 htb1))
    have HB3 := Lib.hid (HB2.out.alloc HB2.out.size (.cells Z.toArray 9))
    have HT3 := Lib.hid (((HT2.out).wide (S2 := fun k => k < w2.heap.size) (fun k _ hk => hk)).keep (w' := w2.alloc (.cells Z.toArray 9)) (fun k _ hk => Below.heap_alloc _ _ _ hk))
    have HG3 := Lib.hid (one_new w2 (.cells Z.toArray 9))
    have HW2 : Hid (w.heap.size ≤ w2.heap.size) := HB2.out.size
    go_loopw [20] (fun idx wr => NmRel w tb w2.heap.size _ T Z idx wr) (fun idx wr => T.length - (intOf idx).toNat)
    case atStart => exact ⟨0, by omega, rfl, HT3.out, HB3.out, by simpa using HG3.out⟩
    case round =>
      obtain ⟨i, hi, rfl, htb, hb, hgr⟩ := hrel
      have HTB := Lib.hid htb
      have HBR := Lib.hid hb
      have HGR := Lib.hid hgr
      by_cases hlt : i < T.length
      · obtain ⟨s, hs⟩ : ∃ s, T[i]? = some s := ⟨_, List.getElem?_eq_getElem hlt⟩
        have htx := Text_any _ tb _ T i (by omega) wr htb
        have hts : ttext T i = s := by unfold ttext; rw [hs]; rfl
        rw [hts, decide_eq_true hlt] at htx
        have HTX := Lib.hid htx
        unfold tsv at HTX
        have hfz := at_frozen (i := i) hgr
        have hclen : i < ((T.map tsv).take i ++ Z.drop i).length := by have h2 : Z.length = T.length := HZL; simp; omega
        obtain ⟨old, hold⟩ : ∃ u, ((T.map tsv).take i ++ Z.drop i)[i]? = some u := ⟨_, List.getElem?_eq_getElem hclen⟩
        have hcell := at_cell (i := i) hgr (by simpa using hold)
        have HSET : Hid ((wr.setCell ⟨w2.heap.size, i, none⟩ (.string (tx s))).heap[w2.heap.size]? = some (.cells ((T.map tsv).take (i + 1) ++ Z.drop (i + 1)).toArray 9 (0, 0))) := by
          show _ = _
          rw [set_same hgr i (.string (tx s))]
          have := fill_step (T.map tsv) Z i (.string (tx s)) (by rw [List.length_map]; exact HZL) (by rw [List.getElem?_map, hs]; rfl)
          rw [← this]
          simp
        have hi0 : (0 : Int) ≤ (i : Int) := by omega
        have hi1 : (i : Int) < (T.length : Int) := by omega
        clear htb hb hgr htx hts hs hold hclen
        go_wp2_with (go_at_call 31; refine HTX.out.mono ?_; rintro e w3 ⟨rfl, rfl⟩)
        exact ⟨⟨i + 1, by omega, by go_num, HTB.out.keep (fun k hk _ => Below.heap_setCell _ _ _ _ (by show k ≠ w2.heap.size; omega)), HBR.out.setCell HW2.out _, HSET.out⟩, by simp [intOf]; omega⟩
      · obtain rfl : i = T.length := by omega
        have h2 : Z.length = T.length := HZL
        have HGR2 : Hid (wr.heap[w2.heap.size]? = some (.cells (T.map tsv).toArray 9 (0, 0))) := by
          show _ = _
          rw [hgr, List.take_of_length_le (by simp), List.drop_of_length_le (by omega), List.append_nil]
        clear htb hb hgr
        go_wp2
        go_ret
        refine ⟨_, rfl, ?_, HBR.out⟩
        rw [← hT.out]
        exact ownsRow_of_block HW2.out HGR2.out (Nat.le_refl _) (by unfold maxLen; omega) (by simp) (by rw [List.take_of_length_le (by simp)])
  · have he := tx_empty g hg
    have hT : Hid (tput (tnew (t :: names l)) g = rnames ⟨k, t, u, o, m, g⟩ l) := by show _ = _; unfold rnames; simp only [if_neg hg]; rw [tnew_snoc]
    have hlen1 : Hid ((tnew (t :: names l)).length + 1 ≤ 1073741824) := by show _ ≤ _; omega
    obtain ⟨T, hTT⟩ : ∃ T, T = tput (tnew (t :: names l)) g := ⟨_, rfl⟩
    have hlen0' : T.length ≤ 2 + n := by rw [hTT]; have := tput_len (tnew (t :: names l)) g; omega
    have HTT := Lib.hid hTT
    rw [← hTT] at hT
    have hlen0 := hlen0'
    clear hTT hlen0' HPOS hg
    go_enter Try.func45, Try.ntmps45
    go_wp2_with (first
      | (at_make; have hk := HB2.out.size; refine wpList_make_at _ rfl (.tmp 16) (.tmp 16) 22 rfl 9 i0 (.string { data := #[] }) Try.underlying22 hi0 hz0 hz1 .i64 .i64 _ _ T.length T.length rfl rfl rfl rfl (Nat.le_refl _) (by rw [hz2]; omega) (by unfold maxLen; omega) ?_; intro Z HZL HZ2; clear HZ2)
      | (go_at_call 30; have hk := HB2.out.size; refine (Len_any _ _ _ _ _ HT2.out).mono ?_; rintro e w3 ⟨rfl, rfl⟩)
      | (go_at_call 20; have hk := HB1.out.size; refine (ID_any _ _ _ _ g HFG.out hlen1.out (by omega) _ HT1.out).mono ?_; rintro e w2 ⟨rfl, ht2, htu2⟩; rw [← HTT.out] at ht2; have HB2 := Lib.hid (HB1.out.trans (htu2.below (fun k hk => by have := HZ.out; omega) HB1.out.size)); have HT2 := Lib.hid ht2; clear ht2 htu2)
      | (go_at_call 69; refine HNAMED.out.mono ?_; rintro e w1 ⟨tb, rfl, htb0, htb1, ht1, hb1⟩; have p6 := (hb1.cell (p := ⟨w.heap.size, 6, none⟩) (show w.heap.size < _ by rw [HZ.out]; omega)).trans Q6.out; have HB1 := Lib.hid (HB0.out.trans (hb1.mono HB0.out.size)); have HT1 := Lib.hid ht1; clear ht1 hb1 htb0 htb1))
    have HB3 := Lib.hid (HB2.out.alloc HB2.out.size (.cells Z.toArray 9))
    have HT3 := Lib.hid (((HT2.out).wide (S2 := fun k => k < w2.heap.size) (fun k _ hk => hk)).keep (w' := w2.alloc (.cells Z.toArray 9)) (fun k _ hk => Below.heap_alloc _ _ _ hk))
    have HG3 := Lib.hid (one_new w2 (.cells Z.toArray 9))
    have HW2 : Hid (w.heap.size ≤ w2.heap.size) := HB2.out.size
    go_loopw [20] (fun idx wr => NmRel w tb w2.heap.size _ T Z idx wr) (fun idx wr => T.length - (intOf idx).toNat)
    case atStart => exact ⟨0, by omega, rfl, HT3.out, HB3.out, by simpa using HG3.out⟩
    case round =>
      obtain ⟨i, hi, rfl, htb, hb, hgr⟩ := hrel
      have HTB := Lib.hid htb
      have HBR := Lib.hid hb
      have HGR := Lib.hid hgr
      by_cases hlt : i < T.length
      · obtain ⟨s, hs⟩ : ∃ s, T[i]? = some s := ⟨_, List.getElem?_eq_getElem hlt⟩
        have htx := Text_any _ tb _ T i (by omega) wr htb
        have hts : ttext T i = s := by unfold ttext; rw [hs]; rfl
        rw [hts, decide_eq_true hlt] at htx
        have HTX := Lib.hid htx
        unfold tsv at HTX
        have hfz := at_frozen (i := i) hgr
        have hclen : i < ((T.map tsv).take i ++ Z.drop i).length := by have h2 : Z.length = T.length := HZL; simp; omega
        obtain ⟨old, hold⟩ : ∃ u, ((T.map tsv).take i ++ Z.drop i)[i]? = some u := ⟨_, List.getElem?_eq_getElem hclen⟩
        have hcell := at_cell (i := i) hgr (by simpa using hold)
        have HSET : Hid ((wr.setCell ⟨w2.heap.size, i, none⟩ (.string (tx s))).heap[w2.heap.size]? = some (.cells ((T.map tsv).take (i + 1) ++ Z.drop (i + 1)).toArray 9 (0, 0))) := by
          show _ = _
          rw [set_same hgr i (.string (tx s))]
          have := fill_step (T.map tsv) Z i (.string (tx s)) (by rw [List.length_map]; exact HZL) (by rw [List.getElem?_map, hs]; rfl)
          rw [← this]
          simp
        have hi0 : (0 : Int) ≤ (i : Int) := by omega
        have hi1 : (i : Int) < (T.length : Int) := by omega
        clear htb hb hgr htx hts hs hold hclen
        go_wp2_with (go_at_call 31; refine HTX.out.mono ?_; rintro e w3 ⟨rfl, rfl⟩)
        exact ⟨⟨i + 1, by omega, by go_num, HTB.out.keep (fun k hk _ => Below.heap_setCell _ _ _ _ (by show k ≠ w2.heap.size; omega)), HBR.out.setCell HW2.out _, HSET.out⟩, by simp [intOf]; omega⟩
      · obtain rfl : i = T.length := by omega
        have h2 : Z.length = T.length := HZL
        have HGR2 : Hid (wr.heap[w2.heap.size]? = some (.cells (T.map tsv).toArray 9 (0, 0))) := by
          show _ = _
          rw [hgr, List.take_of_length_le (by simp), List.drop_of_length_le (by omega), List.append_nil]
        clear htb hb hgr
        go_wp2
        go_ret
        refine ⟨_, rfl, ?_, HBR.out⟩
        rw [← hT.out]
        exact ownsRow_of_block HW2.out HGR2.out (Nat.le_refl _) (by unfold maxLen; omega) (by simp) (by rw [List.take_of_length_le (by simp)])

end Go.Proofs.Ytidkahmjjknkmaa

/- Rows of payloads; schema.freshTexts. -/
namespace Go.Proofs.Ytidkahmjjknkmaa
open Go.RowKit

/-- Payloads in memory of their own, none of it in S. -/
def RowsV (w : World) (base : Nat) (S : Nat → Prop) (va : Value) (ps : List (List UInt8)) (vs : List Value) : Prop :=
  w.ownsRow base 44 1 va ps.length vs ∧ (∀ g, va.ownBlock = some g → ¬ S g) ∧ vs.length = ps.length ∧ ∀ (i : Nat) (p : List UInt8), ps[i]? = some p → ∃ v, vs[i]? = some v ∧ w.ownsRow base 5 1 v p.length (p.map bv) ∧ (∀ g, v.ownBlock = some g → ¬ S g)
def Rows (w : World) (base : Nat) (S : Nat → Prop) (va : Value) (ps : List (List UInt8)) : Prop := ∃ vs, RowsV w base S va ps vs

theorem RowsV.turn {w w' : World} {base : Nat} {S S2 : Nat → Prop} {va : Value} {ps : List (List UInt8)} {vs : List Value} (h : RowsV w base S va ps vs) (ht : Turn S2 w w') (hs : ∀ k, k < w.heap.size → S2 k → S k) : RowsV w' base S va ps vs := by
  obtain ⟨h1, h2, h3, h4⟩ := h
  refine ⟨own_heap h1 (fun g hg => ht.2.2.2.2 g (own_lt h1 g hg) (fun h5 => h2 g hg (hs g (own_lt h1 g hg) h5))), h2, h3, fun i p hp => ?_⟩
  obtain ⟨v, h5, h6, h7⟩ := h4 i p hp
  exact ⟨v, h5, own_heap h6 (fun g hg => ht.2.2.2.2 g (own_lt h6 g hg) (fun h8 => h7 g hg (hs g (own_lt h6 g hg) h8))), h7⟩
theorem RowsV.below {w w' : World} {base : Nat} {S : Nat → Prop} {va : Value} {ps : List (List UInt8)} {vs : List Value} (h : RowsV w base S va ps vs) (hb : Below w.heap.size w w') : RowsV w' base S va ps vs := h.turn (S2 := fun _ => False) (Turn.of_below hb) (fun _ _ h => h.elim)
/-- Another set, alike where there is memory. -/
theorem RowsV.set {w : World} {base : Nat} {S S2 : Nat → Prop} {va : Value} {ps : List (List UInt8)} {vs : List Value} (h : RowsV w base S va ps vs) (hs : ∀ k, k < w.heap.size → S2 k → S k) : RowsV w base S2 va ps vs := by
  obtain ⟨h1, h2, h3, h4⟩ := h
  refine ⟨h1, fun g hg h5 => h2 g hg (hs g (own_lt h1 g hg) h5), h3, fun i p hp => ?_⟩
  obtain ⟨v, h5, h6, h7⟩ := h4 i p hp
  exact ⟨v, h5, h6, fun g hg h8 => h7 g hg (hs g (own_lt h6 g hg) h8)⟩
theorem RowsV.push {w w' : World} {base : Nat} {S : Nat → Prop} {va va' v : Value} {ps : List (List UInt8)} {p : List UInt8} {vs : List Value} (h : RowsV w base S va ps vs) (hv : w.ownsRow base 5 1 v p.length (p.map bv)) (hvs : ∀ g, v.ownBlock = some g → ¬ S g)
    (ho : w'.ownsRow base 44 1 va' (ps.length + 1) (vs ++ [v])) (hg : w.grownBy w' va.ownBlock) (he : va'.ownBlock = va.ownBlock ∨ va'.ownBlock = some w.heap.size) (hn : ¬ S w.heap.size) : RowsV w' base S va' (ps ++ [p]) (vs ++ [v]) := by
  obtain ⟨h1, h2, h3, h4⟩ := h
  refine ⟨by rw [List.length_append]; exact ho, fun g h5 => ?_, by simp [h3], fun i q hq => ?_⟩
  · rcases he with he | he
    · exact h2 g (he ▸ h5)
    · rw [he] at h5
      obtain rfl : w.heap.size = g := by simpa using h5
      exact hn
  · rcases Nat.lt_or_ge i ps.length with hlt | hge
    · rw [List.getElem?_append_left hlt] at hq
      obtain ⟨u, h5, h6, h7⟩ := h4 i q hq
      exact ⟨u, by rw [List.getElem?_append_left (by rw [h3]; exact hlt)]; exact h5, own_kept h6 (own_apart h1 h6 (by decide)) hg, h7⟩
    · have hi : i = ps.length := by
        rcases Nat.lt_or_ge (i - ps.length) 1 with h5 | h5
        · omega
        · rw [List.getElem?_append_right hge, List.getElem?_eq_none (by simpa using h5)] at hq; cases hq
      subst hi
      obtain rfl : p = q := by simpa using hq
      exact ⟨v, by rw [← h3]; simp, own_kept hv (own_apart h1 hv (by decide)) hg, hvs⟩
theorem rows_nil (w : World) (base : Nat) (S : Nat → Prop) : RowsV w base S (.slice none 0 0) [] [] := ⟨World.ownsRow_nil _ _ _ _, fun g hg => by simp [Value.ownBlock] at hg, rfl, by simp⟩

/-- The payloads of texts that aren't in a table, one behind the other. -/
def freshL : List (List UInt8) → List (List UInt8) → List (List UInt8)
  | _, [] => []
  | tl, s :: ns => if s ∈ tl then freshL tl ns else (0 :: s) :: freshL (tl ++ [s]) ns
theorem freshL_snoc : ∀ (ns tl : List (List UInt8)) (s : List UInt8), freshL tl (ns ++ [s]) = freshL tl ns ++ (if s ∈ ns.foldl tput tl then [] else [0 :: s])
  | [], tl, s => by
    show (if s ∈ tl then [] else [0 :: s]) = [] ++ (if s ∈ tl then [] else [0 :: s])
    simp
  | a :: ns, tl, s => by
    show (if a ∈ tl then freshL tl (ns ++ [s]) else (0 :: a) :: freshL (tl ++ [a]) (ns ++ [s])) = (if a ∈ tl then freshL tl ns else (0 :: a) :: freshL (tl ++ [a]) ns) ++ (if s ∈ ns.foldl tput (tput tl a) then [] else [0 :: s])
    by_cases h : a ∈ tl
    · rw [if_pos h, if_pos h, freshL_snoc, tput_in h]
    · rw [if_neg h, if_neg h, freshL_snoc, tput_new h]
      rfl
theorem freshL_len : ∀ (ns tl : List (List UInt8)), (freshL tl ns).length ≤ ns.length
  | [], _ => by simp [freshL]
  | a :: ns, tl => by
    unfold freshL
    split
    · have := freshL_len ns tl; simp; omega
    · have := freshL_len ns (tl ++ [a]); simp; omega

/-- What stands at a round of freshTexts. -/
def FtRel (S : Nat → Prop) (bt N : Nat) (tl ns : List (List UInt8)) (w : World) (vn va idx : Value) (wr : World) : Prop :=
  ∃ (i : Nat) (S' : Nat → Prop) (va' : Value), va' = va ∧ i ≤ ns.length ∧ idx = .int .i64 (i : Int) ∧ Tab wr S' bt (N + i) ((ns.take i).foldl tput tl) ∧ (∀ k, S' k → k < wr.heap.size ∧ (S k ∨ w.heap.size ≤ k)) ∧ wr.ownsRow w.heap.size 9 1 vn ns.length (ns.map tsv) ∧ (∀ g, vn.ownBlock = some g → ¬ S' g) ∧ Rows wr w.heap.size S' va' (freshL tl (ns.take i)) ∧ Turn S w wr

set_option maxRecDepth 100000 in
set_option maxHeartbeats 4000000 in
theorem fresh_two (S : Nat → Prop) (bt N n c : Nat) (ver : Int) (hv : ¬ ver < 2) (tl : List (List UInt8)) (r : Rc) (A : Option Addr) (l : List Dp) (hn : n ≤ 1000) (hfit : Fits r l) (hnl : ∀ s ∈ rnames r l, s.length ≤ 64) (htl : tl.length ≤ 1000000000) (hN : N ≤ 1000000000) (hns : (rnames r l).length ≤ 2000) (w : World) (hT : Tab w S bt N tl) (hr : Reads w w.heap.size 3 A n (dps l)) :
    Calls Try.prog 22 #[.int .i64 ver, .pointer (some ⟨bt, 0, none⟩), .agg #[.int .i64 r.kind, .string (tx r.target), .int .u64 r.rule, .slice A n c, .int .u64 r.out, .int .u64 r.time, .string (tx r.tag)]] w fun e w' => ∃ (va : Value) (S' : Nat → Prop), e = .returned va ∧ Tab w' S' bt (N + (rnames r l).length) ((rnames r l).foldl tput tl) ∧ (∀ k, S' k → k < w'.heap.size ∧ (S k ∨ w.heap.size ≤ k)) ∧ Rows w' w.heap.size S' va (freshL tl (rnames r l)) ∧ Turn S w w' := by
  obtain ⟨i0, ii0, iz0, iz1, iz2⟩ := info_parts (show (Try.prog.info? 44).map (fun i => (i.zero, i.size, i.bytes)) = some (some (.slice none 0 0), 1, 24) from by kernel_rfl)
  obtain ⟨i5, ji0, jz0, jz1, jz2⟩ := info_parts info5
  have hz : (w.alloc (.cells #[.int .i64 r.kind, .string (tx r.target), .int .u64 r.rule, .slice A n c, .int .u64 r.out, .int .u64 r.time, .string (tx r.tag)] 26)).heap.size = w.heap.size + 1 := by simp
  have hb0 := (Below.refl w.heap.size w).alloc (Nat.le_refl _) (.cells #[.int .i64 r.kind, .string (tx r.target), .int .u64 r.rule, .slice A n c, .int .u64 r.out, .int .u64 r.time, .string (tx r.tag)] 26)
  have h0 := one_new w (.cells #[.int .i64 r.kind, .string (tx r.target), .int .u64 r.rule, .slice A n c, .int .u64 r.out, .int .u64 r.time, .string (tx r.tag)] 26)
  have HNAMES := Lib.hid (names_any r A n c l hn hfit (w.alloc (.cells #[.int .i64 r.kind, .string (tx r.target), .int .u64 r.rule, .slice A n c, .int .u64 r.out, .int .u64 r.time, .string (tx r.tag)] 26)) ((hr.below hb0).more (by rw [hz]; omega)))
  unfold rcv rsv at HNAMES
  have q0 := at_cell (i := 0) h0 rfl
  have q1 := at_cell (i := 1) h0 rfl
  have q2 := at_cell (i := 2) h0 rfl
  have q3 := at_cell (i := 3) h0 rfl
  have q4 := at_cell (i := 4) h0 rfl
  have q5 := at_cell (i := 5) h0 rfl
  have q6 := at_cell (i := 6) h0 rfl
  have d1 : decide (ver < 2) = false := decide_eq_false hv
  obtain ⟨ns, hnse⟩ : ∃ ns, ns = rnames r l := ⟨_, rfl⟩
  rw [← hnse] at HNAMES hnl hns ⊢
  obtain ⟨m, hm⟩ : ∃ m, m = ns.length := ⟨_, rfl⟩
  have HM := Lib.hid hm
  have HNL := Lib.hid hnl
  have HT := Lib.hid hT
  have HB0 := Lib.hid hb0
  have HZ := Lib.hid hz
  have hm2 : m ≤ 2000 := by omega
  have HTL := Lib.hid htl
  have HNN := Lib.hid hN
  clear h0 hb0 hz hT hr hv hnl hns hnse hm hfit htl hN
  go_enter Try.func22, Try.ntmps22
  go_wp2_with (go_at_call 45; refine HNAMES.out.mono ?_; rintro e w5 ⟨v5, rfl, ho5, hb5⟩; unfold Own at ho5; rw [← HM.out] at ho5; obtain ⟨A5, c5, rfl, hc5⟩ := own_slice ho5; have HO5 := Lib.hid ho5; have HB5 := Lib.hid (HB0.out.trans (hb5.mono HB0.out.size)); clear ho5 hb5)
  go_loopw [7, 17] (fun va idx wr => FtRel S bt N tl ns w (.slice A5 m c5) va idx wr) (fun va idx wr => m - (intOf idx).toNat)
  case atStart =>
    refine ⟨0, fun k => S k ∧ k < w.heap.size, _, rfl, by omega, rfl, ?_, fun k hk => ⟨by have h1 := HB5.out.size; omega, .inl hk.1⟩, ?_, ?_, ⟨[], rows_nil _ _ _⟩, Turn.of_below HB5.out⟩
    · exact (HT.out.wide (fun k h1 h2 => ⟨h1, h2⟩)).keep (fun k hk _ => HB5.out.block k hk.2)
    · rw [← HM.out]
      exact own_less HO5.out (by rw [HZ.out]; omega)
    · exact own_set HO5.out (fun k hk => by rw [HZ.out]; omega)
  case round =>
    obtain ⟨i, S', va, rfl, hi, rfl, ht, hs', hon, hgn, hrows, htu⟩ := hrel
    rw [← HM.out] at hi hon
    have HON := Lib.hid hon
    have HTU := Lib.hid htu
    have HS' := Lib.hid hs'
    by_cases hlt : i < m
    · obtain ⟨vs, hvs⟩ := hrows
      have HVS := Lib.hid hvs
      obtain ⟨s, hs⟩ : ∃ s, ns[i]? = some s := ⟨_, List.getElem?_eq_getElem (by rw [← HM.out]; exact hlt)⟩
      obtain ⟨ad, rfl, _, hcx⟩ := (Reads.of_own hon).2 (by omega)
      have k0 := hcx i (tsv s) (by rw [List.getElem?_map, hs]; rfl)
      have hsl := HNL.out s (List.mem_of_getElem? hs)
      have htk : (ns.take (i + 1)).foldl tput tl = tput ((ns.take i).foldl tput tl) s := by rw [List.take_add_one, hs, List.foldl_append]; rfl
      have hfl : freshL tl (ns.take (i + 1)) = freshL tl (ns.take i) ++ (if s ∈ (ns.take i).foldl tput tl then [] else [0 :: s]) := by rw [List.take_add_one, hs]; exact freshL_snoc _ _ _
      have HTK := Lib.hid htk
      have HFL := Lib.hid hfl
      have hlen := tfold_len (ns.take i) tl
      have hlen2 := freshL_len (ns.take i) tl
      rw [List.length_take] at hlen hlen2
      have HID := Lib.hid (ID_any S' bt (N + i) _ s (by unfold maxLen; omega) (by have := HTL.out; omega) (by have := HNN.out; omega) wr ht)
      unfold tsv at k0 HID
      obtain ⟨q, hq⟩ : ∃ q, q = decide (s ∈ (ns.take i).foldl tput tl) := ⟨_, rfl⟩
      rw [← hq] at HID
      have HQ := Lib.hid hq
      have hssz : (tx s).size = s.length := tx_size s
      have HSSZ := Lib.hid hssz
      have HSL := Lib.hid hsl
      have HLEN2 : Hid ((freshL tl (ns.take i)).length ≤ 2000) := by show _ ≤ _; omega
      -- behind ID: the table's set, cut off at what there is
      have BEH : Hid (∀ w6, Tab w6 (fun k => S' k ∨ wr.heap.size ≤ k) bt (N + i + 1) (tput ((ns.take i).foldl tput tl) s) → Turn S' wr w6 → (Tab w6 (fun k => (S' k ∨ wr.heap.size ≤ k) ∧ k < w6.heap.size) bt (N + (i + 1)) ((ns.take (i + 1)).foldl tput tl) ∧ (∀ k, ((S' k ∨ wr.heap.size ≤ k) ∧ k < w6.heap.size) → k < w6.heap.size ∧ (S k ∨ w.heap.size ≤ k)) ∧ w6.ownsRow w.heap.size 9 1 (.slice (some ad) m c5) m (ns.map tsv) ∧ (∀ g, (Value.slice (some ad) m c5).ownBlock = some g → ¬ ((S' g ∨ wr.heap.size ≤ g) ∧ g < w6.heap.size)) ∧ Turn S w w6 ∧ RowsV w6 w.heap.size (fun k => (S' k ∨ wr.heap.size ≤ k) ∧ k < w6.heap.size) va (freshL tl (ns.take i)) vs)) := fun w6 h1 h2 => by
        refine ⟨by rw [HTK.out]; exact (h1.wide (fun k a b => ⟨a, b⟩)), fun k hk => ⟨hk.2, ?_⟩, own_heap HON.out (fun g hg => h2.2.2.2.2 g (own_lt HON.out g hg) (hgn g hg)), fun g hg h3 => ?_, htu.trans h2 (fun k h3 h4 => ?_), ?_⟩
        · rcases hk.1 with h3 | h3
          · exact (HS'.out k h3).2
          · exact .inr (by have := htu.2.2.2.1; omega)
        · rcases h3.1 with h4 | h4
          · exact hgn g hg h4
          · have := own_lt HON.out g hg; omega
        · rcases (HS'.out k h4).2 with h5 | h5
          · exact h5
          · omega
        · obtain ⟨e1, e2, e3, e4⟩ := HVS.out
          obtain ⟨g1, g2, g3, g4⟩ := HVS.out.turn h2 (fun _ _ h => h)
          refine ⟨g1, fun g hg h5 => ?_, g3, fun j p hp => ?_⟩
          · rcases h5.1 with h6 | h6
            · exact g2 g hg h6
            · have := own_lt e1 g hg; omega
          · obtain ⟨v, f1, f2, f3⟩ := g4 j p hp
            obtain ⟨v', c1, c2, c3⟩ := e4 j p hp
            obtain rfl : v = v' := by rw [f1] at c1; exact Option.some.inj c1
            refine ⟨v, f1, f2, fun g hg h5 => ?_⟩
            rcases h5.1 with h6 | h6
            · exact f3 g hg h6
            · have := own_lt c2 g hg; omega
      have hi0 : (0 : Int) ≤ (i : Int) := by omega
      have hi1 : (i : Int) < (m : Int) := by omega
      clear hcx hs htk hfl hlen hlen2 ht hs' hon hgn hvs htu hq hssz hsl
      cases q with
      | true =>
        have HIN := Lib.hid (of_decide_eq_true HQ.out.symm)
        go_wp2_with (go_at_call 20; refine HID.out.mono ?_; rintro e w6 ⟨rfl, ht6, htu6⟩; have HB := Lib.hid (BEH.out w6 ht6 htu6); clear ht6 htu6)
        refine ⟨⟨i + 1, _, _, rfl, by rw [← HM.out]; omega, by go_num, HB.out.1, HB.out.2.1, by rw [← HM.out]; exact HB.out.2.2.1, HB.out.2.2.2.1, ?_, HB.out.2.2.2.2.1⟩, by simp [intOf]; omega⟩
        rw [HFL.out, if_pos HIN.out, List.append_nil]
        exact ⟨vs, HB.out.2.2.2.2.2⟩
      | false =>
        have HIN := Lib.hid (of_decide_eq_false HQ.out.symm)
        go_wp2_with (first
          | (at_builtin; refine wpList_append_told _ rfl (.tmp 28) (.tmp 32) 32 rfl w.heap.size 44 i0 _ 1 24 Try.underlying32 ii0 iz0 iz1 iz2 rfl (by decide) va _ vs rfl HRV9.out.1 (some ⟨w8.heap.size, 0, none⟩) 1 1 (w8.heap.size + 1) [.slice A8 (1 + s.length) c8] rfl (by simp) HR9.out (fun u hu => by obtain rfl := List.mem_singleton.1 hu; rfl) (by have := HLEN2.out; unfold maxLen; omega) (by have := HLEN2.out; omega) (by have h1 := HB9.out.size; have h2 := HB.out.2.2.2.2.1.2.2.2.1; omega) ?_; intro v10 w10 ho10 hg10 hv10; have HO10 := Lib.hid ho10; have HG10 := Lib.hid hg10; have HV10 := Lib.hid hv10; clear ho10 hg10 hv10)
          | (at_builtin; have ho7 := ownsRow_of_block (base := w6.heap.size) (cap := 1) (n := 1) (cs := [bv 0]) (xs := [bv 0]) (Nat.le_refl _) (one_new w6 (.cells #[.int .u8 0] 5)) (Nat.le_refl _) (by unfold maxLen; omega) rfl rfl; refine Lib.wpList_append_own_string _ rfl (.tmp 29) (.tmp 30) 44 9 rfl w6.heap.size 5 i5 Try.underlying44 Try.underlying9 ji0 jz0 jz1 jz2 (.slice (some ⟨w6.heap.size, 0, none⟩) 1 1) 1 [bv 0] rfl ho7 (tx s) rfl (by rw [HSSZ.out]; have := HSL.out; unfold maxLen; omega) (by rw [HSSZ.out]; have := HSL.out; omega) (by simp) ?_; intro v8 w8 ho8 hg8 _; rw [HSSZ.out, strCells_tx] at ho8; obtain ⟨A8, c8, rfl, hc8⟩ := own_slice ho8; have HO8 := Lib.hid (World.ownsRow.alloc ho8 (.cells #[.slice A8 (1 + s.length) c8] 44)); have HC8 := Lib.hid hc8; have HB9 := Lib.hid ((((Below.refl w6.heap.size w6).alloc (Nat.le_refl _) (.cells #[.int .u8 0] 5)).grown hg8 (by simp) (fun g hg => by have h1 : w6.heap.size = g := (by simpa [Value.ownBlock] using hg); omega)).alloc (by have h1 := hg8.size; simp at h1; omega) (.cells #[.slice A8 (1 + s.length) c8] 44)); have HR9 := Lib.hid (reads_one_row w8 44 (.slice A8 (1 + s.length) c8)); have HRV9 := Lib.hid (HB.out.2.2.2.2.2.below HB9.out); clear ho7 ho8 hg8 hc8)
          | (go_at_call 20; refine HID.out.mono ?_; rintro e w6 ⟨rfl, ht6, htu6⟩; have HB := Lib.hid (BEH.out w6 ht6 htu6); clear ht6 htu6))
        have htu10 : Turn (fun k => va.ownBlock = some k) w6 w10 := (Turn.of_below HB9.out).grown HG10.out (fun k hk _ => hk)
        have hvb := HB.out.2.2.2.2.2.2.1
        refine ⟨⟨i + 1, _, _, rfl, by rw [← HM.out]; omega, by go_num, HB.out.1.turn htu10 (fun k h1 _ h2 => hvb k h2 h1), fun k hk => ⟨Nat.lt_of_lt_of_le hk.2 htu10.2.2.2.1, (HB.out.2.1 k hk).2⟩, by rw [← HM.out]; exact own_heap HB.out.2.2.1 (fun g hg => htu10.2.2.2.2 g (own_lt HB.out.2.2.1 g hg) (fun h => own_apart HB.out.2.2.1 HB.out.2.2.2.2.2.1 (by decide) g hg h)), HB.out.2.2.2.1, ?_, HB.out.2.2.2.2.1.trans htu10 (fun k h1 h2 => by have := own_block HB.out.2.2.2.2.2.1 k h2; omega)⟩, by simp [intOf]; omega⟩
        rw [HFL.out, if_neg HIN.out]
        refine ⟨_, HRV9.out.push (v := .slice A8 (1 + s.length) c8) (p := 0 :: s) ?_ ?_ HO10.out HG10.out HV10.out ?_⟩
        · have h1 := own_less HO8.out (show w.heap.size ≤ w6.heap.size from HB.out.2.2.2.2.1.2.2.2.1)
          rw [show (0 :: s).length = 1 + s.length by simp; omega]
          exact h1
        · exact own_set HO8.out (fun k hk => hk.2)
        · intro h
          have h1 := HB9.out.size
          have h2 := h.2
          omega
    · obtain rfl : i = m := by omega
      rw [HM.out, List.take_length] at ht hrows
      have HTT := Lib.hid ht
      have HRR := Lib.hid hrows
      clear ht hrows hs' hon hgn htu
      go_wp2
      go_ret
      exact ⟨_, S', rfl, HTT.out, HS'.out, HRR.out, HTU.out⟩

end Go.Proofs.Ytidkahmjjknkmaa

/- What Put lays; schema.written at a record that may be. -/
namespace Go.Proofs.Ytidkahmjjknkmaa
open Go.RowKit

/-- The table behind Put. -/
def tabT (ver : Int) (tl : List (List UInt8)) (r : Rc) (l : List Dp) : List (List UInt8) := if ver < 2 then tl else (rnames r l).foldl tput tl
/-- The texts' payloads. -/
def freT (ver : Int) (tl : List (List UInt8)) (r : Rc) (l : List Dp) : List (List UInt8) := if ver < 2 then [] else freshL tl (rnames r l)
/-- A record's last payload, by the table then. -/
def payB (ver : Int) (tl : List (List UInt8)) (r : Rc) (l : List Dp) : List UInt8 :=
  if r.kind = 2 then 2 :: nmB ver tl r.target
  else 1 :: (nmB ver tl r.target ++ (vb r.rule.toNat ++ (fDeps ver tl l ++ (vb r.out.toNat ++ ((if ver < 2 then [] else vb r.time.toNat) ++ (if ver < 3 then [] else fTag tl r))))))
/-- All payloads. -/
def payL (ver : Int) (tl : List (List UInt8)) (r : Rc) (l : List Dp) : List (List UInt8) := freT ver tl r l ++ [payB ver (tabT ver tl r l) r l]

theorem may_names {v : Int} {r : Rc} {l : List Dp} (h : MayP v r l) : r.target.length ≤ 64 ∧ r.tag.length ≤ 64 ∧ l.length ≤ 16 ∧ ∀ d ∈ l, d.name.length ≤ 64 := by
  obtain ⟨_, _, ht, h⟩ := h
  have h0 : r.target.length ≤ 64 := (of_decide_eq_true ht).2
  rcases h with ⟨_, _, hg, hd⟩ | ⟨_, hr, hl⟩
  · refine ⟨h0, ?_, hd.1, fun d hm => ?_⟩
    · rcases hg with hg | hg
      · rw [hg]; simp
      · exact hg.2
    · exact (of_decide_eq_true (hd.2.1 d hm).1).2
  · refine ⟨h0, ?_, by rw [hl]; simp, by rw [hl]; simp⟩
    rw [hr]; simp
theorem tnew_in {ts : List (List UInt8)} {s : List UInt8} (h : s ∈ tnew ts) : s ∈ ts := by
  have key : ∀ (ts l : List (List UInt8)), s ∈ ts.foldl tput l → s ∈ l ∨ s ∈ ts := by
    intro ts
    induction ts with
    | nil => intro l h; exact .inl h
    | cons a ts ih =>
      intro l h
      rcases ih (tput l a) h with h | h
      · unfold tput at h
        split at h
        · exact .inl h
        · rcases List.mem_append.1 h with h | h
          · exact .inl h
          · exact .inr (by simp at h; simp [h])
      · exact .inr (by simp [h])
  rcases key ts [] h with h | h
  · simp at h
  · exact h
theorem rnames_le {v : Int} {r : Rc} {l : List Dp} (h : MayP v r l) : (∀ s ∈ rnames r l, s.length ≤ 64) ∧ (rnames r l).length ≤ 18 := by
  obtain ⟨h1, h2, h3, h4⟩ := may_names h
  refine ⟨fun s hs => ?_, ?_⟩
  · have hm := tnew_in hs
    rcases List.mem_append.1 hm with hm | hm
    · rcases List.mem_cons.1 hm with rfl | hm
      · exact h1
      · obtain ⟨d, hd, rfl⟩ := List.mem_map.1 hm
        exact h4 d hd
    · split at hm
      · simp at hm
      · obtain rfl : s = r.tag := by simpa using hm
        exact h2
  · have := tnew_len (r.target :: names l ++ (if r.tag = [] then [] else [r.tag]))
    unfold rnames
    have h5 : (r.target :: names l ++ (if r.tag = [] then [] else [r.tag])).length ≤ 18 := by
      rw [List.length_append, List.length_cons, show (names l).length = l.length from List.length_map _]
      split <;> simp <;> omega
    omega

theorem fDeps_len {ver : Int} {tl : List (List UInt8)} {l : List Dp} (hl : l.length ≤ 16) (hd : ∀ d ∈ l, d.name.length ≤ 64) (hh : ∀ d ∈ l, 0 ≤ d.hash ∧ d.hash < 18446744073709551616) (ht : tl.length ≤ 1073741824) : (fDeps ver tl l).length ≤ 10000 := by
  unfold fDeps
  rw [List.length_append]
  have h1 := fDeps_take ver tl l (m := l.length) hd hh ht
  rw [List.take_length] at h1
  have h2 := vb_len l.length (small_vb (by omega))
  omega
theorem fTag_len {tl : List (List UInt8)} {r : Rc} (ht : tl.length ≤ 1073741824) : (fTag tl r).length ≤ 10 := by
  unfold fTag
  split
  · exact vb_len 0 (small_vb (by omega))
  · exact vb_len _ (small_vb (by have := tnum_le (s := r.tag) ht; omega))

theorem kind_may {v : Int} {r : Rc} {l : List Dp} (h : MayP v r l) : (r.kind = 1 ∧ 1 ≤ v ∧ v ≤ 3) ∨ r.kind = 2 := by
  obtain ⟨h1, h2, _, h⟩ := h
  rcases h with ⟨h, _⟩ | ⟨h, _⟩
  · exact .inl ⟨h, h1, h2⟩
  · exact .inr h

theorem written_any (T : Nat → Prop) (bt N n c : Nat) (ver : Int) (tl : List (List UInt8)) (r : Rc) (A : Option Addr) (l : List Dp) (hm : MayP ver r l) (hnu : Nums r l) (htl : tl.length ≤ 1073741824) (w : World) (hT : Tab w T bt N tl) (hr : Reads w w.heap.size 3 A n (dps l)) :
    Calls Try.prog 23 #[.int .i64 ver, .pointer (some ⟨bt, 0, none⟩), rcv r A n c] w fun e w' => ∃ v, e = .returned v ∧ w'.ownsRow w.heap.size 5 1 v (payB ver tl r l).length ((payB ver tl r l).map bv) ∧ Below w.heap.size w w' := by
  obtain ⟨h1, h2, h3, h4⟩ := may_names hm
  have hn : n ≤ 1000 := by have := hr.1; rw [dps_len] at this; omega
  have hvt := vb_len _ (num_nat hnu.1).2
  have hvo := vb_len _ (num_nat hnu.2.1).2
  have hvw := vb_len _ (num_nat hnu.2.2.1).2
  have hnm := nmB_len (ver := ver) h1 htl
  have hfd := fDeps_len (ver := ver) h3 h4 hnu.2.2.2 htl
  have hfg := fTag_len (r := r) htl
  have L0 : ∀ (S T : Nat → Prop) (B : Nat), Lays 46 S (w.heap.size + 1 + 1) ver bt w.heap.size (fun W => Env W S T bt N tl w.heap.size r A n c l B) (nmB ver tl r.target) := fun S T B => lays_target S T _ bt N _ n c B ver tl r A l htl h1
  have L1 : ∀ (S T : Nat → Prop) (B : Nat), Lays 47 S (w.heap.size + 1 + 1) ver bt w.heap.size (fun W => Env W S T bt N tl w.heap.size r A n c l B) (vb r.rule.toNat) := fun S T B => lays_rule S T _ bt N _ n c B ver tl r A l hnu
  have L2 : ∀ (S T : Nat → Prop) (B : Nat), Lays 48 S (w.heap.size + 1 + 1) ver bt w.heap.size (fun W => Env W S T bt N tl w.heap.size r A n c l B) (fDeps ver tl l) := fun S T B => lays_deps S T _ bt N _ n c B ver tl r A l htl hnu h4 hn
  have L3 : ∀ (S T : Nat → Prop) (B : Nat), Lays 49 S (w.heap.size + 1 + 1) ver bt w.heap.size (fun W => Env W S T bt N tl w.heap.size r A n c l B) (vb r.out.toNat) := fun S T B => lays_out S T _ bt N _ n c B ver tl r A l hnu
  have L4 : ∀ (S T : Nat → Prop) (B : Nat), Lays 50 S (w.heap.size + 1 + 1) ver bt w.heap.size (fun W => Env W S T bt N tl w.heap.size r A n c l B) (vb r.time.toNat) := fun S T B => lays_when S T _ bt N _ n c B ver tl r A l hnu
  have L5 : ∀ (S T : Nat → Prop) (B : Nat), Lays 51 S (w.heap.size + 1 + 1) ver bt w.heap.size (fun W => Env W S T bt N tl w.heap.size r A n c l B) (fTag tl r) := fun S T B => lays_tag S T _ bt N _ n c B ver tl r A l htl h2
  rcases kind_may hm with ⟨hk, hv1, hv2⟩ | hk
  · have hv : ver = 1 ∨ ver = 2 ∨ ver = 3 := by omega
    rcases hv with rfl | rfl | rfl
    · have hp : payB 1 tl r l = 1 :: flat [(46, nmB 1 tl r.target), (47, vb r.rule.toNat), (48, fDeps 1 tl l), (49, vb r.out.toNat)] := by
        unfold payB
        rw [if_neg (by omega)]
        simp [flat]
      rw [hp]
      refine written_core T bt N n c 1 tl r A l 1 hk (by decide) [(46, nmB 1 tl r.target), (47, vb r.rule.toNat), (48, fDeps 1 tl l), (49, vb r.out.toNat)] (by simp) ?_ ?_ w hT hr ?_ ?_
      · intro x hx
        simp only [List.mem_cons, List.not_mem_nil, or_false] at hx
        rcases hx with rfl | rfl | rfl | rfl <;> (simp only []; omega)
      · intro x hx
        simp only [List.mem_cons, List.not_mem_nil, or_false] at hx
        rcases hx with rfl | rfl | rfl | rfl <;> simp
      · intro W
        rw [hk]
        exact of_11 46 47 48 49 50 51 (.pointer (some ⟨w.heap.size + 1 + 1, 0, none⟩)) W
      · intro x hx S T B
        simp only [List.mem_cons, List.not_mem_nil, or_false] at hx
        rcases hx with rfl | rfl | rfl | rfl
        · exact L0 S T B
        · exact L1 S T B
        · exact L2 S T B
        · exact L3 S T B
    · have hp : payB 2 tl r l = 1 :: flat [(46, nmB 2 tl r.target), (47, vb r.rule.toNat), (48, fDeps 2 tl l), (49, vb r.out.toNat), (50, vb r.time.toNat)] := by
        unfold payB
        rw [if_neg (by omega)]
        simp [flat]
      rw [hp]
      refine written_core T bt N n c 2 tl r A l 1 hk (by decide) [(46, nmB 2 tl r.target), (47, vb r.rule.toNat), (48, fDeps 2 tl l), (49, vb r.out.toNat), (50, vb r.time.toNat)] (by simp) ?_ ?_ w hT hr ?_ ?_
      · intro x hx
        simp only [List.mem_cons, List.not_mem_nil, or_false] at hx
        rcases hx with rfl | rfl | rfl | rfl | rfl <;> (simp only []; omega)
      · intro x hx
        simp only [List.mem_cons, List.not_mem_nil, or_false] at hx
        rcases hx with rfl | rfl | rfl | rfl | rfl <;> simp
      · intro W
        rw [hk]
        exact of_21 46 47 48 49 50 51 (.pointer (some ⟨w.heap.size + 1 + 1, 0, none⟩)) W
      · intro x hx S T B
        simp only [List.mem_cons, List.not_mem_nil, or_false] at hx
        rcases hx with rfl | rfl | rfl | rfl | rfl
        · exact L0 S T B
        · exact L1 S T B
        · exact L2 S T B
        · exact L3 S T B
        · exact L4 S T B
    · have hp : payB 3 tl r l = 1 :: flat [(46, nmB 3 tl r.target), (47, vb r.rule.toNat), (48, fDeps 3 tl l), (49, vb r.out.toNat), (50, vb r.time.toNat), (51, fTag tl r)] := by
        unfold payB
        rw [if_neg (by omega)]
        simp [flat]
      rw [hp]
      refine written_core T bt N n c 3 tl r A l 1 hk (by decide) [(46, nmB 3 tl r.target), (47, vb r.rule.toNat), (48, fDeps 3 tl l), (49, vb r.out.toNat), (50, vb r.time.toNat), (51, fTag tl r)] (by simp) ?_ ?_ w hT hr ?_ ?_
      · intro x hx
        simp only [List.mem_cons, List.not_mem_nil, or_false] at hx
        rcases hx with rfl | rfl | rfl | rfl | rfl | rfl <;> (simp only []; omega)
      · intro x hx
        simp only [List.mem_cons, List.not_mem_nil, or_false] at hx
        rcases hx with rfl | rfl | rfl | rfl | rfl | rfl <;> simp
      · intro W
        rw [hk]
        exact of_31 46 47 48 49 50 51 (.pointer (some ⟨w.heap.size + 1 + 1, 0, none⟩)) W
      · intro x hx S T B
        simp only [List.mem_cons, List.not_mem_nil, or_false] at hx
        rcases hx with rfl | rfl | rfl | rfl | rfl | rfl
        · exact L0 S T B
        · exact L1 S T B
        · exact L2 S T B
        · exact L3 S T B
        · exact L4 S T B
        · exact L5 S T B
  · have hp : payB ver tl r l = 2 :: flat [(46, nmB ver tl r.target)] := by
      unfold payB
      rw [if_pos hk]
      simp [flat]
    rw [hp]
    refine written_core T bt N n c ver tl r A l 2 hk (by decide) [(46, nmB ver tl r.target)] (by simp) ?_ ?_ w hT hr ?_ ?_
    · intro x hx
      obtain rfl := List.mem_singleton.1 hx
      simp only []; omega
    · intro x hx
      obtain rfl := List.mem_singleton.1 hx
      simp
    · intro W
      rw [hk]
      exact of_2 46 47 48 49 50 51 (.pointer (some ⟨w.heap.size + 1 + 1, 0, none⟩)) ver W
    · intro x hx S T B
      obtain rfl := List.mem_singleton.1 hx
      exact L0 S T B

end Go.Proofs.Ytidkahmjjknkmaa
