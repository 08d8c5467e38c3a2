/- RecordOnward at any record. -/
import Derived.Test.YtigkpcildopmfaaRq
import Derived.Test.YtigkpcildopmfaaRl2
namespace Go.Proofs.Ytigkpcildopmfaa
open Go.RowKit

theorem and_mono {P : Prop} {e : Ending} {w w' : World} {b : Bool} (hp : b = true ↔ P) (h : Tells P e ∧ Below w.heap.size w w') : e = .returned (.bool b) ∧ Below w.heap.size w w' := by
  obtain ⟨⟨q, h1, h2⟩, h3⟩ := h
  exact ⟨by rw [h2]; congr 2; rw [Bool.eq_iff_iff, h1, hp], h3⟩

set_option maxRecDepth 100000 in
set_option maxHeartbeats 400000 in
theorem onward_great (r : Rc) (A : Option Addr) (n c : Nat) (w : World)
    (HG : Hid (Calls Try.prog 6 #[rcv r A n c] (w.alloc (.cells (rcells r A n c) 25)) fun e w' => e = .returned (.bool true) ∧ Below (w.alloc (.cells (rcells r A n c) 25)).heap.size (w.alloc (.cells (rcells r A n c) 25)) w'))
    (HFX : Hid (∀ W, Calls Try.prog 7 #[] W fun e w' => e = .returned (.bool true) ∧ Below W.heap.size W w')) :
    Calls Try.prog 5 #[rcv r A n c] w fun e w' => e = .returned (.bool true) ∧ Below w.heap.size w w' := by
  have HB0 := Lib.hid ((Below.refl w.heap.size w).alloc (Nat.le_refl _) (.cells (rcells r A n c) 25))
  unfold rcv rsv rcells at *
  go_enter Try.func5, Try.ntmps5
  go_wp2_with (first
    | (go_at_call 7; have hk := HB2.out.size; refine (HFX.out _).mono ?_; rintro e w3 ⟨rfl, hb3⟩; have HB3 := Lib.hid (HB2.out.trans (hb3.mono HB2.out.size)))
    | (go_at_call 6; refine HG.out.mono ?_; rintro e w2 ⟨rfl, hb2⟩; have HB2 := Lib.hid (HB0.out.trans (hb2.mono HB0.out.size)); clear hb2))
  go_ret
  exact ⟨rfl, HB3.out⟩

theorem onward_any (r : Rc) (A : Option Addr) (n c : Nat) (l : List Dp) (hn : n ≤ maxLen) (hfit : Fits r l) (w : World) (h : Reads w w.heap.size 3 A n (dps l)) :
    Calls Try.prog 5 #[rcv r A n c] w fun e w' => e = .returned (.bool true) ∧ Below w.heap.size w w' := by
  have hg := great_says r A n c l (w.alloc (.cells (rcells r A n c) 25)) hn hfit.2.2 hfit.1 hfit.2.1 ((h.alloc (Nat.le_refl _) _).more (by simp))
  have hfx : Hid (∀ W, Calls Try.prog 7 #[] W fun e w' => e = .returned (.bool true) ∧ Below W.heap.size W w') := rfixed_any
  have hl : l.length = n := by have := h.1; rw [dps_len] at this; omega
  by_cases hs : small r l
  · have hn60 : n ≤ 60 := by rw [← hl]; exact hs.2.1
    have HG := Lib.hid (hg.mono fun e w' h => and_mono (b := false) (by simp [hs]) h)
    have hm : ∀ (v : Int) (b : Bool) (_ : b = true ↔ MayP v r l) (W : World), Below w.heap.size w W → Calls Try.prog 8 #[.int .i64 v, rcv r A n c] W fun e w' => e = .returned (.bool b) ∧ Below W.heap.size W w' :=
      fun v b hb W hbl => (may_any v r A n c l (by omega) hfit W ((h.below hbl).more hbl.size)).mono fun e w' h => and_mono hb h
    have hm0 := Lib.hid (hm 0 false (by simp; intro h; have := h.1; omega))
    have hm4 := Lib.hid (hm 4 false (by simp; intro h; have := h.2.1; omega))
    have hx : r.kind = 1 → MayP 2 r l → Hid (∀ W, Below w.heap.size w W → Calls Try.prog 8 #[.int .i64 1, rcv ⟨r.kind, r.target, r.rule, r.out, 0, []⟩ A n c] W fun e w' => e = .returned (.bool true) ∧ Below W.heap.size W w') :=
      fun hk h2 W hbl => (may_any 1 ⟨r.kind, r.target, r.rule, r.out, 0, []⟩ A n c l (by omega) ⟨hfit.1, by unfold maxLen; simp, hfit.2.2⟩ W ((h.below hbl).more hbl.size)).mono fun e w' h => and_mono (by simp [may_first hk h2]) h
    have htx : tx [] = ({ data := #[] } : ByteArray) := rfl
    have m12 : MayP 1 r l → MayP 2 r l := fun h => may_mono h (by omega) (by omega)
    have m23 : MayP 2 r l → MayP 3 r l := fun h => may_mono h (by omega) (by omega)
    have gone : r.kind = 2 → MayP 3 r l → MayP 1 r l := fun hk h => may_gone hk h (by omega) (by omega)
    have none_ : r.kind ≠ 1 → r.kind ≠ 2 → ∀ v, ¬ MayP v r l := fun h1 h2 v h => by rcases h.2.2.2 with h | h; exact h1 h.1; exact h2 h.1
    clear hg h
    obtain ⟨k, t, u, o, m, g⟩ := r
    by_cases p1 : MayP 1 ⟨k, t, u, o, m, g⟩ l
    · have p2 := m12 p1
      have p3 := m23 p2
      have hm1 := Lib.hid (hm 1 true (by simp [p1]))
      have hm2 := Lib.hid (hm 2 true (by simp [p2]))
      have hm3 := Lib.hid (hm 3 true (by simp [p3]))
      by_cases hk1 : k = 1
      · subst hk1
        have hX := hx rfl p2
        unfold rcv rsv at hX
        rw [htx] at hX
        exact on_one_ttt t g u o m A n c w HG hfx hm0 hm1 hm2 hm3 hm4 hX
      · by_cases hk2 : k = 2
        · subst hk2
          exact on_two_ttt t g u o m A n c w HG hfx hm0 hm1 hm2 hm3 hm4
        · exact absurd p1 (none_ hk1 hk2 1)
    · have hm1 := Lib.hid (hm 1 false (by simp [p1]))
      by_cases p2 : MayP 2 ⟨k, t, u, o, m, g⟩ l
      · have p3 := m23 p2
        have hm2 := Lib.hid (hm 2 true (by simp [p2]))
        have hm3 := Lib.hid (hm 3 true (by simp [p3]))
        by_cases hk1 : k = 1
        · subst hk1
          have hX := hx rfl p2
          unfold rcv rsv at hX
          rw [htx] at hX
          exact on_one_ftt t g u o m A n c w HG hfx hm0 hm1 hm2 hm3 hm4 hX
        · by_cases hk2 : k = 2
          · exact absurd (gone hk2 p3) p1
          · exact absurd p2 (none_ hk1 hk2 2)
      · have hm2 := Lib.hid (hm 2 false (by simp [p2]))
        by_cases p3 : MayP 3 ⟨k, t, u, o, m, g⟩ l
        · have hm3 := Lib.hid (hm 3 true (by simp [p3]))
          by_cases hk1 : k = 1
          · subst hk1
            exact on_one_fft t g u o m A n c w HG hfx hm0 hm1 hm2 hm3 hm4
          · by_cases hk2 : k = 2
            · exact absurd (gone hk2 p3) p1
            · exact absurd p3 (none_ hk1 hk2 3)
        · have hm3 := Lib.hid (hm 3 false (by simp [p3]))
          by_cases hk1 : k = 1
          · subst hk1
            exact on_one_fff t g u o m A n c w HG hfx hm0 hm1 hm2 hm3 hm4
          · by_cases hk2 : k = 2
            · subst hk2
              exact on_two_fff t g u o m A n c w HG hfx hm0 hm1 hm2 hm3 hm4
            · exact on_none k t g u o m A n c w HG hfx hm0 hm1 hm2 hm3 hm4 hk1 hk2
  · exact onward_great r A n c w (hg.mono fun e w' h => and_mono (b := true) (by simp [hs]) h) hfx

end Go.Proofs.Ytigkpcildopmfaa
