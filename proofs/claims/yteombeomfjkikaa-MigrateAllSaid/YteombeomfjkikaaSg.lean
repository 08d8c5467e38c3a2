/- MigrateOne at any two records. -/
import Derived.Test.YteombeomfjkikaaSf
namespace Go.Proofs.Yteombeomfjkikaa
open Go.RowKit

theorem movedR_one (t : List UInt8) (u o m : Int) (g : List UInt8) : movedR 1 3 ⟨1, t, u, o, m, g⟩ = ⟨1, t, u, o, 1, [111, 108, 100]⟩ := by simp [movedR]
theorem movedR_gone {v v2 : Int} {r : Rc} (h : r.kind ≠ 1) : movedR v v2 r = r := by simp [movedR, h]

theorem to13 (r : Rc) (A : Option Addr) (n c : Nat) (l : List Dp) (hn : n ≤ 1000) (hA : A = none → c = 0) (hfit : Fits r l) (hm : MayP 1 r l) (w : World) (h : Reads w w.heap.size 3 A n (dps l)) :
    Hid (∀ W, Below w.heap.size w W → Calls Try.prog 9 #[.int .i64 1, .int .i64 3, rcv r A n c] W fun e w' => ∃ A' c', e = .returned (.tuple #[rcv (movedR 1 3 r) A' n c', .int .i64 0]) ∧ Deps w' W.heap.size A' n c' l ∧ Below W.heap.size W w') := fun W hb => by
  have hrd : ∀ W2, Below W.heap.size W W2 → Reads W2 W2.heap.size 3 A n (dps l) := fun W2 hb2 => ((h.below hb).below (hb2.mono hb.size)).more (Nat.le_trans hb.size hb2.size)
  have hmay : ∀ W2, Below W.heap.size W W2 → Calls Try.prog 19 #[.int .i64 1, rcv r A n c] W2 fun e w' => e = .returned (.bool true) ∧ Below W2.heap.size W2 w' := fun W2 hb2 =>
    (may_any 1 r A n c l hn hfit W2 (hrd W2 hb2)).mono fun e w' h => and_mono (by simp [hm]) h
  obtain ⟨k, t, u, o, m, g⟩ := r
  by_cases hk : k = 1
  · subst hk
    rw [movedR_one]
    exact to_ok 1 3 1 t g [111, 108, 100] u o m 1 A n c l (by decide) W hmay (fun W2 hb2 => moved_13 t g u o m A n c l hA (by omega) W2 (hrd W2 hb2))
  · rw [movedR_gone (by exact hk)]
    exact to_ok 1 3 k t g g u o m m A n c l (by decide) W hmay (fun W2 hb2 => moved_gone 1 3 k t g u o m A n c l hA (by omega) hk W2 (hrd W2 hb2))

theorem moved_inj {r1 r2 : Rc} {l1 l2 : List Dp} (h1 : MayP 1 r1 l1) (h2 : MayP 1 r2 l2) (e : movedR 1 3 r1 = movedR 1 3 r2) : r1 = r2 := by
  obtain ⟨k1, t1, u1, o1, m1, g1⟩ := r1
  obtain ⟨k2, t2, u2, o2, m2, g2⟩ := r2
  have flat : ∀ {k : Int} {t : List UInt8} {u o m : Int} {g : List UInt8} {l : List Dp}, MayP 1 ⟨k, t, u, o, m, g⟩ l → k = 1 → m = 0 ∧ g = [] := fun h hk => by
    rcases h.2.2.2 with h3 | h3
    · refine ⟨?_, ?_⟩
      · rcases h3.2.1 with h4 | h4
        · exact h4
        · omega
      · rcases h3.2.2.1 with h4 | h4
        · exact h4
        · have := h4.1; omega
    · have h4 := h3.1
      simp only at h4
      omega
  by_cases e1 : k1 = 1
  · by_cases e2 : k2 = 1
    · obtain ⟨rfl, rfl⟩ := flat h1 e1
      obtain ⟨rfl, rfl⟩ := flat h2 e2
      subst e1; subst e2
      rw [movedR_one, movedR_one] at e
      injection e with a1 a2 a3 a4
      subst a2 a3 a4
      rfl
    · subst e1
      rw [movedR_one, movedR_gone (by exact e2)] at e
      injection e with a1
      exact absurd a1.symm e2
  · by_cases e2 : k2 = 1
    · subst e2
      rw [movedR_one, movedR_gone (by exact e1)] at e
      injection e with a1
      exact absurd a1 e1
    · rw [movedR_gone (by exact e1), movedR_gone (by exact e2)] at e
      exact e

theorem mone_any (r1 r2 : Rc) (A B : Option Addr) (n1 n2 c1 c2 : Nat) (l1 l2 : List Dp) (hn1 : n1 ≤ maxLen) (hn2 : n2 ≤ maxLen) (hA : A = none → c1 = 0) (hB : B = none → c2 = 0) (f1 : Fits r1 l1) (f2 : Fits r2 l2) (w : World) (h1 : Reads w w.heap.size 3 A n1 (dps l1)) (h2 : Reads w w.heap.size 3 B n2 (dps l2)) :
    Calls Try.prog 6 #[rcv r1 A n1 c1, rcv r2 B n2 c2] w fun e w' => e = .returned (.bool true) ∧ Below w.heap.size w w' := by
  have hfx : Hid (∀ W, Calls Try.prog 8 #[] W fun e w' => e = .returned (.bool true) ∧ Below W.heap.size W w') := mfixed_any
  have hl1 : l1.length = n1 := by have := h1.1; rw [dps_len] at this; omega
  have hl2 : l2.length = n2 := by have := h2.1; rw [dps_len] at this; omega
  have g1 : ∀ b : Bool, (b = true ↔ ¬ small r1 l1) → Hid (∀ W, Below w.heap.size w W → Calls Try.prog 7 #[rcv r1 A n1 c1] W fun e w' => e = .returned (.bool b) ∧ Below W.heap.size W w') := fun b hb W hbl =>
    (great_says r1 A n1 c1 l1 W hn1 f1.2.2 f1.1 f1.2.1 ((h1.below hbl).more hbl.size)).mono fun e w' h => and_mono hb h
  have g2 : ∀ b : Bool, (b = true ↔ ¬ small r2 l2) → Hid (∀ W, Below w.heap.size w W → Calls Try.prog 7 #[rcv r2 B n2 c2] W fun e w' => e = .returned (.bool b) ∧ Below W.heap.size W w') := fun b hb W hbl =>
    (great_says r2 B n2 c2 l2 W hn2 f2.2.2 f2.1 f2.2.1 ((h2.below hbl).more hbl.size)).mono fun e w' h => and_mono hb h
  by_cases s1 : small r1 l1
  · have hn60 : n1 ≤ 60 := by rw [← hl1]; exact s1.2.1
    by_cases s2 : small r2 l2
    · have hm60 : n2 ≤ 60 := by rw [← hl2]; exact s2.2.1
      have m1 : ∀ b : Bool, (b = true ↔ MayP 1 r1 l1) → Hid (∀ W, Below w.heap.size w W → Calls Try.prog 18 #[.int .i64 1, rcv r1 A n1 c1] W fun e w' => e = .returned (.bool b) ∧ Below W.heap.size W w') := fun b hb W hbl =>
        (rmay_any 1 r1 A n1 c1 l1 (by omega) f1 W ((h1.below hbl).more hbl.size)).mono fun e w' h => and_mono hb h
      have m2 : ∀ b : Bool, (b = true ↔ MayP 1 r2 l2) → Hid (∀ W, Below w.heap.size w W → Calls Try.prog 18 #[.int .i64 1, rcv r2 B n2 c2] W fun e w' => e = .returned (.bool b) ∧ Below W.heap.size W w') := fun b hb W hbl =>
        (rmay_any 1 r2 B n2 c2 l2 (by omega) f2 W ((h2.below hbl).more hbl.size)).mono fun e w' h => and_mono hb h
      have G1 := g1 false (by simp [s1])
      have G2 := g2 false (by simp [s2])
      by_cases p1 : MayP 1 r1 l1
      · by_cases p2 : MayP 1 r2 l2
        · obtain ⟨b, hb⟩ : ∃ b : Bool, b = true ↔ r1 = r2 ∧ l1 = l2 := by
            by_cases hm : r1 = r2 ∧ l1 = l2
            · exact ⟨true, by simp [hm]⟩
            · exact ⟨false, by simp; intro h3 h4; exact hm ⟨h3, h4⟩⟩
          have hx : b = true ↔ movedR 1 3 r1 = movedR 1 3 r2 ∧ l1 = l2 := hb.trans ⟨fun h => ⟨by rw [h.1], h.2⟩, fun h => ⟨moved_inj p1 p2 h.1, h.2⟩⟩
          exact mone_ok r1 r2 (movedR 1 3 r1) (movedR 1 3 r2) A B n1 n2 c1 c2 l1 l2 b hn60 hx hb w h1 h2 hfx G1 G2 (m1 true (by simp [p1])) (m2 true (by simp [p2]))
            (to13 r1 A n1 c1 l1 (by omega) hA f1 p1 w h1) (to13 r2 B n2 c2 l2 (by omega) hB f2 p2 w h2)
        · exact mone_m2 r1 r2 A B n1 n2 c1 c2 w hfx G1 G2 (m1 true (by simp [p1])) (m2 false (by simp [p2]))
      · exact mone_m1 r1 r2 A B n1 n2 c1 c2 w hfx G1 G2 (m1 false (by simp [p1]))
    · exact mone_g2 r1 r2 A B n1 n2 c1 c2 w hfx (g1 false (by simp [s1])) (g2 true (by simp [s2]))
  · exact mone_g1 r1 r2 A B n1 n2 c1 c2 w hfx (g1 true (by simp [s1]))

end Go.Proofs.Yteombeomfjkikaa
