/- Whether two records are the same: the document's. -/
import Derived.Test.YtgioknppnfencaaDoorRe
namespace Go.Proofs.YtgioknppnfencaaDoor
open Go.RowKit

theorem rsame_any (r1 r2 : Rc) (A B : Option Addr) (n1 n2 c d : Nat) (l1 l2 : List Dp) (hn : n1 ≤ 1000000) (w : World) (h1 : Reads w w.heap.size 3 A n1 (dps l1)) (h2 : Reads w w.heap.size 3 B n2 (dps l2)) :
    Calls Tryd.prog 25 #[rcv r1 A n1 c, rcv r2 B n2 d] w fun e w' => ∃ q : Bool, (q = true ↔ r1 = r2 ∧ l1 = l2) ∧ e = .returned (.bool q) ∧ Below w.heap.size w w' := by
  have hl1 : l1.length = n1 := by have := h1.1; rw [dps_len] at this; omega
  have hl2 : l2.length = n2 := by have := h2.1; rw [dps_len] at this; omega
  obtain ⟨k1, t1, u1, o1, m1, g1⟩ := r1
  obtain ⟨k2, t2, u2, o2, m2, g2⟩ := r2
  unfold rcv rsv
  have bad : ∀ {e : Ending} {w' : World}, ¬ ((⟨k1, t1, u1, o1, m1, g1⟩ : Rc) = ⟨k2, t2, u2, o2, m2, g2⟩ ∧ l1 = l2) → e = .returned (.bool false) ∧ Below w.heap.size w w' → ∃ q : Bool, (q = true ↔ (⟨k1, t1, u1, o1, m1, g1⟩ : Rc) = ⟨k2, t2, u2, o2, m2, g2⟩ ∧ l1 = l2) ∧ e = .returned (.bool q) ∧ Below w.heap.size w w' :=
    fun h ⟨he, hb⟩ => ⟨false, by simpa using h, he, hb⟩
  by_cases e1 : k1 = k2
  · by_cases e2 : t1 = t2
    · by_cases e3 : u1 = u2
      · by_cases e4 : o1 = o2
        · by_cases e5 : m1 = m2
          · by_cases e6 : g1 = g2
            · subst e1 e2 e3 e4 e5 e6
              by_cases en : n1 = n2
              · subst en
                refine (rsl_any k1 u1 o1 m1 t1 g1 A B n1 c d l1 l2 hn w h1 h2).mono ?_
                rintro e w' ⟨he, hb⟩
                rcases he with ⟨hl, he⟩ | ⟨hl, he⟩
                · exact ⟨true, by simp [hl], he, hb⟩
                · exact ⟨false, by simp [hl], he, hb⟩
              · refine (rsn_n k1 t1 u1 o1 m1 g1 n1 n2 A B c d en w).mono fun _ _ h => bad (fun ⟨_, h⟩ => en (by rw [← hl1, ← hl2, h])) h
            · subst e1 e2 e3 e4 e5
              exact (rsn_tag k1 t1 u1 o1 m1 g1 g2 n1 n2 A B c d e6 w).mono fun _ _ h => bad (fun ⟨h, _⟩ => e6 (by injection h)) h
          · subst e1 e2 e3 e4
            exact (rsn_time k1 t1 u1 o1 m1 m2 g1 g2 n1 n2 A B c d e5 w).mono fun _ _ h => bad (fun ⟨h, _⟩ => e5 (by injection h)) h
        · subst e1 e2 e3
          exact (rsn_out k1 t1 u1 o1 o2 m1 m2 g1 g2 n1 n2 A B c d e4 w).mono fun _ _ h => bad (fun ⟨h, _⟩ => e4 (by injection h)) h
      · subst e1 e2
        exact (rsn_rule k1 t1 u1 u2 o1 o2 m1 m2 g1 g2 n1 n2 A B c d e3 w).mono fun _ _ h => bad (fun ⟨h, _⟩ => e3 (by injection h)) h
    · subst e1
      exact (rsn_target k1 t1 t2 u1 u2 o1 o2 m1 m2 g1 g2 n1 n2 A B c d e2 w).mono fun _ _ h => bad (fun ⟨h, _⟩ => e2 (by injection h)) h
  · exact (rsn_kind k1 k2 t1 t2 u1 u2 o1 o2 m1 m2 g1 g2 n1 n2 A B c d e1 w).mono fun _ _ h => bad (fun ⟨h, _⟩ => e1 (by injection h)) h

end Go.Proofs.YtgioknppnfencaaDoor
