/- Whether two records are the same. -/
import Derived.Test.YtgioknppnfencaaDoorRi
import Derived.Test.YtgioknppnfencaaDoorRj0
namespace Go.Proofs.YtgioknppnfencaaDoor
open Go.RowKit

theorem same_any (r1 r2 : Rc) (A B : Option Addr) (n1 n2 c d : Nat) (l1 l2 : List Dp) (hn : n1 ≤ 1000000) (w : World) (h1 : Reads w w.heap.size 3 A n1 (dps l1)) (h2 : Reads w w.heap.size 3 B n2 (dps l2)) :
    Calls Tryd.prog 49 #[rcv r1 A n1 c, rcv r2 B n2 d] w fun e w' => ∃ q : Bool, (q = true ↔ r1 = r2 ∧ l1 = l2) ∧ e = .returned (.bool q) ∧ Below w.heap.size w w' := by
  have hl1 : l1.length = n1 := by have := h1.1; rw [dps_len] at this; omega
  have hl2 : l2.length = n2 := by have := h2.1; rw [dps_len] at this; omega
  by_cases e : r1 = r2
  · by_cases en : n1 = n2
    · subst e en
      refine (same_deps r1 A B n1 c d l1 l2 hn w h1 h2).mono ?_
      rintro e w' ⟨q, hq, he, hb⟩
      exact ⟨q, by simpa using hq, he, hb⟩
    · subst e
      refine (same_lens r1 A B n1 n2 c d en w).mono ?_
      rintro e w' ⟨he, hb⟩
      exact ⟨false, by simp; intro h; exact en (by rw [← hl1, ← hl2, h]), he, hb⟩
  · refine (same_rests r1 r2 A B n1 n2 c d e w).mono ?_
    rintro e' w' ⟨he, hb⟩
    exact ⟨false, by simp [e], he, hb⟩

end Go.Proofs.YtgioknppnfencaaDoor
