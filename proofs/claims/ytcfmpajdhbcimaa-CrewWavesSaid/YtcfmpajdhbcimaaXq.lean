/- The mathematics of graphs: nodes that are turned; each stands behind its deps. -/
import Derived.Test.YtcfmpajdhbcimaaXa
namespace Go.Proofs.Ytcfmpajdhbcimaa

theorem ord_same {l m : List Nd} (h : l.Perm m) (hn : (l.map Nd.name).Nodup) : ∀ k, nmOf l (ordN l k) = nmOf m (ordN m k)
  | 0 => rfl
  | k + 1 => by
    have ih := ord_same h hn k
    have hin : ∀ {a b : List Nd}, a.Perm b → ∀ {j : Nat} {y : Nd}, a[j]? = some y → ∃ i, i < b.length ∧ b[i]? = some y := fun hp j y hy => by
      have h1 := hp.mem_iff.1 (List.mem_of_getElem? hy)
      obtain ⟨i, hi, e⟩ := List.mem_iff_getElem.1 h1
      exact ⟨i, hi, by rw [List.getElem?_eq_getElem hi, e]⟩
    cases e1 : lstN l (nmOf l (ordN l k)) l.length with
    | none =>
      cases e2 : lstN m (nmOf m (ordN m k)) m.length with
      | none => rw [ord_stop1 e1, ord_stop1 e2]; exact ih
      | some i =>
        obtain ⟨x, g1, g2, g3, _⟩ := lst_some e2
        obtain ⟨j, hj, hx⟩ := hin h.symm g1
        rw [← ih] at g3
        exact absurd g3 (lst_none e1 j x hj hx)
    | some i =>
      obtain ⟨x, g1, g2, g3, g4⟩ := lst_some e1
      obtain ⟨j, hj, hx⟩ := hin h g1
      cases e2 : lstN m (nmOf m (ordN m k)) m.length with
      | none => rw [ih] at g3; exact absurd g3 (lst_none e2 j x hj hx)
      | some i2 =>
        obtain ⟨y, f1, f2, f3, f4⟩ := lst_some e2
        obtain ⟨j2, hj2, hy⟩ := hin h.symm f1
        have n1 := g4 j2 y hj2 hy (by rw [ih]; exact f3)
        have n2 := f4 j x hj hx (by rw [← ih]; exact g3)
        have e : x.name = y.name := by
          rcases lx_tri x.name y.name with h | h | h
          · exact absurd h n2
          · exact h
          · exact absurd h n1
        rw [ord_step e1, ord_step e2, nm_app, nm_app, nm_one g1, nm_one f1, ih, e]
theorem chk_ok {l : List Nd} : chk l = 0 ↔ l.length ≤ 64 ∧ (l.map Nd.name).Nodup ∧ (∀ x ∈ l, aloneE x = 0) ∧ depsIn l ∧ (ord l).length = l.length := by
  have he := err_ok (l := l) (i := l.length) (Nat.le_refl _)
  rw [List.take_length] at he
  have hlen := ord_len l l.length
  unfold chk
  constructor
  · intro h
    by_cases h1 : 64 < l.length
    · rw [if_pos h1] at h; cases h
    rw [if_neg h1] at h
    by_cases h2 : errN l l.length ≠ 0
    · rw [if_pos h2] at h; exact absurd h h2
    rw [if_neg h2] at h
    by_cases h3 : depsIn l
    · rw [if_neg (by simpa using h3)] at h
      by_cases h4 : (ord l).length < l.length
      · rw [if_pos h4] at h; cases h
      · obtain ⟨a, b⟩ := he.1 (by simpa using h2)
        refine ⟨by omega, a, b, h3, ?_⟩
        unfold ord at h4 ⊢
        omega
    · rw [if_pos h3] at h; cases h
  · rintro ⟨h1, h2, h3, h4, h5⟩
    rw [if_neg (by omega), if_neg (by simpa using he.2 ⟨h2, h3⟩), if_neg (by simpa using h4), if_neg (by omega)]
theorem chk_perm {l m : List Nd} (h : l.Perm m) (hl : chk l = 0) : chk m = 0 := by
  obtain ⟨h1, h2, h3, h4, h5⟩ := chk_ok.1 hl
  refine chk_ok.2 ⟨by rw [← h.length_eq]; exact h1, (h.map Nd.name).nodup_iff.1 h2, fun x hx => h3 x (h.mem_iff.2 hx), fun x hx d hd => ?_, ?_⟩
  · exact (h.map Nd.name).mem_iff.1 (h4 x (h.mem_iff.2 hx) d hd)
  · have e := congrArg List.length (ord_same h h2 l.length)
    rw [(ord_good l l.length).2.2.1, (ord_good m l.length).2.2.1] at e
    unfold ord at h5 ⊢
    rw [← h.length_eq, ← e]
    exact h5
/-- The first ones of an order are those of fewer steps. -/
theorem ord_take (l : List Nd) : ∀ k i, i ≤ (ordN l k).length → (ordN l k).take i = ordN l i
  | 0, i, hi => by
    obtain rfl : i = 0 := by simpa [ordN] using hi
    rfl
  | k + 1, i, hi => by
    cases e : lstN l (nmOf l (ordN l k)) l.length with
    | none => rw [ord_stop1 e] at hi ⊢; exact ord_take l k i hi
    | some j =>
      have hk := (ord_good l (k + 1)).2.2.2.1
      have hk0 := (ord_good l k).2.2.2.1
      rw [ord_step e] at hi ⊢
      rcases Nat.lt_or_ge i ((ordN l k).length + 1) with h | h
      · rw [List.take_append_of_le_length (by omega)]
        exact ord_take l k i (by omega)
      · rw [List.length_append, List.length_singleton] at hi
        obtain rfl : i = (ordN l k).length + 1 := by omega
        rw [List.take_of_length_le (by simp)]
        have h2 : (ordN l k) = ordN l (ordN l k).length := by
          have := ord_take l k (ordN l k).length (Nat.le_refl _)
          rw [List.take_length] at this
          exact this
        rw [ord_step (k := (ordN l k).length) (i := j) (by rw [← h2]; exact e), ← h2]
/-- Each node of an order is ready behind those ahead of it. -/
theorem ord_ready {l : List Nd} {k i j : Nat} (h : (ordN l k)[i]? = some j) : ∃ x, l[j]? = some x ∧ Ready (nmOf l ((ordN l k).take i)) x := by
  have hi : i < (ordN l k).length := (List.getElem?_eq_some_iff.1 h).1
  rw [ord_take l k i (by omega)]
  have h1 := ord_take l k (i + 1) (by omega)
  have h0 := ord_take l k i (by omega)
  rw [List.take_add_one, h, h0] at h1
  cases e : lstN l (nmOf l (ordN l i)) l.length with
  | none =>
    rw [ord_stop1 e] at h1
    have := congrArg List.length h1
    simp at this
  | some q =>
    rw [ord_step e] at h1
    have h2 : j = q := by simpa using h1
    subst h2
    obtain ⟨x, g1, _, g3, _⟩ := lst_some e
    exact ⟨x, g1, g3⟩

end Go.Proofs.Ytcfmpajdhbcimaa
