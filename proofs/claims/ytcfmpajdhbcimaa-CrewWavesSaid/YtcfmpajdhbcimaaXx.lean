/- Cycles: mathematics. -/
import Derived.Test.YtcfmpajdhbcimaaXr
import Derived.Test.YtcfmpajdhbcimaaXq
import Derived.Test.YtcfmpajdhbcimaaXp0
namespace Go.Proofs.Ytcfmpajdhbcimaa

theorem rch_trans {E : List (List UInt8 × List UInt8)} {a b c : List UInt8} (h : Rch E a b) (k : Rch E b c) : Rch E a c :=
  k (fun u => Rch E a u) (fun _ he => rch_more h he) (fun _ _ h he => rch_more h he)
/-- Where nothing leads back, some of a list is led to by none of it. -/
theorem min_of {α : Type} {R : α → α → Prop} (tr : ∀ a b c, R a b → R b c → R a c) (irr : ∀ a, ¬ R a a) : ∀ l : List α, l ≠ [] → ∃ m ∈ l, ∀ u ∈ l, ¬ R u m
  | [], h => absurd rfl h
  | [a], _ => ⟨a, by simp, fun u hu => by rw [List.mem_singleton.1 hu]; exact irr a⟩
  | a :: b :: l, _ => by
    obtain ⟨m, hm, h⟩ := min_of tr irr (b :: l) (by simp)
    by_cases ha : R a m
    · refine ⟨a, by simp, fun u hu => ?_⟩
      rcases List.mem_cons.1 hu with rfl | hu
      · exact irr u
      · exact fun h2 => h u hu (tr _ _ _ h2 ha)
    · refine ⟨m, List.mem_cons_of_mem _ hm, fun u hu => ?_⟩
      rcases List.mem_cons.1 hu with rfl | hu
      · exact ha
      · exact h u hu
theorem ord_short {l : List Nd} : ∀ {k : Nat}, (ordN l k).length < k → lstN l (nmOf l (ordN l k)) l.length = none
  | 0, h => absurd h (by omega)
  | k + 1, h => by
    cases hl : lstN l (nmOf l (ordN l k)) l.length with
    | none =>
      have e : ordN l (k + 1) = ordN l k := by
        show (match lstN l (nmOf l (ordN l k)) l.length with | some i => _ | none => _) = _
        rw [hl]
      rw [e]; exact hl
    | some i =>
      rw [ord_step hl, List.length_append] at h
      have := ord_short (l := l) (k := k) (by simp at h; omega)
      rw [hl] at this
      cases this
theorem nmOf_len (l : List Nd) (o : List Nat) : (nmOf l o).length ≤ o.length := List.length_filterMap_le _ _
theorem alone_vals (x : Nd) : aloneE x = 0 ∨ aloneE x = 1 ∨ aloneE x = 5 := by
  unfold aloneE
  split
  · simp
  · split
    · simp
    · split
      · simp
      · split <;> simp
theorem err_vals (l : List Nd) : ∀ i, errN l i = 0 ∨ errN l i = 1 ∨ errN l i = 5
  | 0 => .inl rfl
  | i + 1 => by
    show (if errN l i ≠ 0 then errN l i else _) = 0 ∨ (if errN l i ≠ 0 then errN l i else _) = 1 ∨ (if errN l i ≠ 0 then errN l i else _) = 5
    split
    · exact err_vals l i
    · cases l[i]? with
      | none => simp
      | some x =>
        simp only
        split
        · simp
        · exact alone_vals x
/-- With a cycle some name leads to itself. -/
theorem chk_cycle {l : List Nd} (h : chk l = 9) : ∃ x ∈ l, Rch (edges l) x.name x.name := by
  have he := err_ok (l := l) (i := l.length) (Nat.le_refl _)
  rw [List.take_length] at he
  have hv := err_vals l l.length
  unfold chk at h
  by_cases h1 : 64 < l.length
  · rw [if_pos h1] at h; cases h
  rw [if_neg h1] at h
  by_cases h2 : errN l l.length ≠ 0
  · rw [if_pos h2] at h
    rw [h] at hv
    rcases hv with h | h | h <;> cases h
  rw [if_neg h2] at h
  by_cases h3 : ¬ depsIn l
  · rw [if_pos h3] at h; cases h
  rw [if_neg h3] at h
  by_cases h4 : (ord l).length < l.length
  · have hn : (l.map Nd.name).Nodup := (he.1 (Classical.not_not.1 h2)).1
    have hd : depsIn l := Classical.not_not.1 h3
    have hl := ord_short (l := l) (k := l.length) h4
    obtain ⟨S, hS⟩ : ∃ S, S = nmOf l (ordN l l.length) := ⟨_, rfl⟩
    rw [← hS] at hl
    have hSl : S.length < l.length := by rw [hS]; exact Nat.lt_of_le_of_lt (nmOf_len _ _) h4
    obtain ⟨x0, hx0, hxS⟩ : ∃ x ∈ l, x.name ∉ S := by
      apply Classical.byContradiction
      intro hno
      have hsub : (l.map Nd.name) ⊆ S := fun u hu => by
        obtain ⟨x, hx, rfl⟩ := List.mem_map.1 hu
        apply Classical.byContradiction
        intro h5
        exact hno ⟨x, hx, h5⟩
      have := List.Nodup.length_le_of_subset hn hsub
      rw [List.length_map] at this
      omega
    apply Classical.byContradiction
    intro hno
    obtain ⟨m, hm, hmin⟩ := min_of (R := fun a b => Rch (edges l) a b ∧ a ∈ l.map Nd.name) (fun a b c h k => ⟨rch_trans h.1 k.1, h.2⟩) (fun a h => by
      obtain ⟨x, hx, rfl⟩ := List.mem_map.1 h.2
      exact hno ⟨x, hx, h.1⟩) ((l.map Nd.name).filter (fun u => decide (u ∉ S))) (List.ne_nil_of_mem (List.mem_filter.2 ⟨List.mem_map.2 ⟨x0, hx0, rfl⟩, by simpa using hxS⟩))
    obtain ⟨hm1, hm2⟩ := List.mem_filter.1 hm
    obtain ⟨x, hx, rfl⟩ := List.mem_map.1 hm1
    have hm3 : x.name ∉ S := by simpa using hm2
    obtain ⟨j, hj⟩ := List.getElem?_of_mem hx
    have hnr := lst_some.lst_none hl j x (List.getElem?_eq_some_iff.1 hj).1 hj
    obtain ⟨d, hd1, hd2⟩ : ∃ d ∈ x.deps, d ∉ S := by
      apply Classical.byContradiction
      intro h5
      exact hnr ⟨hm3, fun d hd => by
        apply Classical.byContradiction
        intro h6
        exact h5 ⟨d, hd, h6⟩⟩
    have hdn := hd x hx d hd1
    exact hmin d (List.mem_filter.2 ⟨hdn, by simpa using hd2⟩) ⟨rch_one (mem_edges.2 ⟨x, hx, rfl, hd1⟩), hdn⟩
  · rw [if_neg h4] at h; cases h

theorem idx_at {P : List (List UInt8)} (hn : P.Nodup) {i : Nat} {a : List UInt8} (h : P[i]? = some a) : P.idxOf a = i := by
  obtain ⟨h1, h2⟩ := List.getElem?_eq_some_iff.1 h
  have hin : a ∈ P := List.mem_of_getElem? h
  have h3 := List.idxOf_lt_length_of_mem hin
  exact (List.getElem_inj hn (h₀ := h3) (h₁ := h1)).1 (by rw [List.getElem_idxOf, h2])
theorem at_idx {P : List (List UInt8)} {a : List UInt8} (h : a ∈ P) : P[P.idxOf a]? = some a := by
  rw [List.getElem?_eq_getElem (List.idxOf_lt_length_of_mem h), List.getElem_idxOf]
/-- The names in their order. -/
def nmO (l : List Nd) : List (List UInt8) := nmOf l (ord l)
theorem nmO_nodup (l : List Nd) : (nmO l).Nodup := (ord_good l l.length).2.1
theorem nmO_at {l : List Nd} {i j : Nat} {x : Nd} (h : (ord l)[i]? = some j) (hx : l[j]? = some x) : (nmO l)[i]? = some x.name := nm_at (ord_good l l.length).1 h hx
theorem nmO_len {l : List Nd} (hc : chk l = 0) : (nmO l).length = l.length := by
  have h1 := (ord_good l l.length).2.2.1
  exact h1.trans (chk_ok.1 hc).2.2.2.2
theorem nmO_all {l : List Nd} (hc : chk l = 0) {u : List UInt8} (hu : u ∈ l.map Nd.name) : u ∈ nmO l := by
  apply Classical.byContradiction
  intro hno
  have h1 : (u :: nmO l).Nodup := List.nodup_cons.2 ⟨hno, nmO_nodup l⟩
  have h2 : (u :: nmO l) ⊆ l.map Nd.name := fun v hv => by
    rcases List.mem_cons.1 hv with rfl | hv
    · exact hu
    · obtain ⟨j, _, x, hx, rfl⟩ := nm_mem.1 hv
      exact List.mem_map.2 ⟨x, List.mem_of_getElem? hx, rfl⟩
  have h3 := List.Nodup.length_le_of_subset h1 h2
  rw [List.length_cons, nmO_len hc, List.length_map] at h3
  omega
theorem nmO_edge {l : List Nd} (hc : chk l = 0) {d a : List UInt8} (h : (d, a) ∈ edges l) : (nmO l).idxOf d < (nmO l).idxOf a := by
  obtain ⟨x, hx, rfl, hd⟩ := mem_edges.1 h
  have ha := nmO_all hc (List.mem_map.2 ⟨x, hx, rfl⟩)
  have hi := at_idx ha
  have hlt := List.idxOf_lt_length_of_mem ha
  have hol : (ord l).length = (nmO l).length := (ord_good l l.length).2.2.1.symm
  obtain ⟨i, hie⟩ : ∃ i, i = (nmO l).idxOf x.name := ⟨_, rfl⟩
  rw [← hie] at hi hlt ⊢
  obtain ⟨j, hj⟩ : ∃ j, (ord l)[i]? = some j := ⟨_, List.getElem?_eq_getElem (by rw [hol]; exact hlt)⟩
  obtain ⟨y, hy, hr⟩ := ord_ready (k := l.length) hj
  have e := nmO_at hj hy
  rw [hi] at e
  have hn := (chk_ok.1 hc).2.1
  obtain ⟨jx, hjx⟩ := List.getElem?_of_mem hx
  have hxy : x = y := by
    have e2 : x.name = y.name := Option.some.inj e
    obtain ⟨a1, a2⟩ := List.getElem?_eq_some_iff.1 hjx
    obtain ⟨b1, b2⟩ := List.getElem?_eq_some_iff.1 hy
    have : jx = j := (List.getElem_inj hn (h₀ := by simpa using a1) (h₁ := by simpa using b1)).1 (by simp [a2, b2, e2])
    subst this
    rw [hjx] at hy
    exact Option.some.inj hy
  subst hxy
  obtain ⟨j2, hj2, z, hz, rfl⟩ := nm_mem.1 (hr.2 d hd)
  obtain ⟨i2, hi2⟩ := List.getElem?_of_mem hj2
  rw [List.getElem?_take] at hi2
  split at hi2
  · rename_i hlt2
    rw [idx_at (nmO_nodup l) (nmO_at hi2 hz)]
    exact hlt2
  · cases hi2
/-- What a name leads to stands behind it. -/
theorem rch_pos {l : List Nd} (hc : chk l = 0) {s u : List UInt8} (h : Rch (edges l) s u) : (nmO l).idxOf s < (nmO l).idxOf u :=
  h (fun u => (nmO l).idxOf s < (nmO l).idxOf u) (fun _ he => nmO_edge hc he) (fun _ _ hb he => Nat.lt_trans hb (nmO_edge hc he))

end Go.Proofs.Ytcfmpajdhbcimaa
