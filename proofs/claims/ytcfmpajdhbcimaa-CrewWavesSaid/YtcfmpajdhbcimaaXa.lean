/- The mathematics of graphs: nodes, what is wrong with them, their order; no program. -/
import Derived.Test.YtcfmpajdhbcimaaGa
namespace Go.Proofs.Ytcfmpajdhbcimaa

/-- What a node says. -/
structure Nd where
  name : List UInt8
  src : Bool
  rule : Int
  deps : List (List UInt8)

/-- Names of nodes at places. -/
def nmOf (l : List Nd) (o : List Nat) : List (List UInt8) := o.filterMap fun j => (l[j]?).map Nd.name
/-- May a node come next behind those names? -/
def Ready (S : List (List UInt8)) (x : Nd) : Prop := x.name ∉ S ∧ ∀ d ∈ x.deps, d ∈ S
instance (S : List (List UInt8)) (x : Nd) : Decidable (Ready S x) := by unfold Ready; infer_instance
def aheadOf (l : List Nd) (x : Nd) (b : Nat) : Bool := match l[b]? with | some y => decide (x.name < y.name) | none => true
/-- The node that comes next, among the first ones. -/
def lstN (l : List Nd) (S : List (List UInt8)) : Nat → Option Nat
  | 0 => none
  | i + 1 => match l[i]? with
    | none => lstN l S i
    | some x => if Ready S x then (match lstN l S i with | none => some i | some b => if aheadOf l x b then some i else some b) else lstN l S i
/-- The order, by so many steps. -/
def ordN (l : List Nd) : Nat → List Nat
  | 0 => []
  | k + 1 => match lstN l (nmOf l (ordN l k)) l.length with | some i => ordN l k ++ [i] | none => ordN l k
def ord (l : List Nd) : List Nat := ordN l l.length

theorem lst_skip {l : List Nd} {S : List (List UInt8)} {i : Nat} {x : Nd} (hx : l[i]? = some x) (h : ¬ Ready S x) : lstN l S (i + 1) = lstN l S i := by
  show (match l[i]? with | none => _ | some x => _) = _
  rw [hx]
  exact if_neg h
theorem lst_first {l : List Nd} {S : List (List UInt8)} {i : Nat} {x : Nd} (hx : l[i]? = some x) (h : Ready S x) (h0 : lstN l S i = none) : lstN l S (i + 1) = some i := by
  show (match l[i]? with | none => _ | some x => _) = _
  rw [hx]
  simp only
  rw [if_pos h, h0]
theorem lst_less {l : List Nd} {S : List (List UInt8)} {i b : Nat} {x y : Nd} (hx : l[i]? = some x) (h : Ready S x) (h0 : lstN l S i = some b) (hy : l[b]? = some y) (hlt : x.name < y.name) : lstN l S (i + 1) = some i := by
  show (match l[i]? with | none => _ | some x => _) = _
  rw [hx]
  simp only
  rw [if_pos h, h0]
  simp [aheadOf, hy, hlt]
theorem lst_keep {l : List Nd} {S : List (List UInt8)} {i b : Nat} {x y : Nd} (hx : l[i]? = some x) (h0 : lstN l S i = some b) (hy : l[b]? = some y) (hlt : ¬ x.name < y.name) : lstN l S (i + 1) = some b := by
  show (match l[i]? with | none => _ | some x => _) = _
  rw [hx]
  simp only
  by_cases h : Ready S x
  · rw [if_pos h, h0]
    simp [aheadOf, hy, hlt]
  · rw [if_neg h, h0]
/-- What is found is ready, and the least of all that are. -/
theorem lst_some {l : List Nd} {S : List (List UInt8)} : ∀ {n i : Nat}, lstN l S n = some i → ∃ x, l[i]? = some x ∧ i < n ∧ Ready S x ∧ ∀ j y, j < n → l[j]? = some y → Ready S y → ¬ y.name < x.name
  | 0, i, h => by cases h
  | n + 1, i, h => by
    cases hn : l[n]? with
    | none =>
      have e : lstN l S (n + 1) = lstN l S n := by
        show (match l[n]? with | none => _ | some x => _) = _
        rw [hn]
      rw [e] at h
      obtain ⟨x, h1, h2, h3, h4⟩ := lst_some h
      refine ⟨x, h1, by omega, h3, fun j y hj hy hr => ?_⟩
      rcases Nat.lt_or_ge j n with h5 | h5
      · exact h4 j y h5 hy hr
      · obtain rfl : j = n := by omega
        rw [hn] at hy
        cases hy
    | some z =>
      by_cases hz : Ready S z
      · cases h0 : lstN l S n with
        | none =>
          rw [lst_first hn hz h0] at h
          obtain rfl := Option.some.inj h
          refine ⟨z, hn, by omega, hz, fun j y hj hy hr => ?_⟩
          rcases Nat.lt_or_ge j n with h5 | h5
          · exact absurd hr (lst_none h0 j y h5 hy)
          · obtain rfl : j = n := by omega
            rw [hn] at hy
            obtain rfl := Option.some.inj hy
            exact lx_irr _
        | some b =>
          obtain ⟨y0, g1, g2, g3, g4⟩ := lst_some h0
          by_cases hlt : z.name < y0.name
          · rw [lst_less hn hz h0 g1 hlt] at h
            obtain rfl := Option.some.inj h
            refine ⟨z, hn, by omega, hz, fun j y hj hy hr => ?_⟩
            rcases Nat.lt_or_ge j n with h5 | h5
            · exact fun h6 => g4 j y h5 hy hr (lx_trans h6 hlt)
            · obtain rfl : j = n := by omega
              rw [hn] at hy
              obtain rfl := Option.some.inj hy
              exact lx_irr _
          · rw [lst_keep hn h0 g1 hlt] at h
            obtain rfl := Option.some.inj h
            refine ⟨y0, g1, by omega, g3, fun j y hj hy hr => ?_⟩
            rcases Nat.lt_or_ge j n with h5 | h5
            · exact g4 j y h5 hy hr
            · obtain rfl : j = n := by omega
              rw [hn] at hy
              obtain rfl := Option.some.inj hy
              exact hlt
      · rw [lst_skip hn hz] at h
        obtain ⟨x, h1, h2, h3, h4⟩ := lst_some h
        refine ⟨x, h1, by omega, h3, fun j y hj hy hr => ?_⟩
        rcases Nat.lt_or_ge j n with h5 | h5
        · exact h4 j y h5 hy hr
        · obtain rfl : j = n := by omega
          rw [hn] at hy
          obtain rfl := Option.some.inj hy
          exact absurd hr hz
where
  lst_none {l : List Nd} {S : List (List UInt8)} : ∀ {n : Nat}, lstN l S n = none → ∀ j y, j < n → l[j]? = some y → ¬ Ready S y
  | 0, _, j, y, hj, _ => by omega
  | n + 1, h, j, y, hj, hy => by
    cases hn : l[n]? with
    | none =>
      have e : lstN l S (n + 1) = lstN l S n := by
        show (match l[n]? with | none => _ | some x => _) = _
        rw [hn]
      rw [e] at h
      rcases Nat.lt_or_ge j n with h5 | h5
      · exact lst_none h j y h5 hy
      · obtain rfl : j = n := by omega
        rw [hn] at hy
        cases hy
    | some z =>
      by_cases hz : Ready S z
      · cases h0 : lstN l S n with
        | none => rw [lst_first hn hz h0] at h; cases h
        | some b =>
          exfalso
          have e : ∃ q, lstN l S (n + 1) = some q := by
            show ∃ q, (match l[n]? with | none => _ | some x => _) = some q
            rw [hn]
            simp only
            rw [if_pos hz, h0]
            simp only
            split <;> exact ⟨_, rfl⟩
          obtain ⟨q, e⟩ := e
          rw [h] at e
          cases e
      · rw [lst_skip hn hz] at h
        rcases Nat.lt_or_ge j n with h5 | h5
        · exact lst_none h j y h5 hy
        · obtain rfl : j = n := by omega
          rw [hn] at hy
          obtain rfl := Option.some.inj hy
          exact hz
theorem lst_none {l : List Nd} {S : List (List UInt8)} {n : Nat} (h : lstN l S n = none) : ∀ j y, j < n → l[j]? = some y → ¬ Ready S y := lst_some.lst_none h

theorem nm_app (l : List Nd) (a b : List Nat) : nmOf l (a ++ b) = nmOf l a ++ nmOf l b := by unfold nmOf; exact List.filterMap_append
theorem nm_one {l : List Nd} {i : Nat} {x : Nd} (hx : l[i]? = some x) : nmOf l [i] = [x.name] := by simp [nmOf, hx]
theorem nm_mem {l : List Nd} {o : List Nat} {u : List UInt8} : u ∈ nmOf l o ↔ ∃ j ∈ o, ∃ x, l[j]? = some x ∧ x.name = u := by
  unfold nmOf
  rw [List.mem_filterMap]
  constructor
  · rintro ⟨j, hj, h⟩
    cases hx : l[j]? with
    | none => rw [hx] at h; cases h
    | some x => exact ⟨j, hj, x, hx, by rw [hx] at h; simpa using h⟩
  · rintro ⟨j, hj, x, hx, rfl⟩
    exact ⟨j, hj, by rw [hx]; rfl⟩

theorem ord_step {l : List Nd} {k i : Nat} (h : lstN l (nmOf l (ordN l k)) l.length = some i) : ordN l (k + 1) = ordN l k ++ [i] := by
  show (match lstN l (nmOf l (ordN l k)) l.length with | some i => _ | none => _) = _
  rw [h]
theorem ord_stop1 {l : List Nd} {k : Nat} (h : lstN l (nmOf l (ordN l k)) l.length = none) : ordN l (k + 1) = ordN l k := by
  show (match lstN l (nmOf l (ordN l k)) l.length with | some i => _ | none => _) = _
  rw [h]
theorem ord_stop {l : List Nd} {k : Nat} (h : lstN l (nmOf l (ordN l k)) l.length = none) : ∀ j, ordN l (k + j) = ordN l k
  | 0 => rfl
  | j + 1 => by
    have ih := ord_stop h j
    rw [← Nat.add_assoc, ord_stop1 (by rw [ih]; exact h), ih]
/-- What stands in the order: places of nodes, no two of one name. -/
theorem ord_good (l : List Nd) : ∀ k, (∀ j ∈ ordN l k, j < l.length) ∧ (nmOf l (ordN l k)).Nodup ∧ (nmOf l (ordN l k)).length = (ordN l k).length ∧ (ordN l k).length ≤ k ∧ (ordN l k).Nodup
  | 0 => ⟨by simp [ordN], by simp [ordN, nmOf], rfl, Nat.le_refl _, List.nodup_nil⟩
  | k + 1 => by
    obtain ⟨h1, h2, h3, h4, h5⟩ := ord_good l k
    cases e : lstN l (nmOf l (ordN l k)) l.length with
    | none => rw [ord_stop1 e]; exact ⟨h1, h2, h3, by omega, h5⟩
    | some i =>
      obtain ⟨x, g1, g2, g3, _⟩ := lst_some e
      have hni : i ∉ ordN l k := fun h => g3.1 (nm_mem.2 ⟨i, h, x, g1, rfl⟩)
      rw [ord_step e, nm_app, nm_one g1]
      refine ⟨fun j hj => ?_, ?_, by simp [h3], by simp; omega, ?_⟩
      · rcases List.mem_append.1 hj with hj | hj
        · exact h1 j hj
        · obtain rfl := List.mem_singleton.1 hj; exact g2
      · rw [List.nodup_append]
        exact ⟨h2, by simp, fun a ha b hb => by obtain rfl := List.mem_singleton.1 hb; exact fun e => g3.1 (e ▸ ha)⟩
      · rw [List.nodup_append]
        exact ⟨h5, by simp, fun a ha b hb => by obtain rfl := List.mem_singleton.1 hb; exact fun e => hni (e ▸ ha)⟩
theorem nodup_len {o : List Nat} {n : Nat} (h : o.Nodup) (hb : ∀ j ∈ o, j < n) : o.length ≤ n := by
  have hs : o ⊆ List.range n := fun j hj => List.mem_range.2 (hb j hj)
  have := List.Nodup.length_le_of_subset h hs
  simpa using this
theorem ord_len (l : List Nd) (k : Nat) : (ordN l k).length ≤ l.length := nodup_len (ord_good l k).2.2.2.2 (ord_good l k).1
theorem ord_full {l : List Nd} {k : Nat} (hk : k ≤ l.length) (h : lstN l (nmOf l (ordN l k)) l.length = none) : ordN l k = ord l := by
  have := ord_stop h (l.length - k)
  rw [show k + (l.length - k) = l.length by omega] at this
  exact this.symm
/-- By as many steps as there are nodes nothing is left. -/
theorem ord_end {l : List Nd} {k i : Nat} (hk : (ordN l k).length = k) (h : lstN l (nmOf l (ordN l k)) l.length = some i) : k < l.length := by
  have h1 := ord_len l (k + 1)
  rw [ord_step h] at h1
  simp at h1
  omega

/-- What is wrong with a node by itself. -/
def aloneE (x : Nd) : Int :=
  if ¬ (x.name ≠ [] ∧ x.name.length ≤ 64) then 1 else if x.src = true ∧ (x.deps ≠ [] ∨ x.rule ≠ 0) then 1 else if ¬ (x.name :: x.deps).Nodup then 1 else if 16 < x.deps.length then 5 else 0
/-- What is wrong with the first nodes. -/
def errN (l : List Nd) : Nat → Int
  | 0 => 0
  | i + 1 => if errN l i ≠ 0 then errN l i else match l[i]? with | none => 0 | some x => if x.name ∈ (l.take i).map Nd.name then 1 else aloneE x
def depsIn (l : List Nd) : Prop := ∀ x ∈ l, ∀ d ∈ x.deps, d ∈ l.map Nd.name
instance (l : List Nd) : Decidable (depsIn l) := by unfold depsIn; infer_instance
/-- What is wrong with nodes. -/
def chk (l : List Nd) : Int :=
  if 64 < l.length then 5 else if errN l l.length ≠ 0 then errN l l.length else if ¬ depsIn l then 6 else if (ord l).length < l.length then 9 else 0

theorem err_step {l : List Nd} {i : Nat} {x : Nd} (hx : l[i]? = some x) (h : errN l i = 0) : errN l (i + 1) = if x.name ∈ (l.take i).map Nd.name then 1 else aloneE x := by
  show (if errN l i ≠ 0 then _ else _) = _
  rw [if_neg (by simp [h]), hx]
theorem err_keep {l : List Nd} {i : Nat} (h : errN l i ≠ 0) : ∀ j, errN l (i + j) = errN l i
  | 0 => rfl
  | j + 1 => by
    have ih := err_keep h j
    rw [← Nat.add_assoc]
    show (if errN l (i + j) ≠ 0 then _ else _) = _
    rw [if_pos (by rw [ih]; exact h), ih]
theorem err_to {l : List Nd} {i : Nat} (h : errN l i ≠ 0) (hi : i ≤ l.length) : errN l l.length = errN l i := by
  have := err_keep h (l.length - i)
  rw [show i + (l.length - i) = l.length by omega] at this
  exact this
theorem err_ok {l : List Nd} : ∀ {i : Nat}, i ≤ l.length → (errN l i = 0 ↔ ((l.take i).map Nd.name).Nodup ∧ ∀ x ∈ l.take i, aloneE x = 0)
  | 0, _ => by simp [errN]
  | i + 1, hi => by
    obtain ⟨x, hx⟩ : ∃ x, l[i]? = some x := ⟨_, List.getElem?_eq_getElem (by omega)⟩
    have ih := err_ok (l := l) (i := i) (by omega)
    rw [List.take_add_one, hx]
    simp only [Option.toList_some, List.map_append, List.map_cons, List.map_nil, List.nodup_append, List.mem_append, List.mem_singleton]
    by_cases h : errN l i = 0
    · rw [err_step hx h]
      obtain ⟨h1, h2⟩ := ih.1 h
      constructor
      · intro h3
        by_cases h4 : x.name ∈ (l.take i).map Nd.name
        · rw [if_pos h4] at h3; cases h3
        · rw [if_neg h4] at h3
          refine ⟨⟨h1, by simp, fun a ha b hb => by subst hb; exact fun e => h4 (e ▸ ha)⟩, fun y hy => ?_⟩
          rcases hy with hy | rfl
          · exact h2 y hy
          · exact h3
      · rintro ⟨⟨_, _, h3⟩, h4⟩
        rw [if_neg (fun h => h3 _ h _ rfl rfl)]
        exact h4 x (.inr rfl)
    · have h1 : errN l (i + 1) ≠ 0 := by rw [err_keep h 1]; exact h
      constructor
      · intro h2; exact absurd h2 h1
      · rintro ⟨⟨h2, _, _⟩, h3⟩
        exact absurd (ih.2 ⟨h2, fun y hy => h3 y (.inl hy)⟩) h

end Go.Proofs.Ytcfmpajdhbcimaa
