/- What a name leads to: mathematics; no program. -/
import Derived.Sort.KeysCollected
import Derived.Test.YtcfmpajdhbcimaaXa
namespace Go.Proofs.Ytcfmpajdhbcimaa

/-- The edges of a graph: what is read, and the name of what is made of it. -/
def edges (ns : List Nd) : List (List UInt8 × List UInt8) := ns.flatMap fun x => x.deps.map fun d => (d, x.name)
/-- What a name leads to. -/
def Rch (E : List (List UInt8 × List UInt8)) (s u : List UInt8) : Prop := ∀ P : List UInt8 → Prop, (∀ a, (s, a) ∈ E → P a) → (∀ b a, P b → (b, a) ∈ E → P a) → P u
theorem rch_one {E : List (List UInt8 × List UInt8)} {s a : List UInt8} (h : (s, a) ∈ E) : Rch E s a := fun _ h1 _ => h1 a h
theorem rch_more {E : List (List UInt8 × List UInt8)} {s b a : List UInt8} (h : Rch E s b) (he : (b, a) ∈ E) : Rch E s a := fun P h1 h2 => h2 b a (h P h1 h2) he
/-- Nothing is missing in a set. -/
def Clo (E : List (List UInt8 × List UInt8)) (s : List UInt8) (S : List (List UInt8)) : Prop := ∀ d a, (d = s ∨ d ∈ S) → (d, a) ∈ E → a ∈ S
theorem rch_clo {E : List (List UInt8 × List UInt8)} {s u : List UInt8} {S : List (List UInt8)} (hc : Clo E s S) (h : Rch E s u) : u ∈ S :=
  h (fun u => u ∈ S) (fun a ha => hc s a (.inl rfl) ha) (fun b a hb ha => hc b a (.inr hb) ha)
theorem mem_edges {ns : List Nd} {d a : List UInt8} : (d, a) ∈ edges ns ↔ ∃ x ∈ ns, x.name = a ∧ d ∈ x.deps := by
  unfold edges
  rw [List.mem_flatMap]
  constructor
  · rintro ⟨x, hx, h⟩
    obtain ⟨d', hd, e⟩ := List.mem_map.1 h
    cases e
    exact ⟨x, hx, rfl, hd⟩
  · rintro ⟨x, hx, rfl, hd⟩
    exact ⟨x, hx, List.mem_map.2 ⟨d, hd, rfl⟩⟩
theorem rch_name {ns : List Nd} {s u : List UInt8} (h : Rch (edges ns) s u) : u ∈ ns.map Nd.name :=
  h (fun u => u ∈ ns.map Nd.name) (fun a ha => by obtain ⟨x, hx, rfl, _⟩ := mem_edges.1 ha; exact List.mem_map.2 ⟨x, hx, rfl⟩) (fun b a _ ha => by obtain ⟨x, hx, rfl, _⟩ := mem_edges.1 ha; exact List.mem_map.2 ⟨x, hx, rfl⟩)

/-- All that a name leads to, rising. -/
def IsAbv (ns : List Nd) (s : List UInt8) (out : List (List UInt8)) : Prop := out.Pairwise (fun a b => a < b) ∧ ∀ u, u ∈ out ↔ Rch (edges ns) s u
theorem up_nodup {l : List (List UInt8)} (h : l.Pairwise (fun a b => a < b)) : l.Nodup := h.imp fun hab => lx_ne hab
theorem up_sorted {l : List (List UInt8)} (hn : l.Nodup) : (l.mergeSort (fun x y => decide (x ≤ y))).Pairwise (fun a b => a < b) := by
  have tr : ∀ a b c : List UInt8, decide (a ≤ b) = true → decide (b ≤ c) = true → decide (a ≤ c) = true := fun a b c h1 h2 => by simp only [decide_eq_true_eq] at *; exact List.le_trans h1 h2
  have to : ∀ a b : List UInt8, (decide (a ≤ b) || decide (b ≤ a)) = true := fun a b => by simp only [Bool.or_eq_true, decide_eq_true_eq]; exact List.le_total a b
  have h1 := List.pairwise_mergeSort tr to l
  have h2 : (l.mergeSort (fun x y => decide (x ≤ y))).Nodup := (List.mergeSort_perm l _).nodup_iff.2 hn
  refine (h1.and h2).imp fun {a b} h => ?_
  have h3 : a ≤ b := by simpa using h.1
  rcases lx_tri a b with h4 | h4 | h4
  · exact h4
  · exact absurd h4 h.2
  · exact absurd (List.le_antisymm h3 (List.le_of_lt h4)) h.2
theorem isAbv_sort {ns : List Nd} {s : List UInt8} {S : List (List UInt8)} (hn : S.Nodup) (hm : ∀ u, u ∈ S ↔ Rch (edges ns) s u) : IsAbv ns s (S.mergeSort (fun x y => decide (x ≤ y))) :=
  ⟨up_sorted hn, fun u => by rw [(List.mergeSort_perm S _).mem_iff]; exact hm u⟩
theorem up_same {a b : List (List UInt8)} (ha : a.Pairwise (fun a b => a < b)) (hb : b.Pairwise (fun a b => a < b)) (h : ∀ u, u ∈ a ↔ u ∈ b) : a = b := by
  refine List.Perm.eq_of_pairwise (le := fun a b => a < b) (fun x y _ _ h1 h2 => absurd h2 (lx_asymm h1)) ha hb ?_
  exact (List.perm_ext_iff_of_nodup (up_nodup ha) (up_nodup hb)).2 h
theorem isAbv_one {ns : List Nd} {s : List UInt8} {a b : List (List UInt8)} (ha : IsAbv ns s a) (hb : IsAbv ns s b) : a = b := up_same ha.1 hb.1 fun u => (ha.2 u).trans (hb.2 u).symm
theorem names_len {ns : List Nd} {S : List (List UInt8)} (hn : S.Nodup) (h : ∀ u ∈ S, u ∈ ns.map Nd.name) : S.length ≤ ns.length := by
  have := List.Nodup.length_le_of_subset hn h
  simpa using this
theorem isAbv_len {ns : List Nd} {s : List UInt8} {a : List (List UInt8)} (h : IsAbv ns s a) : a.length ≤ ns.length := names_len (up_nodup h.1) fun u hu => rch_name ((h.2 u).1 hu)
theorem isAbv_of_clo {ns : List Nd} {s : List UInt8} {S : List (List UInt8)} (hn : S.Nodup) (h : ∀ u ∈ S, Rch (edges ns) s u) (hc : Clo (edges ns) s S) : IsAbv ns s (S.mergeSort (fun x y => decide (x ≤ y))) :=
  isAbv_sort hn fun u => ⟨h u, rch_clo hc⟩

/-- What is made of a name, by some edges. -/
def gOf (L : List (List UInt8 × List UInt8)) (u : List UInt8) : List (List UInt8) := (L.filter (fun p => decide (p.1 = u))).map (·.2)
theorem gOf_mem {L : List (List UInt8 × List UInt8)} {u a : List UInt8} : a ∈ gOf L u ↔ (u, a) ∈ L := by
  unfold gOf
  rw [List.mem_map]
  constructor
  · rintro ⟨⟨p, q⟩, h, rfl⟩
    obtain ⟨h1, h2⟩ := List.mem_filter.1 h
    obtain rfl : p = u := by simpa using h2
    exact h1
  · intro h
    exact ⟨(u, a), List.mem_filter.2 ⟨h, by simp⟩, rfl⟩
theorem gOf_same (L : List (List UInt8 × List UInt8)) (d a : List UInt8) : gOf (L ++ [(d, a)]) d = gOf L d ++ [a] := by
  unfold gOf
  rw [List.filter_append, List.map_append]
  simp
theorem gOf_other (L : List (List UInt8 × List UInt8)) {d u : List UInt8} (a : List UInt8) (h : u ≠ d) : gOf (L ++ [(d, a)]) u = gOf L u := by
  unfold gOf
  rw [List.filter_append, List.map_append]
  simp [Ne.symm h]
theorem gOf_len (L : List (List UInt8 × List UInt8)) (u : List UInt8) : (gOf L u).length ≤ L.length := by
  unfold gOf
  rw [List.length_map]
  exact List.length_filter_le _ _
theorem edges_succ {ns : List Nd} {i : Nat} {x : Nd} (h : ns[i]? = some x) : edges (ns.take (i + 1)) = edges (ns.take i) ++ x.deps.map fun d => (d, x.name) := by
  unfold edges
  rw [List.take_add_one, h, List.flatMap_append]
  simp
theorem deps_succ {ds : List (List UInt8)} {k : Nat} {d : List UInt8} (nm : List UInt8) (h : ds[k]? = some d) : (ds.take (k + 1)).map (fun d => (d, nm)) = (ds.take k).map (fun d => (d, nm)) ++ [(d, nm)] := by
  rw [List.take_add_one, h, List.map_append]
  rfl
theorem edges_len {ns : List Nd} {M : Nat} (h : ∀ x ∈ ns, x.deps.length ≤ M) : ∀ i, (edges (ns.take i)).length ≤ i * M
  | 0 => by rw [List.take_zero]; exact Nat.zero_le _
  | i + 1 => by
    rw [Nat.succ_mul]
    have h1 := edges_len h i
    rcases Nat.lt_or_ge i ns.length with hi | hi
    · rw [edges_succ (List.getElem?_eq_getElem hi), List.length_append, List.length_map]
      have h2 := h _ (List.getElem_mem hi)
      exact Nat.add_le_add h1 h2
    · rw [List.take_of_length_le hi] at h1
      rw [List.take_of_length_le (Nat.le_succ_of_le hi)]
      exact Nat.le_trans h1 (Nat.le_add_right _ _)

end Go.Proofs.Ytcfmpajdhbcimaa
