/- Waves of a graph: mathematics. -/
import Derived.Test.YtcfmpajdhbcimaaXx
namespace Go.Proofs.Ytcfmpajdhbcimaa

/-- A level, by the levels of deps. -/
def levOf (f : List UInt8 → Nat) (ds : List (List UInt8)) : Nat := ds.foldl (fun m d => max m (f d + 1)) 0
theorem levOf_from (f : List UInt8 → Nat) : ∀ (ds : List (List UInt8)) (m : Nat), m ≤ ds.foldl (fun m d => max m (f d + 1)) m ∧ (∀ d ∈ ds, f d + 1 ≤ ds.foldl (fun m d => max m (f d + 1)) m) ∧ (ds.foldl (fun m d => max m (f d + 1)) m = m ∨ ∃ d ∈ ds, ds.foldl (fun m d => max m (f d + 1)) m = f d + 1)
  | [], m => ⟨Nat.le_refl _, by simp, .inl rfl⟩
  | d :: ds, m => by
    obtain ⟨h1, h2, h3⟩ := levOf_from f ds (max m (f d + 1))
    simp only [List.foldl_cons]
    refine ⟨by omega, fun e he => ?_, ?_⟩
    · rcases List.mem_cons.1 he with rfl | he
      · omega
      · exact h2 e he
    · rcases h3 with h3 | ⟨e, he, h3⟩
      · rcases Nat.le_total m (f d + 1) with h | h
        · exact .inr ⟨d, by simp, by rw [h3]; omega⟩
        · exact .inl (by rw [h3]; omega)
      · exact .inr ⟨e, List.mem_cons_of_mem _ he, h3⟩
theorem levOf_ge {f : List UInt8 → Nat} {ds : List (List UInt8)} {d : List UInt8} (h : d ∈ ds) : f d + 1 ≤ levOf f ds := (levOf_from f ds 0).2.1 d h
theorem levOf_zero_or (f : List UInt8 → Nat) (ds : List (List UInt8)) : levOf f ds = 0 ∨ ∃ d ∈ ds, levOf f ds = f d + 1 := (levOf_from f ds 0).2.2
theorem levOf_congr {f g : List UInt8 → Nat} {ds : List (List UInt8)} (h : ∀ d ∈ ds, f d = g d) : levOf f ds = levOf g ds := by
  unfold levOf
  generalize 0 = m
  induction ds generalizing m with
  | nil => rfl
  | cons d ds ih =>
    simp only [List.foldl_cons]
    rw [h d (by simp)]
    exact ih (fun e he => h e (List.mem_cons_of_mem _ he)) _
/-- Among the first deps. -/
theorem levOf_snoc (f : List UInt8 → Nat) {ds : List (List UInt8)} {k : Nat} {d : List UInt8} (h : ds[k]? = some d) : levOf f (ds.take (k + 1)) = max (levOf f (ds.take k)) (f d + 1) := by
  unfold levOf
  rw [List.take_add_one, h, List.foldl_append]
  rfl

/-- What a list of levels, by places in an order, tells of a name. -/
def levIn (P : List (List UInt8)) (L : List Nat) (s : List UInt8) : Nat := (L[P.idxOf s]?).getD 0
/-- Levels of the first ones of the order. -/
def lvN (l : List Nd) : Nat → List Nat
  | 0 => []
  | i + 1 => match (ord l)[i]? with
    | some j => match l[j]? with
      | some x => lvN l i ++ [levOf (levIn (nmO l) (lvN l i)) x.deps]
      | none => lvN l i
    | none => lvN l i
theorem lv_step {l : List Nd} {i j : Nat} {x : Nd} (h : (ord l)[i]? = some j) (hx : l[j]? = some x) : lvN l (i + 1) = lvN l i ++ [levOf (levIn (nmO l) (lvN l i)) x.deps] := by
  show (match (ord l)[i]? with | some j => _ | none => _) = _
  rw [h]
  show (match l[j]? with | some x => _ | none => _) = _
  rw [hx]
/-- A name's level. -/
def lev (l : List Nd) (s : List UInt8) : Nat := levIn (nmO l) (lvN l l.length) s

section
variable {l : List Nd} (hc : chk l = 0)
include hc
theorem lv_node {i : Nat} (hi : i < l.length) : ∃ j x, (ord l)[i]? = some j ∧ l[j]? = some x ∧ (nmO l)[i]? = some x.name ∧ ∀ d ∈ x.deps, (nmO l).idxOf d < i := by
  obtain ⟨j, hj⟩ : ∃ j, (ord l)[i]? = some j := ⟨_, List.getElem?_eq_getElem (by rw [(chk_ok.1 hc).2.2.2.2]; exact hi)⟩
  have hjl := (ord_good l l.length).1 j (List.mem_of_getElem? hj)
  have hx := List.getElem?_eq_getElem hjl
  have hnm := nmO_at hj hx
  refine ⟨j, _, hj, hx, hnm, fun d hd => ?_⟩
  have hpos := nmO_edge hc (mem_edges.2 ⟨_, List.getElem_mem hjl, rfl, hd⟩)
  rw [idx_at (nmO_nodup l) hnm] at hpos
  exact hpos
theorem lv_len : ∀ i, i ≤ l.length → (lvN l i).length = i
  | 0, _ => rfl
  | i + 1, hi => by
    obtain ⟨j, x, hj, hx, _⟩ := lv_node hc (i := i) (by omega)
    rw [lv_step hj hx, List.length_append, lv_len i (by omega)]
    rfl
theorem lv_take : ∀ n i, i ≤ n → n ≤ l.length → (lvN l n).take i = lvN l i
  | 0, i, h, _ => by
    obtain rfl : i = 0 := by omega
    rfl
  | n + 1, i, h, hn => by
    rcases Nat.lt_or_ge n i with h2 | h2
    · obtain rfl : i = n + 1 := by omega
      exact List.take_of_length_le (by rw [lv_len hc (n + 1) hn]; exact Nat.le_refl _)
    · obtain ⟨j, x, hj, hx, _⟩ := lv_node hc (i := n) (by omega)
      rw [lv_step hj hx, List.take_append_of_le_length (by rw [lv_len hc n (by omega)]; exact h2)]
      exact lv_take n i h2 (by omega)
/-- What the first levels tell is what all of them tell. -/
theorem lv_ahead {i : Nat} (hi : i ≤ l.length) {d : List UInt8} (hd : (nmO l).idxOf d < i) : levIn (nmO l) (lvN l i) d = lev l d := by
  unfold lev levIn
  rw [← lv_take hc l.length i hi (Nat.le_refl _), List.getElem?_take, if_pos hd]
theorem lev_at {i j : Nat} {x : Nd} (hi : i < l.length) (hj : (ord l)[i]? = some j) (hx : l[j]? = some x) : lev l x.name = levOf (lev l) x.deps := by
  obtain ⟨j', x', hj', hx', hnm, hds⟩ := lv_node hc hi
  rw [hj] at hj'
  obtain rfl := Option.some.inj hj'
  rw [hx] at hx'
  obtain rfl := Option.some.inj hx'
  have h1 : levIn (nmO l) (lvN l (i + 1)) x.name = lev l x.name := lv_ahead hc (by omega) (by rw [idx_at (nmO_nodup l) hnm]; omega)
  rw [← h1]
  unfold levIn
  rw [idx_at (nmO_nodup l) hnm, lv_step hj hx, List.getElem?_append_right (by rw [lv_len hc i (by omega)]; exact Nat.le_refl _), lv_len hc i (by omega), Nat.sub_self]
  show levOf _ _ = _
  exact levOf_congr fun d hd => lv_ahead hc (by omega) (hds d hd)
/-- Each name of a node stands in the order. -/
theorem lev_name {u : List UInt8} (hu : u ∈ l.map Nd.name) : ∃ x ∈ l, x.name = u ∧ lev l u = levOf (lev l) x.deps := by
  have hin := nmO_all hc hu
  have hlt := List.idxOf_lt_length_of_mem hin
  rw [nmO_len hc] at hlt
  obtain ⟨j, x, hj, hx, hnm, _⟩ := lv_node hc hlt
  rw [at_idx hin] at hnm
  have e : u = x.name := Option.some.inj hnm
  exact ⟨x, List.mem_of_getElem? hx, e.symm, by rw [e]; rw [← e]; exact (by rw [e]; exact lev_at hc hlt hj hx)⟩
theorem lev_edge {d a : List UInt8} (h : (d, a) ∈ edges l) : lev l d < lev l a := by
  obtain ⟨x, hx, rfl, hd⟩ := mem_edges.1 h
  obtain ⟨y, hy, hyn, hl⟩ := lev_name hc (List.mem_map.2 ⟨x, hx, rfl⟩)
  have e : y = x := by
    have hn := (chk_ok.1 hc).2.1
    obtain ⟨i, hi⟩ := List.getElem?_of_mem hy
    obtain ⟨k, hk⟩ := List.getElem?_of_mem hx
    obtain ⟨a1, a2⟩ := List.getElem?_eq_some_iff.1 hi
    obtain ⟨b1, b2⟩ := List.getElem?_eq_some_iff.1 hk
    have : i = k := (List.getElem_inj hn (h₀ := by simpa using a1) (h₁ := by simpa using b1)).1 (by simp [a2, b2, hyn])
    subst this
    rw [hi] at hk
    exact Option.some.inj hk
  rw [e] at hl
  rw [hl]
  exact levOf_ge hd
/-- Levels have no gap. -/
theorem lev_down {u : List UInt8} {k : Nat} (hu : u ∈ l.map Nd.name) (h : lev l u = k + 1) : ∃ d ∈ l.map Nd.name, lev l d = k := by
  obtain ⟨x, hx, _, hl⟩ := lev_name hc hu
  rcases levOf_zero_or (lev l) x.deps with h0 | ⟨d, hd, h1⟩
  · omega
  · exact ⟨d, (chk_ok.1 hc).2.2.2.1 x hx d hd, by omega⟩
theorem lev_all : ∀ {m : Nat} {u : List UInt8}, u ∈ l.map Nd.name → lev l u = m → ∀ k, k ≤ m → ∃ d ∈ l.map Nd.name, lev l d = k
  | 0, u, hu, h, k, hk => ⟨u, hu, by omega⟩
  | m + 1, u, hu, h, k, hk => by
    rcases Nat.lt_or_ge m k with h2 | h2
    · exact ⟨u, hu, by omega⟩
    · obtain ⟨d, hd, hl⟩ := lev_down hc hu h
      exact lev_all hd hl k h2
end

/-- A wave: the names of a level, rising. -/
def IsWave (l : List Nd) (w : Nat) (ns : List (List UInt8)) : Prop := ns.Pairwise (fun a b => a < b) ∧ ∀ u, u ∈ ns ↔ u ∈ l.map Nd.name ∧ lev l u = w
theorem isWave_one {l : List Nd} {w : Nat} {a b : List (List UInt8)} (ha : IsWave l w a) (hb : IsWave l w b) : a = b := up_same ha.1 hb.1 fun u => (ha.2 u).trans (hb.2 u).symm

end Go.Proofs.Ytcfmpajdhbcimaa
