/- What changes in a clean build, where other contents are given: mathematics. -/
import Derived.Test.YtacjiojfjkonkaaWr6
import Derived.Test.YtacjiojfjkonkaaXx
namespace Go.Proofs.Ytacjiojfjkonkaa

theorem cl_len {l : List Nd} (hc : chk l = 0) (g : List Stp) : ∀ i, i ≤ l.length → (clN l g (ord l) i).length = i
  | 0, _ => rfl
  | i + 1, hi => by
    obtain ⟨j, hj⟩ : ∃ j, (ord l)[i]? = some j := ⟨_, List.getElem?_eq_getElem (by rw [(chk_ok.1 hc).2.2.2.2]; omega)⟩
    have hjl := (ord_good l l.length).1 j (List.mem_of_getElem? hj)
    rw [cl_step hj (List.getElem?_eq_getElem hjl), List.length_append, cl_len hc g i (by omega)]
    rfl
theorem cl_take {l : List Nd} (hc : chk l = 0) (g : List Stp) : ∀ n i, i ≤ n → n ≤ l.length → (clN l g (ord l) n).take i = clN l g (ord l) i
  | 0, i, h, _ => by
    obtain rfl : i = 0 := by omega
    rfl
  | n + 1, i, h, hn => by
    rcases Nat.lt_or_ge n i with h2 | h2
    · obtain rfl : i = n + 1 := by omega
      exact List.take_of_length_le (by rw [cl_len hc g (n + 1) hn]; exact Nat.le_refl _)
    · obtain ⟨j, hj⟩ : ∃ j, (ord l)[n]? = some j := ⟨_, List.getElem?_eq_getElem (by rw [(chk_ok.1 hc).2.2.2.2]; omega)⟩
      have hjl := (ord_good l l.length).1 j (List.mem_of_getElem? hj)
      rw [cl_step hj (List.getElem?_eq_getElem hjl), List.take_append_of_le_length (by rw [cl_len hc g n (by omega)]; exact h2)]
      exact cl_take hc g n i h2 (by omega)
/-- The step at a place. -/
theorem cl_at {l : List Nd} (hc : chk l = 0) (g : List Stp) {i j : Nat} {x : Nd} (hi : i < l.length) (hj : (ord l)[i]? = some j) (hx : l[j]? = some x) : (clN l g (ord l) l.length)[i]? = some (stepOf g (clN l g (ord l) i) x) := by
  have h1 := cl_take hc g l.length (i + 1) hi (Nat.le_refl _)
  rw [cl_step hj hx] at h1
  have h2 : ((clN l g (ord l) l.length).take (i + 1))[i]? = some (stepOf g (clN l g (ord l) i) x) := by
    rw [h1, List.getElem?_append_right (by rw [cl_len hc g i (by omega)]; exact Nat.le_refl _), cl_len hc g i (by omega), Nat.sub_self]
    rfl
  rw [List.getElem?_take] at h2
  split at h2
  · exact h2
  · cases h2
/-- Contents at a place. -/
def conA (S : List Stp) (i : Nat) : Q64 := match S[i]? with | some x => x.con | none => 0#64
theorem giv_here {S : List Stp} {p i : Nat} {s : List UInt8} (hi : i ≤ S.length) (hp : p < i) (hn : ∃ x, S[p]? = some x ∧ x.name = s) (ho : ∀ k x, k < i → S[k]? = some x → x.name = s → k = p) : givN S s i = conA S p := by
  induction i with
  | zero => omega
  | succ i ih =>
    obtain ⟨x, hx⟩ : ∃ x, S[i]? = some x := ⟨_, List.getElem?_eq_getElem (by omega)⟩
    by_cases e : x.name = s
    · have := ho i x (by omega) hx e
      subst this
      rw [giv_yes hx e]
      unfold conA
      rw [hx]
    · rw [giv_no hx e]
      refine ih (by omega) ?_ (fun k y hk hy hz => ho k y (by omega) hy hz)
      rcases Nat.lt_or_ge p i with h | h
      · exact h
      · obtain rfl : p = i := by omega
        obtain ⟨y, hy, hz⟩ := hn
        rw [hx] at hy
        obtain rfl := Option.some.inj hy
        exact absurd hz e

section
variable {l : List Nd} (hc : chk l = 0)
include hc
/-- The node at a place of the order. -/
theorem nodeAt {i : Nat} (hi : i < l.length) : ∃ j x, (ord l)[i]? = some j ∧ l[j]? = some x ∧ (nmO l)[i]? = some x.name ∧ aloneE x = 0 ∧ ∀ d ∈ x.deps, ∃ p, p < i ∧ (nmO l)[p]? = some d := by
  obtain ⟨j, hj⟩ : ∃ j, (ord l)[i]? = some j := ⟨_, List.getElem?_eq_getElem (by rw [(chk_ok.1 hc).2.2.2.2]; exact hi)⟩
  have hjl := (ord_good l l.length).1 j (List.mem_of_getElem? hj)
  have hx := List.getElem?_eq_getElem hjl
  have hnm := nmO_at hj hx
  refine ⟨j, _, hj, hx, hnm, (chk_ok.1 hc).2.2.1 _ (List.getElem_mem hjl), fun d hd => ?_⟩
  have hd1 : (d, l[j].name) ∈ edges l := mem_edges.2 ⟨_, List.getElem_mem hjl, rfl, hd⟩
  have hpos := nmO_edge hc hd1
  rw [idx_at (nmO_nodup l) hnm] at hpos
  have hdn : d ∈ nmO l := nmO_all hc ((chk_ok.1 hc).2.2.2.1 _ (List.getElem_mem hjl) d hd)
  exact ⟨_, hpos, at_idx hdn⟩
/-- Names of steps are the names in their order. -/
theorem cl_name (g : List Stp) {i : Nat} (hi : i < l.length) {s : Stp} (hs : (clN l g (ord l) l.length)[i]? = some s) : (nmO l)[i]? = some s.name := by
  obtain ⟨j, x, hj, hx, hnm, _, _⟩ := nodeAt hc hi
  rw [cl_at hc g hi hj hx] at hs
  obtain rfl := Option.some.inj hs
  rw [stepOf_name]
  exact hnm
/-- The contents of a name ahead. -/
theorem giv_ahead (g : List Stp) {i p : Nat} {d : List UInt8} (hi : i < l.length) (hp : p < i) (hd : (nmO l)[p]? = some d) : givN (clN l g (ord l) i) d (clN l g (ord l) i).length = conA (clN l g (ord l) l.length) p := by
  have hl := cl_len hc g i (by omega)
  have ht := cl_take hc g l.length i (by omega) (Nat.le_refl _)
  have hat : ∀ k, k < i → (clN l g (ord l) i)[k]? = (clN l g (ord l) l.length)[k]? := fun k hk => by
    rw [← ht, List.getElem?_take, if_pos hk]
  have hnm : ∀ k x, k < i → (clN l g (ord l) i)[k]? = some x → (nmO l)[k]? = some x.name := fun k x hk hx => by
    rw [hat k hk] at hx
    exact cl_name hc g (by omega) hx
  rw [hl, giv_here (p := p) (by rw [hl]; exact Nat.le_refl _) hp (by
    obtain ⟨x, hx⟩ : ∃ x, (clN l g (ord l) i)[p]? = some x := ⟨_, List.getElem?_eq_getElem (by rw [hl]; exact hp)⟩
    have h2 := hnm p x hp hx
    rw [hd] at h2
    exact ⟨x, hx, (Option.some.inj h2).symm⟩) (fun k x hk hx e => by
    have h2 := hnm k x hk hx
    rw [e] at h2
    have h3 := idx_at (nmO_nodup l) h2
    have h4 := idx_at (nmO_nodup l) hd
    omega)]
  unfold conA
  rw [hat p hp]
theorem con_at (g : List Stp) {i j : Nat} {x : Nd} (hi : i < l.length) (hj : (ord l)[i]? = some j) (hx : l[j]? = some x) : conA (clN l g (ord l) l.length) i = (stepOf g (clN l g (ord l) i) x).con := by
  unfold conA
  rw [cl_at hc g hi hj hx]
/-- What changes is led to. -/
theorem con_change (g : List Stp) (o : Stp) : ∀ k i, i < k → i < l.length → conA (clN l g (ord l) l.length) i ≠ conA (clN l (g ++ [o]) (ord l) l.length) i → ∀ nm, (nmO l)[i]? = some nm → nm = o.name ∨ Rch (edges l) o.name nm
  | 0, i, h, _, _, _, _ => absurd h (by omega)
  | k + 1, i, h, hi, hne, nm, hnm => by
    obtain ⟨j, x, hj, hx, hnx, _, hds⟩ := nodeAt hc hi
    rw [hnm] at hnx
    obtain rfl := Option.some.inj hnx
    rw [con_at hc g hi hj hx, con_at hc (g ++ [o]) hi hj hx] at hne
    unfold stepOf at hne
    by_cases hs : x.src = true
    · rw [if_pos hs, if_pos hs] at hne
      simp only at hne
      rw [giv_snoc] at hne
      by_cases e : o.name = x.name
      · exact .inl e.symm
      · rw [if_neg e] at hne
        exact absurd rfl hne
    · rw [if_neg hs, if_neg hs] at hne
      simp only at hne
      have : ∃ d ∈ x.deps, givN (clN l g (ord l) i) d (clN l g (ord l) i).length ≠ givN (clN l (g ++ [o]) (ord l) i) d (clN l (g ++ [o]) (ord l) i).length := by
        apply Classical.byContradiction
        intro hno
        refine hne (congrArg _ (List.map_congr_left fun d hd => ?_))
        apply Classical.byContradiction
        intro h2
        exact hno ⟨d, hd, h2⟩
      obtain ⟨d, hd, hdn⟩ := this
      obtain ⟨p, hp, hpd⟩ := hds d hd
      rw [giv_ahead hc g hi hp hpd, giv_ahead hc (g ++ [o]) hi hp hpd] at hdn
      have he : (d, x.name) ∈ edges l := mem_edges.2 ⟨x, List.mem_of_getElem? hx, rfl, hd⟩
      rcases con_change g o k p (by omega) (by omega) hdn d hpd with e | e
      · rw [e] at he
        exact .inr (rch_one he)
      · exact .inr (rch_more e he)
/-- With one dep alone it changes just if that does. -/
theorem con_one (g : List Stp) (o : Stp) {i j : Nat} {x : Nd} {d : List UInt8} (hi : i < l.length) (hj : (ord l)[i]? = some j) (hx : l[j]? = some x) (hd : x.deps = [d]) : ∃ p, p < i ∧ (nmO l)[p]? = some d ∧ (conA (clN l g (ord l) l.length) i = conA (clN l (g ++ [o]) (ord l) l.length) i ↔ conA (clN l g (ord l) l.length) p = conA (clN l (g ++ [o]) (ord l) l.length) p) := by
  obtain ⟨j', x', hj', hx', _, hal, hds⟩ := nodeAt hc hi
  rw [hj] at hj'
  obtain rfl := Option.some.inj hj'
  rw [hx] at hx'
  obtain rfl := Option.some.inj hx'
  obtain ⟨p, hp, hpd⟩ := hds d (by rw [hd]; simp)
  have hs : x.src ≠ true := fun hs => by
    unfold aloneE at hal
    by_cases h1 : ¬ (x.name ≠ [] ∧ x.name.length ≤ 64)
    · rw [if_pos h1] at hal; cases hal
    · rw [if_neg h1, if_pos ⟨hs, .inl (by rw [hd]; simp)⟩] at hal; cases hal
  refine ⟨p, hp, hpd, ?_⟩
  rw [con_at hc g hi hj hx, con_at hc (g ++ [o]) hi hj hx]
  unfold stepOf
  rw [if_neg hs, if_neg hs]
  simp only
  rw [hd, List.map_singleton, List.map_singleton, giv_ahead hc g hi hp hpd, giv_ahead hc (g ++ [o]) hi hp hpd]
  exact ⟨foq_inj, fun h => by rw [h]⟩
/-- Both steps at a place. -/
theorem both_at (g : List Stp) (o : Stp) {i : Nat} (hi : i < l.length) : ∃ (j : Nat) (x : Nd) (rn : Bool) (qa qb : Q64), (ord l)[i]? = some j ∧ l[j]? = some x ∧ (nmO l)[i]? = some x.name ∧ (clN l g (ord l) l.length)[i]? = some ⟨x.name, rn, qa⟩ ∧ (clN l (g ++ [o]) (ord l) l.length)[i]? = some ⟨x.name, rn, qb⟩ ∧
    conA (clN l g (ord l) l.length) i = qa ∧ conA (clN l (g ++ [o]) (ord l) l.length) i = qb ∧ (qa ≠ qb → x.name = o.name ∨ Rch (edges l) o.name x.name) ∧
    ∀ d, x.deps = [d] → ∃ p, p < i ∧ (nmO l)[p]? = some d ∧ (qa = qb ↔ conA (clN l g (ord l) l.length) p = conA (clN l (g ++ [o]) (ord l) l.length) p) := by
  obtain ⟨j, x, hj, hx, hnm, _, _⟩ := nodeAt hc hi
  have ha := cl_at hc g hi hj hx
  have hb := cl_at hc (g ++ [o]) hi hj hx
  have hca : conA (clN l g (ord l) l.length) i = (stepOf g (clN l g (ord l) i) x).con := con_at hc g hi hj hx
  have hcb : conA (clN l (g ++ [o]) (ord l) l.length) i = (stepOf (g ++ [o]) (clN l (g ++ [o]) (ord l) i) x).con := con_at hc (g ++ [o]) hi hj hx
  have hch := fun (h : conA (clN l g (ord l) l.length) i ≠ conA (clN l (g ++ [o]) (ord l) l.length) i) => con_change hc g o (i + 1) i (by omega) hi h x.name hnm
  have h1 := fun d (hd : x.deps = [d]) => con_one hc g o hi hj hx hd
  rw [hca, hcb] at hch h1
  obtain ⟨rn, hra, hrb⟩ : ∃ rn, (stepOf g (clN l g (ord l) i) x).ran = rn ∧ (stepOf (g ++ [o]) (clN l (g ++ [o]) (ord l) i) x).ran = rn := by
    unfold stepOf
    by_cases h : x.src = true
    · rw [if_pos h, if_pos h]; exact ⟨_, rfl, rfl⟩
    · rw [if_neg h, if_neg h]; exact ⟨_, rfl, rfl⟩
  have hna := stepOf_name g (clN l g (ord l) i) x
  have hnb := stepOf_name (g ++ [o]) (clN l (g ++ [o]) (ord l) i) x
  refine ⟨j, x, rn, _, _, hj, hx, hnm, ?_, ?_, hca, hcb, hch, h1⟩
  · rw [ha, ← hra, ← hna]
  · rw [hb, ← hrb, ← hnb]
end

/-- Values at places in an order, by names. -/
def atG (g : Nat → Value) (P : List (List UInt8)) (i : Nat) : List UInt8 → Option Value := fun s => if s ∈ P.take i then some (g (P.idxOf s)) else none
theorem atG_step {g : Nat → Value} {P : List (List UInt8)} (hn : P.Nodup) {i : Nat} {a : List UInt8} (h : P[i]? = some a) (u : List UInt8) : fput (atG g P i) a (g i) u = atG g P (i + 1) u := by
  unfold fput atG
  rw [List.take_add_one, h]
  by_cases e : u = a
  · subst e
    rw [if_pos rfl, if_pos (by simp), idx_at hn h]
  · rw [if_neg e]
    have : u ∈ P.take i ++ (some a).toList ↔ u ∈ P.take i := by simp [e]
    simp only [this]
theorem atG_get {g : Nat → Value} {P : List (List UInt8)} (hn : P.Nodup) {i p : Nat} {s : List UInt8} {z : Value} (hp : p < i) (h : P[p]? = some s) : (atG g P i s).getD z = g p := by
  unfold atG
  have hm : s ∈ P.take i := by
    refine List.mem_of_getElem? (i := p) ?_
    rw [List.getElem?_take, if_pos hp]
    exact h
  rw [if_pos hm, idx_at hn h]
  rfl

end Go.Proofs.Ytacjiojfjkonkaa
