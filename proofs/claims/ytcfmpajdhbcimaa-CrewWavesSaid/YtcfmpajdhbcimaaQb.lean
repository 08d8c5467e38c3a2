/- Waves, grown name by name; rows of rows of texts in memory. -/
import Derived.Test.YtcfmpajdhbcimaaQa
import Derived.Test.YtcfmpajdhbcimaaMw
import Derived.Laws.OwnMore
namespace Go.Proofs.Ytcfmpajdhbcimaa
open Go.RowKit

/-- The names of a level among the first ones of the order. -/
def wv (l : List Nd) (i k : Nat) : List (List UInt8) := ((nmO l).take i).filter (fun s => decide (lev l s = k))
/-- How many waves there are among the first ones. -/
def wvN (l : List Nd) (i : Nat) : Nat := levOf (lev l) ((nmO l).take i)
def wvs (l : List Nd) (i : Nat) : List (List (List UInt8)) := (List.range (wvN l i)).map (wv l i)
def srt (a : List (List UInt8)) : List (List UInt8) := a.mergeSort (fun x y => decide (x ≤ y))
/-- The first waves are sorted. -/
def wvS (l : List Nd) (n j : Nat) : List (List (List UInt8)) := (List.range (wvN l n)).map fun k => if k < j then srt (wv l n k) else wv l n k
theorem wvs_len (l : List Nd) (i : Nat) : (wvs l i).length = wvN l i := by simp [wvs]
theorem wvS_len (l : List Nd) (n j : Nat) : (wvS l n j).length = wvN l n := by simp [wvS]
theorem wvs_get {l : List Nd} {i k : Nat} (h : k < wvN l i) : (wvs l i)[k]? = some (wv l i k) := by simp [wvs, h]
theorem wvS_get {l : List Nd} {n j k : Nat} (h : k < wvN l n) : (wvS l n j)[k]? = some (if k < j then srt (wv l n k) else wv l n k) := by simp [wvS, h]
theorem wvS_start (l : List Nd) (n : Nat) : wvS l n 0 = wvs l n := by simp [wvS, wvs]
theorem wvS_step {l : List Nd} {n j : Nat} (h : j < wvN l n) : wvS l n (j + 1) = (wvS l n j).set j (srt (wv l n j)) := by
  refine List.ext_getElem? fun k => ?_
  rw [List.getElem?_set, wvS_len]
  by_cases hk : k < wvN l n
  · rw [wvS_get hk, wvS_get hk]
    by_cases e : j = k
    · subst e
      rw [if_pos (by omega), if_pos rfl, if_pos hk]
    · rw [if_neg e]
      by_cases h2 : k < j
      · rw [if_pos h2, if_pos (by omega)]
      · rw [if_neg h2, if_neg (by omega)]
  · rw [List.getElem?_eq_none (by rw [wvS_len]; omega), List.getElem?_eq_none (by rw [wvS_len]; omega), if_neg (by omega)]
theorem wv_next {l : List Nd} {i : Nat} {nm : List UInt8} (h : (nmO l)[i]? = some nm) (k : Nat) : wv l (i + 1) k = if lev l nm = k then wv l i k ++ [nm] else wv l i k := by
  unfold wv
  rw [List.take_add_one, h, List.filter_append]
  by_cases e : lev l nm = k
  · simp [e]
  · simp [e]
theorem wvN_next {l : List Nd} {i : Nat} {nm : List UInt8} (h : (nmO l)[i]? = some nm) : wvN l (i + 1) = max (wvN l i) (lev l nm + 1) := levOf_snoc (lev l) h
theorem wv_over {l : List Nd} {i k : Nat} (h : wvN l i ≤ k) : wv l i k = [] := by
  unfold wv
  refine List.filter_eq_nil_iff.2 fun s hs => ?_
  have := levOf_ge (f := lev l) hs
  unfold wvN at h
  simp only [decide_eq_true_eq]
  omega
/-- A name in a wave that is there. -/
theorem wvs_in {l : List Nd} {i : Nat} {nm : List UInt8} (h : (nmO l)[i]? = some nm) (hk : lev l nm < wvN l i) : wvs l (i + 1) = (wvs l i).set (lev l nm) (wv l i (lev l nm) ++ [nm]) ∧ wvN l (i + 1) = wvN l i := by
  have hn : wvN l (i + 1) = wvN l i := by rw [wvN_next h]; omega
  refine ⟨List.ext_getElem? fun k => ?_, hn⟩
  rw [List.getElem?_set, wvs_len]
  by_cases hlt : k < wvN l i
  · rw [wvs_get (by omega), wvs_get hlt, wv_next h]
    by_cases e : lev l nm = k
    · rw [if_pos e, if_pos e, if_pos hk, e]
    · rw [if_neg e, if_neg e]
  · rw [List.getElem?_eq_none (by rw [wvs_len]; omega), List.getElem?_eq_none (by rw [wvs_len]; omega), if_neg (by omega)]
/-- A name that opens a wave. -/
theorem wvs_new {l : List Nd} {i : Nat} {nm : List UInt8} (h : (nmO l)[i]? = some nm) (hk : lev l nm = wvN l i) : wvs l (i + 1) = (wvs l i ++ [[]]).set (lev l nm) [nm] ∧ wvN l (i + 1) = wvN l i + 1 := by
  have hn : wvN l (i + 1) = wvN l i + 1 := by rw [wvN_next h]; omega
  refine ⟨List.ext_getElem? fun k => ?_, hn⟩
  rw [List.getElem?_set, List.length_append, wvs_len]
  rcases Nat.lt_trichotomy k (wvN l i) with hlt | e | hgt
  · rw [wvs_get (by omega), wv_next h, if_neg (by omega), if_neg (by omega), List.getElem?_append_left (by rw [wvs_len]; exact hlt), wvs_get hlt]
  · rw [wvs_get (by omega), wv_next h, if_pos (by omega), if_pos (by omega), if_pos (by simp; omega), e, wv_over (Nat.le_refl _)]
    rfl
  · rw [List.getElem?_eq_none (by rw [wvs_len]; omega), if_neg (by omega), List.getElem?_eq_none (by rw [List.length_append, wvs_len]; simp; omega)]

theorem nmO_names {l : List Nd} {u : List UInt8} (h : u ∈ nmO l) : u ∈ l.map Nd.name := by
  obtain ⟨j, _, x, hx, rfl⟩ := nm_mem.1 h
  exact List.mem_map.2 ⟨x, List.mem_of_getElem? hx, rfl⟩
section
variable {l : List Nd} (hc : chk l = 0)
include hc
theorem lev_le {i j : Nat} {x : Nd} (hi : i < l.length) (hj : (ord l)[i]? = some j) (hx : l[j]? = some x) : lev l x.name ≤ wvN l i := by
  rw [lev_at hc hi hj hx]
  obtain ⟨j', x', hj', hx', hnm, hds⟩ := lv_node hc hi
  rw [hj] at hj'
  obtain rfl := Option.some.inj hj'
  rw [hx] at hx'
  obtain rfl := Option.some.inj hx'
  rcases levOf_zero_or (lev l) x.deps with h0 | ⟨d, hd, h1⟩
  · omega
  · rw [h1]
    have hin : d ∈ nmO l := nmO_all hc ((chk_ok.1 hc).2.2.2.1 x (List.mem_of_getElem? hx) d hd)
    have hd2 : d ∈ (nmO l).take i := by
      refine List.mem_of_getElem? (i := (nmO l).idxOf d) ?_
      rw [List.getElem?_take, if_pos (hds d hd)]
      exact at_idx hin
    exact levOf_ge hd2
theorem isWave_all (k : Nat) : IsWave l k (srt (wv l l.length k)) := by
  have hall : (nmO l).take l.length = nmO l := List.take_of_length_le (by rw [nmO_len hc]; exact Nat.le_refl _)
  refine ⟨up_sorted (List.Nodup.sublist List.filter_sublist (by rw [hall]; exact nmO_nodup l)), fun u => ?_⟩
  unfold srt
  rw [List.mem_mergeSort]
  unfold wv
  rw [hall, List.mem_filter, decide_eq_true_eq]
  exact ⟨fun h => ⟨nmO_names h.1, h.2⟩, fun h => ⟨nmO_all hc h.1, h.2⟩⟩
theorem wave_some {k : Nat} (hk : k < wvN l l.length) : srt (wv l l.length k) ≠ [] := fun e => by
  have hall : (nmO l).take l.length = nmO l := List.take_of_length_le (by rw [nmO_len hc]; exact Nat.le_refl _)
  have hN : wvN l l.length = levOf (lev l) (nmO l) := by unfold wvN; rw [hall]
  rcases levOf_zero_or (lev l) (nmO l) with h0 | ⟨u, hu, h1⟩
  · omega
  · obtain ⟨d, hd, hl⟩ := lev_all hc (nmO_names hu) rfl k (by omega)
    have := ((isWave_all hc k).2 d).2 ⟨hd, hl⟩
    rw [e] at this
    cases this
end
/-- The waves. -/
def wavesOf (l : List Nd) : List (List (List UInt8)) := wvS l l.length (wvN l l.length)
theorem waves_get {l : List Nd} {k : Nat} (h : k < wvN l l.length) : (wavesOf l)[k]? = some (srt (wv l l.length k)) := by
  unfold wavesOf
  rw [wvS_get h, if_pos h]
theorem waves_len (l : List Nd) : (wavesOf l).length = wvN l l.length := wvS_len l _ _
theorem levOf_bound {f : List UInt8 → Nat} {b : Nat} {ds : List (List UInt8)} (h : ∀ d ∈ ds, f d + 1 ≤ b) : levOf f ds ≤ b := by
  rcases levOf_zero_or f ds with h0 | ⟨d, hd, h1⟩
  · omega
  · have := h d hd; omega
theorem wvN_le (l : List Nd) (hc : chk l = 0) : ∀ i, i ≤ l.length → wvN l i ≤ i
  | 0, _ => by unfold wvN levOf; simp
  | i + 1, hi => by
    obtain ⟨j, x, hj, hx, hnm, _⟩ := lv_node hc (i := i) (by omega)
    rw [wvN_next hnm]
    have := lev_le hc (by omega) hj hx
    have := wvN_le l hc i (by omega)
    omega
theorem wv_len (l : List Nd) (i k : Nat) : (wv l i k).length ≤ i := by
  unfold wv
  exact Nat.le_trans (List.length_filter_le _ _) (by rw [List.length_take]; omega)

/-- Rows of texts, each a row of its own, in a row of one's own. -/
def RR (w : World) (base : Nat) (v : Value) (G : List (List (List UInt8))) (vs : List Value) : Prop :=
  w.ownsRow base 33 1 v G.length vs ∧ (∀ (k : Nat) (x : Value), vs[k]? = some x → ∃ r, G[k]? = some r ∧ w.ownsRow base 9 1 x r.length (r.map tsv)) ∧ ∀ (k k' : Nat) (x x' : Value), k ≠ k' → vs[k]? = some x → vs[k']? = some x' → Apart x x'
theorem rr_nil (w : World) (base : Nat) : RR w base (.slice none 0 0) [] [] := ⟨World.ownsRow_nil _ _ _ _, by simp, by simp⟩
theorem RR.len {w : World} {base : Nat} {v : Value} {G : List (List (List UInt8))} {vs : List Value} (h : RR w base v G vs) : vs.length = G.length := by have := h.1.1; simpa using this
theorem RR.row {w : World} {base : Nat} {v : Value} {G : List (List (List UInt8))} {vs : List Value} (h : RR w base v G vs) {k : Nat} {r : List (List UInt8)} (hr : G[k]? = some r) : ∃ x, vs[k]? = some x ∧ w.ownsRow base 9 1 x r.length (r.map tsv) := by
  have hk := (List.getElem?_eq_some_iff.1 hr).1
  obtain ⟨x, hx⟩ : ∃ x, vs[k]? = some x := ⟨_, List.getElem?_eq_getElem (by rw [h.len]; exact hk)⟩
  obtain ⟨r', hr', ho⟩ := h.2.1 k x hx
  rw [hr] at hr'
  obtain rfl := Option.some.inj hr'
  exact ⟨x, hx, ho⟩
theorem RR.below {w w' : World} {base : Nat} {v : Value} {G : List (List (List UInt8))} {vs : List Value} (h : RR w base v G vs) (hb : Below w.heap.size w w') : RR w' base v G vs :=
  ⟨own_below h.1 hb, fun k x hx => (h.2.1 k x hx).imp fun _ hr => ⟨hr.1, own_below hr.2 hb⟩, h.2.2⟩
theorem RR.apart {w : World} {base : Nat} {v : Value} {G : List (List (List UInt8))} {vs : List Value} (h : RR w base v G vs) {k : Nat} {x : Value} (hx : vs[k]? = some x) : Apart v x := by
  obtain ⟨_, _, ho⟩ := h.2.1 k x hx
  exact own_apart h.1 ho (by decide)
theorem RR.less {w : World} {base base' : Nat} {v : Value} {G : List (List (List UInt8))} {vs : List Value} (h : RR w base v G vs) (hb : base' ≤ base) : RR w base' v G vs :=
  ⟨own_less h.1 hb, fun k x hx => (h.2.1 k x hx).imp fun _ hr => ⟨hr.1, own_less hr.2 hb⟩, h.2.2⟩
/-- What grows elsewhere. -/
theorem RR.kept {w w' : World} {base : Nat} {v : Value} {G : List (List (List UInt8))} {vs : List Value} {row : Option Nat} (h : RR w base v G vs) (hg : w.grownBy w' row) (hv : v.ownBlock = none ∨ v.ownBlock ≠ row) (hx : ∀ (k : Nat) (x : Value), vs[k]? = some x → x.ownBlock = none ∨ x.ownBlock ≠ row) : RR w' base v G vs :=
  ⟨h.1.kept hg hv, fun k x hk => (h.2.1 k x hk).imp fun _ hr => ⟨hr.1, hr.2.kept hg (hx k x hk)⟩, h.2.2⟩
/-- One more row. -/
theorem rr_add {w w' : World} {base : Nat} {v v' x : Value} {G : List (List (List UInt8))} {vs : List Value} {r : List (List UInt8)} (h : RR w base v G vs) (hr : w.ownsRow base 9 1 x r.length (r.map tsv))
    (hap : ∀ (k : Nat) (y : Value), vs[k]? = some y → Apart x y) (hg : w.grownBy w' v.ownBlock) (ho : w'.ownsRow base 33 1 v' (G.length + 1) (vs ++ [x])) : RR w' base v' (G ++ [r]) (vs ++ [x]) := by
  have hvx : Apart v x := own_apart h.1 hr (by decide)
  have hlen := h.len
  have hat : ∀ (k : Nat) (y : Value), (vs ++ [x])[k]? = some y → (k < vs.length ∧ vs[k]? = some y) ∨ (k = vs.length ∧ y = x) := fun k y hy => by
    rcases Nat.lt_or_ge k vs.length with hlt | hge
    · rw [List.getElem?_append_left hlt] at hy
      exact .inl ⟨hlt, hy⟩
    · rw [List.getElem?_append_right hge] at hy
      have h0 : k - vs.length = 0 := by
        have := (List.getElem?_eq_some_iff.1 hy).1
        simp at this; omega
      rw [h0] at hy
      exact .inr ⟨by omega, by simpa using hy.symm⟩
  refine ⟨by simpa using ho, fun k y hy => ?_, fun k k' y y' hne hy hy' => ?_⟩
  · rcases hat k y hy with ⟨hlt, hy⟩ | ⟨rfl, rfl⟩
    · obtain ⟨r', hr', ho'⟩ := h.2.1 k y hy
      exact ⟨r', by rw [List.getElem?_append_left (by omega)]; exact hr', own_kept ho' (h.apart hy) hg⟩
    · exact ⟨r, by rw [hlen]; simp, own_kept hr hvx hg⟩
  · rcases hat k y hy with ⟨hlt, h1⟩ | ⟨h1, h2⟩
    · rcases hat k' y' hy' with ⟨hlt', h1'⟩ | ⟨h1', h2'⟩
      · exact h.2.2 k k' y y' hne h1 h1'
      · rw [h2']
        exact (hap k y h1).symm
    · rcases hat k' y' hy' with ⟨hlt', h1'⟩ | ⟨h1', h2'⟩
      · rw [h2]
        exact hap k' y' h1'
      · omega
/-- A row in place of one, of the same block or of a new one. -/
theorem rr_set {w w1 w2 : World} {base : Nat} {v x x' : Value} {G : List (List (List UInt8))} {vs : List Value} {r : List (List UInt8)} {k : Nat} (h : RR w base v G vs) (hx : vs[k]? = some x)
    (hg : w.grownBy w1 x.ownBlock) (ho : w1.ownsRow base 9 1 x' r.length (r.map tsv)) (ht : x'.ownBlock = x.ownBlock ∨ x'.ownBlock = some w.heap.size)
    (hg2 : w1.grownBy w2 v.ownBlock) (ho2 : w2.ownsRow base 33 1 v G.length (vs.set k x')) : RR w2 base v (G.set k r) (vs.set k x') := by
  have hk : k < vs.length := (List.getElem?_eq_some_iff.1 hx).1
  have hlen := h.len
  have hvx' : Apart v x' := fun g h1 h2 => by
    rcases ht with e | e
    · exact h.apart hx g h1 (by rw [← e]; exact h2)
    · rw [e] at h2
      have := own_lt h.1 g h1
      have := Option.some.inj h2
      omega
  have hap : ∀ (k' : Nat) (y : Value), k' ≠ k → vs[k']? = some y → Apart x' y := fun k' y hne hy g h1 h2 => by
    rcases ht with e | e
    · exact h.2.2 k k' x y (Ne.symm hne) hx hy g (by rw [← e]; exact h1) h2
    · rw [e] at h1
      obtain ⟨r', _, ho'⟩ := h.2.1 k' y hy
      have := own_lt ho' g h2
      have := Option.some.inj h1
      omega
  refine ⟨by simpa using ho2, fun k' y hy => ?_, fun k1 k2 y y' hne hy hy' => ?_⟩
  · rw [List.getElem?_set] at hy
    by_cases e : k = k'
    · subst e
      rw [if_pos rfl, if_pos hk] at hy
      obtain rfl := Option.some.inj hy
      exact ⟨r, by rw [List.getElem?_set, if_pos rfl, if_pos (by omega)], own_kept ho hvx' hg2⟩
    · rw [if_neg e] at hy
      obtain ⟨r', hr', ho'⟩ := h.2.1 k' y hy
      exact ⟨r', by rw [List.getElem?_set, if_neg e]; exact hr', own_kept (own_kept ho' (h.2.2 k k' x y e hx hy) hg) (h.apart hy) hg2⟩
  · rw [List.getElem?_set] at hy hy'
    by_cases e : k = k1
    · rw [if_pos e, if_pos hk] at hy
      obtain rfl := Option.some.inj hy
      rw [if_neg (by omega)] at hy'
      exact hap k2 y' (by omega) hy'
    · rw [if_neg e] at hy
      by_cases e2 : k = k2
      · rw [if_pos e2, if_pos hk] at hy'
        obtain rfl := Option.some.inj hy'
        exact (hap k1 y (by omega) hy).symm
      · rw [if_neg e2] at hy'
        exact h.2.2 k1 k2 y y' hne hy hy'
/-- A row changed where it lies. -/
theorem rr_in {w w1 : World} {base : Nat} {v x : Value} {G : List (List (List UInt8))} {vs : List Value} {r : List (List UInt8)} {k : Nat} (h : RR w base v G vs) (hx : vs[k]? = some x)
    (hg : w.grownBy w1 x.ownBlock) (ho : w1.ownsRow base 9 1 x r.length (r.map tsv)) : RR w1 base v (G.set k r) vs := by
  have hs : vs.set k x = vs := by
    obtain ⟨hk, e⟩ := List.getElem?_eq_some_iff.1 hx
    rw [← e, List.set_getElem_self]
  have := rr_set h hx hg ho (.inl rfl) (World.grownBy.refl w1 v.ownBlock) (by rw [hs]; exact own_kept h.1 (h.apart hx).symm hg)
  rwa [hs] at this

end Go.Proofs.Ytcfmpajdhbcimaa
