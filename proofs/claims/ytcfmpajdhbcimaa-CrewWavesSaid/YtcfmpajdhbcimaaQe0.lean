/- The document's waves: levels by a list's own places; the names of a level, in a list's own order. -/
import Derived.Laws.IdiomMaps
import Derived.WalkKit
import Derived.Test.YtcfmpajdhbcimaaQd0
import Derived.Test.YtcfmpajdhbcimaaXv0
import Derived.Test.YtcfmpajdhbcimaaXk
namespace Go.Proofs.Ytcfmpajdhbcimaa
open Go.RowKit Go.Sort

/-- Levels of nodes whose names stand among the first ones of the order. -/
def dL (l : List Nd) (m : Nat) : List Nat := l.map fun x => if x.name ∈ (nmO l).take m then lev l x.name else 0
theorem dL_len (l : List Nd) (m : Nat) : (dL l m).length = l.length := by simp [dL]
theorem dL_start (l : List Nd) : dL l 0 = List.replicate l.length 0 := by
  unfold dL
  simp [List.map_const']
theorem dL_get {l : List Nd} {m p : Nat} {y : Nd} (h : l[p]? = some y) (hm : y.name ∈ (nmO l).take m) : (dL l m)[p]? = some (lev l y.name) := by
  unfold dL
  rw [List.getElem?_map, h]
  simp [hm]
theorem dL_zero {l : List Nd} {m p : Nat} {y : Nd} (h : l[p]? = some y) (hm : y.name ∉ (nmO l).take m) : (dL l m)[p]? = some 0 := by
  unfold dL
  rw [List.getElem?_map, h]
  simp [hm]
theorem not_yet {P : List (List UInt8)} (hn : P.Nodup) {i : Nat} {a : List UInt8} (h : P[i]? = some a) : a ∉ P.take i := fun hm => by
  obtain ⟨k, hk⟩ := List.getElem?_of_mem hm
  rw [List.getElem?_take] at hk
  by_cases hki : k < i
  · rw [if_pos hki] at hk
    have h1 := idx_at hn hk
    have h2 := idx_at hn h
    omega
  · rw [if_neg hki] at hk; cases hk
theorem same_place {l : List Nd} (hn : (l.map Nd.name).Nodup) {i j : Nat} {x y : Nd} (hx : l[i]? = some x) (hy : l[j]? = some y) (h : x.name = y.name) : i = j := by
  have h1 : (l.map Nd.name)[i]? = some x.name := by rw [List.getElem?_map, hx]; rfl
  have h2 : (l.map Nd.name)[j]? = some x.name := by rw [List.getElem?_map, hy, h]; rfl
  exact (idx_at hn h1).symm.trans (idx_at hn h2)
theorem dL_set {l : List Nd} (hn : (l.map Nd.name).Nodup) {i j : Nat} {x : Nd} (hx : l[j]? = some x) (hnm : (nmO l)[i]? = some x.name) : (dL l i).set j (lev l x.name) = dL l (i + 1) := by
  refine List.ext_getElem? fun k => ?_
  rw [List.getElem?_set, dL_len]
  have htk : (nmO l).take (i + 1) = (nmO l).take i ++ [x.name] := by rw [List.take_add_one, hnm]; rfl
  by_cases e : j = k
  · subst e
    rw [if_pos rfl, if_pos (List.getElem?_eq_some_iff.1 hx).1, dL_get hx (by rw [htk]; simp)]
  · rw [if_neg e]
    unfold dL
    rw [List.getElem?_map, List.getElem?_map]
    cases hk : l[k]? with
    | none => rfl
    | some y =>
      have hne : y.name ≠ x.name := fun e2 => e (same_place hn hx hk e2.symm)
      have hiff : y.name ∈ (nmO l).take (i + 1) ↔ y.name ∈ (nmO l).take i := by rw [htk]; simp [hne]
      simp only [Option.map_some, hiff]
theorem dL_same {l : List Nd} {i j : Nat} {x : Nd} (hx : l[j]? = some x) (hnm : (nmO l)[i]? = some x.name) : (dL l i).set j 0 = dL l i := by
  refine List.ext_getElem? fun k => ?_
  rw [List.getElem?_set, dL_len]
  by_cases e : j = k
  · subst e
    rw [if_pos rfl, if_pos (List.getElem?_eq_some_iff.1 hx).1, dL_zero hx (not_yet (nmO_nodup l) hnm)]
  · rw [if_neg e]
theorem dL_end {l : List Nd} (hc : chk l = 0) : dL l l.length = l.map (fun x => lev l x.name) := by
  unfold dL
  refine List.map_congr_left fun x hx => ?_
  rw [if_pos]
  rw [List.take_of_length_le (by rw [nmO_len hc]; exact Nat.le_refl _)]
  exact nmO_all hc (List.mem_map.2 ⟨x, hx, rfl⟩)
theorem ivs_set (L : List Nat) (j v : Nat) : (ivs L).set j (.int .i64 (v : Int)) = ivs (L.set j v) := by
  unfold ivs
  rw [List.map_set]

/-- The names of a level, in the list's own order. -/
def lF (l : List Nd) (w : Nat) : List (List UInt8) := (l.map Nd.name).filter (fun s => decide (lev l s = w))
def lC (l : List Nd) (w i : Nat) : Nat := (((l.map Nd.name).take i).filter (fun s => decide (lev l s = w))).length
theorem lC_zero (l : List Nd) (w : Nat) : lC l w 0 = 0 := by simp [lC]
theorem lC_skip {l : List Nd} {w i : Nat} {x : Nd} (hx : l[i]? = some x) (h : lev l x.name ≠ w) : lC l w (i + 1) = lC l w i := by
  have h1 : (l.map Nd.name)[i]? = some x.name := by rw [List.getElem?_map, hx]; rfl
  unfold lC
  rw [List.take_add_one, h1, List.filter_append]
  simp [h]
theorem lC_step {l : List Nd} {w i : Nat} {x : Nd} (hx : l[i]? = some x) (h : lev l x.name = w) : lC l w (i + 1) = lC l w i + 1 ∧ (lF l w)[lC l w i]? = some x.name := by
  have h1 : (l.map Nd.name)[i]? = some x.name := by rw [List.getElem?_map, hx]; rfl
  refine ⟨?_, ?_⟩
  · unfold lC
    rw [List.take_add_one, h1, List.filter_append]
    simp [h]
  · have hs : l.map Nd.name = (l.map Nd.name).take i ++ x.name :: (l.map Nd.name).drop (i + 1) := by
      obtain ⟨hi, e⟩ := List.getElem?_eq_some_iff.1 h1
      rw [← e, List.getElem_cons_drop, List.take_append_drop]
    unfold lF lC
    conv => lhs; arg 1; rw [hs]
    rw [List.filter_append, List.getElem?_append_right (Nat.le_refl _), Nat.sub_self]
    simp [h]
theorem lC_end (l : List Nd) (w : Nat) : lC l w l.length = (lF l w).length := by
  unfold lC lF
  rw [List.take_of_length_le (by rw [List.length_map]; exact Nat.le_refl _)]
theorem lC_le (l : List Nd) (w i : Nat) : lC l w i ≤ i := by
  unfold lC
  exact Nat.le_trans (List.length_filter_le _ _) (by rw [List.length_take]; omega)
theorem lF_nodup {l : List Nd} (hn : (l.map Nd.name).Nodup) (w : Nat) : (lF l w).Nodup := hn.sublist List.filter_sublist
theorem lF_mem {l : List Nd} {w : Nat} {u : List UInt8} : u ∈ lF l w ↔ u ∈ l.map Nd.name ∧ lev l u = w := by
  unfold lF
  rw [List.mem_filter, decide_eq_true_eq]
/-- What is sorted at the end is the wave. -/
theorem wave_done {l : List Nd} (hc : chk l = 0) {w : Nat} {S : List (List UInt8)} (h : SInv (lF l w) (lC l w l.length) S) : S = srt (wv l l.length w) := by
  refine isWave_one ⟨h.1, fun u => ?_⟩ (isWave_all hc w)
  rw [h.2.2 u, lC_end, List.take_length]
  exact lF_mem
theorem wave_none {l : List Nd} {w : Nat} (h : wvN l l.length ≤ w) : srt (wv l l.length w) = [] := by rw [wv_over h]; simp [srt]
theorem waves_take {l : List Nd} {w : Nat} (h : w < wvN l l.length) : (wavesOf l).take w ++ [srt (wv l l.length w)] = (wavesOf l).take (w + 1) := by
  rw [List.take_add_one, waves_get h]
  rfl

/-- A number stored into a row of one's own. -/
theorem wp_store_intcell {o : Oper} {a : Act} {w : World} {K : Act → World → Prop} {Q : Exit → Act → World → Prop} (x y : Operand) (ho : o.op = .store 3 x y)
    (g i : Nat) (v : Int) (hx : a.eval x = .pointer (some ⟨g, i, none⟩)) (hy : a.eval y = .int .i64 v)
    (base n cap : Nat) (ys : List Value) (hown : w.ownsRow base 3 1 (.slice (some ⟨g, 0, none⟩) n cap) n ys) (hi : i < n)
    (h : ∀ w', w'.ownsRow base 3 1 (.slice (some ⟨g, 0, none⟩) n cap) n (ys.set i (.int .i64 v)) → w.grownBy w' (some g) → K (a.put o.dst undef) w') : o.wp Try.prog a w K Q := by
  obtain ⟨h1, h2⟩ := hown.stored i (.int .i64 v)
  have hl := hown.1
  have hcell : w.cell? ⟨g, i, none⟩ = ys[i]? := hown.cellAt i (by omega)
  have hfr : w.frozen? ⟨g, i, none⟩ = false := hown.frozenAt i
  have hsome : ys[i]? = some ys[i] := List.getElem?_eq_getElem (by omega)
  rw [hsome] at hcell
  unfold Oper.wp execOp
  simp only [ho, hx, hy]
  go_simp
  exact h _ h1 h2
theorem info_intq : (Try.prog.info? 3).map (fun i => (i.zero, i.size, i.bytes)) = some (some (.int .i64 0), 1, 8) := by kernel_rfl
theorem own_emptyr (w : World) : (w.alloc (.cells #[] 33)).ownsRow w.heap.size 33 1 (.slice (some ⟨w.heap.size, 0, none⟩) 0 0) 0 [] := own_empty w 33

end Go.Proofs.Ytcfmpajdhbcimaa
