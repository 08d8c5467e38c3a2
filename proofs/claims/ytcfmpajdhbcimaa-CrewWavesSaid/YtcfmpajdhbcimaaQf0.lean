/- Maps whose keys are known; all names, wave by wave; waves read. -/
import Derived.Test.YtcfmpajdhbcimaaXs
import Derived.Test.YtcfmpajdhbcimaaQe0
namespace Go.Proofs.Ytcfmpajdhbcimaa
open Go.RowKit Go.Maps Go.ChangeMaps Go.WideMaps Go.Sort

/-- Values of keys. -/
def keyF (g : List UInt8 → Value) (S : List (List UInt8)) : List UInt8 → Option Value := fun u => if u ∈ S then some (g u) else none
theorem keyF_put (g : List UInt8 → Value) (S : List (List UInt8)) (s : List UInt8) (u : List UInt8) : fput (keyF g S) s (g s) u = keyF g (S ++ [s]) u := by
  unfold fput keyF
  by_cases h : u = s
  · subst h; simp
  · simp [h]
theorem keyF_get {g : List UInt8 → Value} {S : List (List UInt8)} {s : List UInt8} {z : Value} (h : s ∈ S) : (keyF g S s).getD z = g s := by
  unfold keyF
  rw [if_pos h]
  rfl
/-- A map with those keys. -/
def KMap (w : World) (b : Nat) (g : List UInt8 → Value) (S : List (List UInt8)) : Prop := ∃ D : DataW Value, w.ownsMap Try.prog 9 hElem b S.length D ∧ MapF D (keyF g S) ∧ Maps.size D = S.length ∧ S.Nodup
theorem KMap.map {w : World} {b : Nat} {g : List UInt8 → Value} {S : List (List UInt8)} (h : KMap w b g S) : TMap w b S.length (keyF g S) := by
  obtain ⟨D, h1, h2, _⟩ := h
  exact ⟨D, h1, h2⟩
theorem KMap.kept {w w' : World} {b : Nat} {g : List UInt8 → Value} {S : List (List UInt8)} {row : Option Nat} (h : KMap w b g S) (hg : w.grownBy w' row) (hne : some b ≠ row) : KMap w' b g S := by
  obtain ⟨D, h1, h2⟩ := h
  exact ⟨D, h1.kept hg hne, h2⟩
theorem KMap.at_heap {w w' : World} {b : Nat} {g : List UInt8 → Value} {S : List (List UInt8)} (h : KMap w b g S) (hb : w'.heap[b]? = w.heap[b]?) : KMap w' b g S := by
  obtain ⟨D, ⟨es, clock, hq, r⟩, h2⟩ := h
  exact ⟨D, ⟨es, clock, hb.trans hq, r⟩, h2⟩
theorem KMap.lt {w : World} {b : Nat} {g : List UInt8 → Value} {S : List (List UInt8)} (h : KMap w b g S) : b < w.heap.size := h.map.lt
theorem KMap.below {w w' : World} {b : Nat} {g : List UInt8 → Value} {S : List (List UInt8)} (h : KMap w b g S) (hb : Below w.heap.size w w') : KMap w' b g S := h.at_heap (hb.block b h.lt)
theorem kmap_start (w : World) (g : List UInt8 → Value) : KMap (w.alloc (.map #[] 0)) w.heap.size g [] :=
  ⟨.map [], World.ownsMap_made w _ _ _, fun _ _ => rfl, rfl, List.nodup_nil⟩
theorem KMap.heap {w : World} {b : Nat} {g : List UInt8 → Value} {S : List (List UInt8)} (h : KMap w b g S) : ∃ es clock, w.heap[b]? = some (.map es clock) ∧ es.size = S.length := by
  obtain ⟨D, h1, _, h3, _⟩ := h
  have hs := msz_own h1
  obtain ⟨es, clock, hb, _⟩ := h1
  refine ⟨es, clock, hb, ?_⟩
  unfold msz at hs
  rw [hb] at hs
  rw [← h3]
  exact hs
theorem KMap.len {w : World} {b : Nat} {g : List UInt8 → Value} {S : List (List UInt8)} (h : KMap w b g S) {t e : TypeId} (ht : Try.prog.underlying t = some (.map 9 e)) (ty : TypeId) : (Builtin.len_ #[t] ty #[.map (some b)]).run Try.prog w = .ok (.int .i64 (S.length : Int)) w := by
  obtain ⟨D, h1, _, h3, _⟩ := h
  rw [← h3]
  exact h1.len ht ty
/-- 'm[s] = v', of a new key, at the operation. -/
theorem wpList_kput (w : World) {ops : Array Oper} {rest : List Oper} {o : Oper} {a : Act} {Q : Exit → Act → World → Prop}
    (hg : o.guard = none) (m x v : Operand) (t : TypeId) (hop : o.op = Op.mapUpdate t m x v) (e : TypeId) (ht : Try.prog.underlying t = some (.map 9 e)) (b : Nat) (g : List UInt8 → Value) (S : List (List UInt8)) (hm : a.eval m = .map (some b)) (h : KMap w b g S) (hn : S.length < maxLen)
    (s : List UInt8) (hx : a.eval x = .string (tx s)) (hv : a.eval v = g s) (hs : s.length ≤ maxLen) (hne : s ∉ S)
    (hK : ∀ w', KMap w' b g (S ++ [s]) → w.grownBy w' (some b) → wpList Try.prog ops Q rest (a.put o.dst undef) w') :
    wpList Try.prog ops Q (o :: rest) a w := by
  obtain ⟨D, h1, h2, h3, h4⟩ := h
  refine wpList_mapUpdate_own w hg m x v t hop 9 e xkey ht hElem b S.length D hm h1 hn (.string (tx s)) (g s) (.string s) hx hv (xkeyOf hs) (.held (g s)) [] rfl (fun w' q1 q2 => hK w' ⟨_, by simpa using q1, ?_, ?_, ?_⟩ q2)
  · have h5 := h2.put h1.isMap s (g s)
    intro u z
    rw [h5 u z, keyF_put]
  · rw [Maps.size_put (h1.tidy xkey), h2.has, h3]
    simp [keyF, hne]
  · rw [List.nodup_append]
    exact ⟨h4, by simp, fun a ha b hb e => by simp at hb; subst hb; subst e; exact hne ha⟩
theorem wpList_klen (w : World) {ops : Array Oper} {rest : List Oper} {o : Oper} {a : Act} {Q : Exit → Act → World → Prop}
    (hg : o.guard = none) (m : Operand) (t : TypeId) (hop : o.op = Op.call { callee := Callee.builtin Builtin.len, args := #[m], argTypes := #[t] }) (e : TypeId) (ht : Try.prog.underlying t = some (.map 9 e)) (b : Nat) (g : List UInt8 → Value) (S : List (List UInt8)) (hm : a.eval m = .map (some b)) (h : KMap w b g S)
    (hK : wpList Try.prog ops Q rest (a.put o.dst (.int .i64 (S.length : Int))) w) :
    wpList Try.prog ops Q (o :: rest) a w := by
  obtain ⟨D, h1, h2, h3, h4⟩ := h
  rw [← h3] at hK
  exact wpList_len_own w hg m t hop 9 e ht hElem b S.length D hm h1 hK

/-- All names, wave by wave. -/
def flW (l : List Nd) (i : Nat) : List (List UInt8) := ((wavesOf l).take i).flatten
section
variable {l : List Nd} (hc : chk l = 0)
include hc
theorem waves_lev {k : Nat} {r : List (List UInt8)} (h : (wavesOf l)[k]? = some r) : IsWave l k r := by
  have hk : k < wvN l l.length := by rw [← waves_len]; exact (List.getElem?_eq_some_iff.1 h).1
  rw [waves_get hk] at h
  obtain rfl := Option.some.inj h
  exact isWave_all hc k
theorem fl_mem {u : List UInt8} : u ∈ (wavesOf l).flatten ↔ u ∈ l.map Nd.name := by
  rw [List.mem_flatten]
  constructor
  · rintro ⟨r, hr, hu⟩
    obtain ⟨k, hk⟩ := List.getElem?_of_mem hr
    exact (((waves_lev hc hk).2 u).1 hu).1
  · intro hu
    have hin := nmO_all hc hu
    have hlt : lev l u < wvN l l.length := lev_lt (by rw [List.take_of_length_le (by rw [nmO_len hc]; exact Nat.le_refl _)]; exact hin)
    exact ⟨_, List.mem_of_getElem? (waves_get hlt), ((isWave_all hc _).2 u).2 ⟨hu, rfl⟩⟩
theorem fl_nodup : (wavesOf l).flatten.Nodup := by
  unfold List.Nodup
  rw [List.pairwise_flatten]
  refine ⟨fun r hr => ?_, ?_⟩
  · obtain ⟨k, hk⟩ := List.getElem?_of_mem hr
    exact up_nodup (waves_lev hc hk).1
  · rw [List.pairwise_iff_getElem]
    intro i j hi hj hij x hx y hy e
    have h1 := ((waves_lev hc (List.getElem?_eq_getElem hi)).2 x).1 hx
    have h2 := ((waves_lev hc (List.getElem?_eq_getElem hj)).2 y).1 hy
    rw [← e, h1.2] at h2
    omega
theorem fl_len : (wavesOf l).flatten.length = l.length := by
  have hp := (List.perm_ext_iff_of_nodup (fl_nodup hc) (chk_ok.1 hc).2.1).2 (fun u => fl_mem hc)
  have := hp.length_eq
  simpa using this
theorem fl_new {i k : Nat} {r : List (List UInt8)} {s : List UInt8} (hr : (wavesOf l)[i]? = some r) (hs : r[k]? = some s) : s ∉ flW l i ++ r.take k := by
  obtain ⟨hi, e1⟩ := List.getElem?_eq_some_iff.1 hr
  obtain ⟨hk, e2⟩ := List.getElem?_eq_some_iff.1 hs
  have h1 : (wavesOf l).flatten = flW l i ++ r.take k ++ s :: (r.drop (k + 1) ++ ((wavesOf l).drop (i + 1)).flatten) := by
    have h2 : wavesOf l = (wavesOf l).take i ++ r :: (wavesOf l).drop (i + 1) := by rw [← e1, List.getElem_cons_drop, List.take_append_drop]
    have h3 : r = r.take k ++ s :: r.drop (k + 1) := by rw [← e2, List.getElem_cons_drop, List.take_append_drop]
    unfold flW
    conv => lhs; rw [h2]
    rw [List.flatten_append, List.flatten_cons]
    conv => lhs; arg 2; arg 1; rw [h3]
    simp
  have hn := fl_nodup hc
  rw [h1, List.nodup_append] at hn
  intro hin
  exact hn.2.2 s hin s (by simp) rfl
theorem fl_bound (i k : Nat) {r : List (List UInt8)} (hr : (wavesOf l)[i]? = some r) : (flW l i ++ r.take k).length ≤ l.length := by
  obtain ⟨hi, e1⟩ := List.getElem?_eq_some_iff.1 hr
  have h2 : wavesOf l = (wavesOf l).take i ++ r :: (wavesOf l).drop (i + 1) := by rw [← e1, List.getElem_cons_drop, List.take_append_drop]
  have h3 := fl_len hc
  conv at h3 => lhs; rw [h2]
  rw [List.flatten_append, List.flatten_cons] at h3
  simp only [List.length_append, List.length_take] at h3 ⊢
  unfold flW
  omega
end
theorem flW_next {l : List Nd} {i : Nat} {r : List (List UInt8)} (hr : (wavesOf l)[i]? = some r) : flW l i ++ r = flW l (i + 1) := by
  unfold flW
  rw [List.take_add_one, hr]
  simp
theorem flW_all (l : List Nd) : flW l (wvN l l.length) = (wavesOf l).flatten := by
  unfold flW
  rw [List.take_of_length_le (by rw [waves_len]; exact Nat.le_refl _)]

/-- Waves read. -/
def WIn (w : World) (B : Nat) (A : Option Addr) (n : Nat) (G : List (List (List UInt8))) : Prop := ∃ vs : List Value, Reads w B 1 A n vs ∧ G.length = n ∧ ∀ (k : Nat) (r : List (List UInt8)), G[k]? = some r → ∃ A' c', vs[k]? = some (.slice A' r.length c') ∧ Reads w B 1 A' r.length (r.map tsv)
theorem WIn.below {w w' : World} {B : Nat} {A : Option Addr} {n : Nat} {G : List (List (List UInt8))} (h : WIn w B A n G) (hb : Below B w w') : WIn w' B A n G := by
  obtain ⟨vs, h1, h2, h3⟩ := h
  refine ⟨vs, h1.below hb, h2, fun k r hr => ?_⟩
  obtain ⟨A', c', h4, h5⟩ := h3 k r hr
  exact ⟨A', c', h4, h5.below hb⟩
theorem WIn.more {w : World} {B B' : Nat} {A : Option Addr} {n : Nat} {G : List (List (List UInt8))} (h : WIn w B A n G) (hB : B ≤ B') : WIn w B' A n G := by
  obtain ⟨vs, h1, h2, h3⟩ := h
  refine ⟨vs, h1.more hB, h2, fun k r hr => ?_⟩
  obtain ⟨A', c', h4, h5⟩ := h3 k r hr
  exact ⟨A', c', h4, h5.more hB⟩
theorem rr_reads {w : World} {base : Nat} {v : Value} {G : List (List (List UInt8))} {vs : List Value} (h : RR w base v G vs) : ∃ A c, v = .slice A G.length c ∧ WIn w w.heap.size A G.length G := by
  obtain ⟨A, c, rfl, _⟩ := own_slice h.1
  refine ⟨A, c, rfl, vs, Reads.of_own h.1, rfl, fun k r hr => ?_⟩
  obtain ⟨x, hx, ho⟩ := h.row hr
  obtain ⟨A', c', rfl, _⟩ := own_slice ho
  exact ⟨A', c', hx, Reads.of_own ho⟩
/-- One wave, as it lies. -/
theorem WIn.at_ {w : World} {B : Nat} {A : Option Addr} {n : Nat} {G : List (List (List UInt8))} (h : WIn w B A n G) {k : Nat} {r : List (List UInt8)} (hr : G[k]? = some r) : ∃ ad A' c', A = some ad ∧ ad.block < B ∧ w.cell? (ad.add k) = some (.slice A' r.length c') ∧ Reads w B 1 A' r.length (r.map tsv) := by
  obtain ⟨vs, h1, h2, h3⟩ := h
  obtain ⟨A', c', h4, h5⟩ := h3 k r hr
  obtain ⟨ad, sv, rfl, hb, h6, h7⟩ := h1.at_ (by rw [← h2]; exact (List.getElem?_eq_some_iff.1 hr).1)
  rw [h4] at h6
  obtain rfl := Option.some.inj h6
  exact ⟨ad, A', c', rfl, hb, h7, h5⟩
theorem cell_below {w v : World} {B : Nat} {ad : Addr} {k : Nat} {x : Value} (hb : ad.block < B) (hB : Below B w v) (h : w.cell? (ad.add k) = some x) : v.cell? (ad.add k) = some x := by
  have e : (ad.add k).block = ad.block := by unfold Addr.add; split <;> rfl
  unfold World.cell? at h ⊢
  rw [e] at h ⊢
  rw [hB.block _ hb]
  exact h

end Go.Proofs.Ytcfmpajdhbcimaa
