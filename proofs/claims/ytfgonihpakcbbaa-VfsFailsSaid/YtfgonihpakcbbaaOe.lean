/- The files of a map, in memory: put, taken away, kept. -/
import Derived.Test.YtfgonihpakcbbaaOa
namespace Go.Proofs.Ytfgonihpakcbbaa
open Go.RowKit Go.Maps Go.ChangeMaps Go.WideMaps Go.Sort

theorem lt_heapv {W : World} {a : Nat} {o : Obj} (h : W.heap[a]? = some o) : a < W.heap.size := (Array.getElem?_eq_some_iff.1 h).1
/-- A file's value. -/
def fval (A : Option Addr) (n c s : Nat) : Value := .agg #[.slice A n c, .int .i64 (s : Int)]
/-- The files of a map: each has a row of its own. -/
def FilesF (w : World) (base b N : Nat) (fl : List UInt8 → Option Fl) (f : List UInt8 → Option Value) : Prop :=
  TMap w b N f ∧ (∀ u, fl u = none → f u = none) ∧
  (∀ u x, fl u = some x → ∃ A c, f u = some (fval A x.body.length c x.safe) ∧ (A = none → c = 0) ∧ w.ownsRow base 5 1 (.slice A x.body.length c) x.body.length (x.body.map bv)) ∧
  ∀ u u' A n c s A' n' c' s', u ≠ u' → f u = some (fval A n c s) → f u' = some (fval A' n' c' s') → Apart (.slice A n c) (.slice A' n' c')
/-- The blocks of a file system. -/
def FsBlk (p b : Nat) (f : List UInt8 → Option Value) (k : Nat) : Prop := k = p ∨ k = b ∨ ∃ u A n c s, f u = some (fval A n c s) ∧ Value.ownBlock (.slice A n c) = some k
/-- A row isn't a map's block. -/
theorem own_map {w : World} {base n size : Nat} {e : TypeId} {v : Value} {xs : List Value} {b : Nat} {es : Array MapEntry} {ck : Nat} (h : w.ownsRow base e size v n xs) (hb : w.heap[b]? = some (.map es ck)) : v.ownBlock ≠ some b := by
  rcases h.2 with ⟨rfl, _⟩ | ⟨g, cap, cur, rfl, _, hg, _⟩
  · simp [Value.ownBlock]
  · intro e2
    simp only [Value.ownBlock, Option.some.injEq] at e2
    subst e2
    rw [hb] at hg
    cases hg
theorem TMap.heap {w : World} {b N : Nat} {f : List UInt8 → Option Value} (h : TMap w b N f) : ∃ es ck, w.heap[b]? = some (.map es ck) := by
  obtain ⟨D, ⟨es, ck, hb, _⟩, _⟩ := h
  exact ⟨es, ck, hb⟩
theorem FilesF.kept {w w' : World} {base b N : Nat} {fl : List UInt8 → Option Fl} {f : List UInt8 → Option Value} {row : Option Nat} (h : FilesF w base b N fl f) (hg : w.grownBy w' row) (hb : some b ≠ row) (hr : ∀ u A n c s, f u = some (fval A n c s) → Value.ownBlock (.slice A n c) = none ∨ Value.ownBlock (.slice A n c) ≠ row) : FilesF w' base b N fl f := by
  obtain ⟨h1, h2, h3, h4⟩ := h
  refine ⟨h1.kept hg hb, h2, fun u x hx => ?_, h4⟩
  obtain ⟨A, c, e, hA, ho⟩ := h3 u x hx
  exact ⟨A, c, e, hA, ho.kept hg (hr u A _ c _ e)⟩
theorem FilesF.below {w w' : World} {base b N : Nat} {fl : List UInt8 → Option Fl} {f : List UInt8 → Option Value} (h : FilesF w base b N fl f) (hb : Below w.heap.size w w') : FilesF w' base b N fl f := by
  obtain ⟨h1, h2, h3, h4⟩ := h
  refine ⟨h1.below hb, h2, fun u x hx => ?_, h4⟩
  obtain ⟨A, c, e, hA, ho⟩ := h3 u x hx
  exact ⟨A, c, e, hA, own_below ho hb⟩
/-- Nothing of a file system's blocks turns. -/
theorem FilesF.turn {w w' : World} {base b p N : Nat} {fl : List UInt8 → Option Fl} {f : List UInt8 → Option Value} (h : FilesF w base b N fl f) (hb : ∀ k, FsBlk p b f k → w'.heap[k]? = w.heap[k]?) : FilesF w' base b N fl f := by
  obtain ⟨h1, h2, h3, h4⟩ := h
  refine ⟨h1.at_heap (hb b (.inr (.inl rfl))), h2, fun u x hx => ?_, h4⟩
  obtain ⟨A, c, e, hA, ho⟩ := h3 u x hx
  exact ⟨A, c, e, hA, own_heap ho (fun g hg => hb g (.inr (.inr ⟨u, A, _, c, _, e, hg⟩)))⟩
def flput (fl : List UInt8 → Option Fl) (s : List UInt8) (x : Option Fl) : List UInt8 → Option Fl := fun u => if u = s then x else fl u
/-- A file put. -/
theorem files_put {w w1 w2 : World} {base b N : Nat} {fl : List UInt8 → Option Fl} {f : List UInt8 → Option Value} {s : List UInt8} {x : Fl} {A : Option Addr} {c : Nat} (h : FilesF w base b N fl f)
    (hk : ∀ u y A' c', u ≠ s → fl u = some y → f u = some (fval A' y.body.length c' y.safe) → w.ownsRow base 5 1 (.slice A' y.body.length c') y.body.length (y.body.map bv) → w1.ownsRow base 5 1 (.slice A' y.body.length c') y.body.length (y.body.map bv))
    (hA : A = none → c = 0) (ho : w1.ownsRow base 5 1 (.slice A x.body.length c) x.body.length (x.body.map bv))
    (ha : ∀ u A' n' c' s', u ≠ s → f u = some (fval A' n' c' s') → Apart (.slice A x.body.length c) (.slice A' n' c'))
    (hb1 : ∃ es ck, w1.heap[b]? = some (.map es ck)) (hm : TMap w2 b (N + 1) (fput f s (fval A x.body.length c x.safe))) (hg : w1.grownBy w2 (some b)) : FilesF w2 base b (N + 1) (flput fl s (some x)) (fput f s (fval A x.body.length c x.safe)) := by
  obtain ⟨h1, h2, h3, h4⟩ := h
  obtain ⟨es, ck, hbk⟩ := hb1
  refine ⟨hm, fun u hu => ?_, fun u y hy => ?_, fun u u' A1 n1 c1 s1 A2 n2 c2 s2 hne e1 e2 => ?_⟩
  · unfold flput at hu
    unfold fput
    by_cases e : u = s
    · rw [if_pos e] at hu; cases hu
    · rw [if_neg e] at hu ⊢; exact h2 u hu
  · unfold flput at hy
    unfold fput
    by_cases e : u = s
    · rw [if_pos e] at hy ⊢
      obtain rfl := Option.some.inj hy
      exact ⟨A, c, rfl, hA, ho.kept hg (.inr (own_map ho hbk))⟩
    · rw [if_neg e] at hy ⊢
      obtain ⟨A', c', e', hA', ho'⟩ := h3 u y hy
      have h5 := hk u y A' c' e hy e' ho'
      exact ⟨A', c', e', hA', h5.kept hg (.inr (own_map h5 hbk))⟩
  · unfold fput at e1 e2
    by_cases k1 : u = s
    · rw [if_pos k1] at e1
      rw [if_neg (fun k2 => hne (k1.trans k2.symm))] at e2
      have e3 := Option.some.inj e1
      unfold fval at e3
      simp only [Value.agg.injEq, Array.mk.injEq, List.cons.injEq, and_true] at e3
      rw [← e3.1]
      exact ha u' A2 n2 c2 s2 (fun k2 => hne (k1.trans k2.symm)) e2
    · rw [if_neg k1] at e1
      by_cases k2 : u' = s
      · rw [if_pos k2] at e2
        have e3 := Option.some.inj e2
        unfold fval at e3
        simp only [Value.agg.injEq, Array.mk.injEq, List.cons.injEq, and_true] at e3
        rw [← e3.1]
        exact (ha u A1 n1 c1 s1 k1 e1).symm
      · rw [if_neg k2] at e2
        exact h4 u u' A1 n1 c1 s1 A2 n2 c2 s2 hne e1 e2
/-- The blocks of what was put. -/
theorem blk_put {p b k : Nat} {f : List UInt8 → Option Value} {s : List UInt8} {A : Option Addr} {n c q : Nat} (h : FsBlk p b (fput f s (fval A n c q)) k) : FsBlk p b f k ∨ Value.ownBlock (.slice A n c) = some k := by
  rcases h with h | h | ⟨u, A', n', c', s', e, hk⟩
  · exact .inl (.inl h)
  · exact .inl (.inr (.inl h))
  · unfold fput at e
    by_cases k1 : u = s
    · rw [if_pos k1] at e
      have e3 := Option.some.inj e
      unfold fval at e3
      simp only [Value.agg.injEq, Array.mk.injEq, List.cons.injEq, and_true] at e3
      rw [← e3.1] at hk
      exact .inr hk
    · rw [if_neg k1] at e
      exact .inl (.inr (.inr ⟨u, A', n', c', s', e, hk⟩))

theorem files_lt {w : World} {base b N : Nat} {fl : List UInt8 → Option Fl} {f : List UInt8 → Option Value} (h : FilesF w base b N fl f) {u : List UInt8} {A : Option Addr} {n c s : Nat} (e : f u = some (fval A n c s)) : ∀ g, Value.ownBlock (.slice A n c) = some g → g < w.heap.size := fun g hg => by
  obtain ⟨_, h2, h3, _⟩ := h
  cases e2 : fl u with
  | none => rw [h2 u e2] at e; cases e
  | some x =>
    obtain ⟨A', c', e', _, ho⟩ := h3 u x e2
    rw [e'] at e
    have e3 := Option.some.inj e
    unfold fval at e3
    simp only [Value.agg.injEq, Array.mk.injEq, List.cons.injEq, and_true] at e3
    rw [← e3.1] at hg
    exact own_lt ho g hg
/-- 'm[k] = v', as one operation. -/
theorem wp_tput {o : Oper} {a : Act} {w : World} {K : Act → World → Prop} {Q : Exit → Act → World → Prop} (m x v : Operand) (t : TypeId) (hop : o.op = Op.mapUpdate t m x v) (e : TypeId) (ht : Try.prog.underlying t = some (.map 9 e)) (b N : Nat) (f : List UInt8 → Option Value) (hm : a.eval m = .map (some b)) (h : TMap w b N f) (hn : N < maxLen)
    (s : List UInt8) (val : Value) (hx : a.eval x = .string (tx s)) (hv : a.eval v = val) (hs : s.length ≤ maxLen)
    (hK : ∀ w', TMap w' b (N + 1) (fput f s val) → w.grownBy w' (some b) → K (a.put o.dst undef) w') : o.wp Try.prog a w K Q := by
  obtain ⟨D, h1, h2⟩ := h
  obtain ⟨w', hrun, r1, r2⟩ := h1.update xkey ht hn (xkeyOf hs) (val := val) (d := .held val) (ps := []) rfl
  unfold Oper.wp
  simp [execOp, hop, hm, hx, hv, hrun, Result.andThen]
  exact hK w' ⟨_, r1, h2.put h1.isMap s val⟩ r2

end Go.Proofs.Ytfgonihpakcbbaa
