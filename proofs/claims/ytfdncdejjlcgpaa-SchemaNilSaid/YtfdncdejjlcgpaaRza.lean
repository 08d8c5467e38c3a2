/- An append at a step of a region that draws its order; a row of structs whose cell is written. -/
import Derived.Maps.AppendAt
import Derived.OneCell
import Derived.Test.YtfdncdejjlcgpaaRk0
namespace Go.Proofs.Ytfdncdejjlcgpaa
open Go.RowKit

theorem wp_append_many {P : Program} {w : World} {o : Oper} {a : Act} {K : Act → World → Prop} {Q : Exit → Act → World → Prop} (s x : Operand) (t : TypeId)
    (ho : o.op = .call { callee := .builtin .append, args := #[s, x], argTypes := #[t, t] })
    (base : Nat) (e : TypeId) (i : TypeInfo) (z : Value) (size bytes : Nat) (ht : P.underlying t = some (.slice e)) (hi : P.info? e = some i) (hz : i.zero = some z)
    (hsize : i.size = size) (hby : i.bytes = bytes) (hzs : z.cells.size = size) (hsz : 0 < size)
    (v : Value) (n : Nat) (xs : List Value) (hs : a.eval s = v) (hown : w.ownsRow base e size v n xs)
    (A : Option Addr) (m c B : Nat) (news : List Value) (hx : a.eval x = .slice A m c) (hA : A = none → c = 0) (hr : Reads w B size A m news) (h1 : ∀ u ∈ news, u.oneCell' = true)
    (h63 : n + m ≤ maxLen) (hbytes : (n + m) * bytes ≤ 140737488355328) (hbase : base ≤ w.heap.size)
    (h : ∀ v' w', w'.ownsRow base e size v' (n + m) (xs ++ news) → w.grownBy w' v.ownBlock → (v'.ownBlock = v.ownBlock ∨ v'.ownBlock = some w.heap.size) → K (a.put o.dst v') w') : o.wp P a w K Q := by
  cases A with
  | none =>
    have hm : m = 0 := by
      rcases Nat.eq_zero_or_pos m with h0 | h0
      · exact h0
      · obtain ⟨ad, e, _⟩ := hr.2 h0
        cases e
    subst hm
    have hc := hA rfl
    subst hc
    have hnews : news = [] := List.eq_nil_of_length_eq_zero (by have := hr.1; simpa using this)
    subst hnews
    have hrun := run_append_owned_none (P := P) (w := w) base t o.type e i size ht hi v n xs hown
    unfold Oper.wp
    simp [execOp, ho, resolve, invoke, builtin, hs, hx, hrun, Result.andThen]
    exact h v w (by simpa using hown) (World.grownBy.refl w _) (.inl rfl)
  | some ad =>
    obtain ⟨v', w', hr', h2, h3, _, h5⟩ := run_append_own_at (P := P) w base t o.type e i z size bytes ht hi hz hsize hby hzs hsz v n xs hown ad m c news hr.1 (by
      intro j u hu
      by_cases h0 : 0 < m
      · obtain ⟨ad', e, _, hc⟩ := hr.2 h0
        cases e
        exact hc j u hu
      · have hl := hr.1
        have := (List.getElem?_eq_some_iff.1 hu).1
        have h00 : m = 0 := by omega
        subst h00
        omega) h1 h63 hbytes hbase
    unfold Oper.wp execOp
    simp only [ho, resolve, invoke, builtin, Sem.run_bind, Sem.run_pure, Result.andThen_ok, List.map_toArray, List.map_cons, List.map_nil, hs, hx, hr']
    exact h v' w' h2 h3 h5

theorem own_empty3 (w : World) (e : TypeId) : (w.alloc (.cells #[] e)).ownsRow w.heap.size e 3 (.slice (some ⟨w.heap.size, 0, none⟩) 0 0) 0 [] :=
  ⟨by simp, .inr ⟨w.heap.size, 0, #[], rfl, Nat.le_refl _, (by show (w.heap.push _)[w.heap.size]? = _; exact Array.getElem?_push_size), Nat.le_refl _, by unfold maxLen; omega, rfl, rfl⟩⟩

/-- A dep's Hash that is written: the row has deps still. -/
theorem deps_hash {w : World} {base n g c : Nat} {l : List Dp} (h : w.ownsRow base 56 3 (.slice (some ⟨g, 0, none⟩) n c) n (dps l)) (i : Nat) (d : Dp) (hd : l[i]? = some d) (z : Int) :
    (w.setCell ⟨g, i * 3 + 1, none⟩ (.int .u64 z)).ownsRow base 56 3 (.slice (some ⟨g, 0, none⟩) n c) n (dps (l.set i ⟨d.name, z, d.order⟩)) := by
  have hil : i < l.length := (List.getElem?_eq_some_iff.1 hd).1
  have hset : dps (l.set i ⟨d.name, z, d.order⟩) = (dps l).set (i * 3 + 1) (.int .u64 z) := by
    clear h
    induction l generalizing i with
    | nil => simp at hil
    | cons a l ih =>
      cases i with
      | zero =>
        obtain rfl : a = d := by simpa using hd
        rfl
      | succ i =>
        have ih' := ih i (by simpa using hd) (by simpa using hil)
        show Dp.cells a ++ dps (l.set i ⟨d.name, z, d.order⟩) = (Dp.cells a ++ dps l).set ((i + 1) * 3 + 1) (.int .u64 z)
        rw [ih', List.set_append_right _ _ (by simp [Dp.cells]; omega)]
        congr 2
        simp [Dp.cells]; omega
  obtain ⟨h1, ⟨h2, _⟩ | ⟨g', cap, cur, hv, hb, hg, hn, hm, hs, hx⟩⟩ := h
  · cases h2
  · have e1 : g = g' := by injection hv with e; injection e with e; injection e
    have e2 : c = cap := by injection hv
    subst e1 e2
    refine ⟨by rw [dps_len, List.length_set, ← dps_len]; exact h1, .inr ⟨g, c, cur.setIfInBounds (i * 3 + 1) (.int .u64 z), rfl, hb, set_same hg _ _, hn, hm, by simpa using hs, ?_⟩⟩
    rw [hset, ← hx, Array.toList_setIfInBounds]
    rw [List.take_set]

end Go.Proofs.Ytfdncdejjlcgpaa
