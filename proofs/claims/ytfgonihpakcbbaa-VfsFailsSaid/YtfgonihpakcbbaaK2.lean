/- More words for memory: what the call owns stays owned; 'append' onto it of whatever reads as a list, nil let in; a slice of bytes that came in. -/
import Derived.Test.YtfgonihpakcbbaaD
import Derived.Test.YtfgonihpakcbbaaS
import Derived.Laws.AppendOwnNone
import Derived.Lib.Hide
namespace Go.Proofs.Ytfgonihpakcbbaa
open Go.ChangeShapes Go.WideShapes Go.ChangeAt Go.RowKit

theorem own_block {w : World} {base n size : Nat} {e : TypeId} {v : Value} {xs : List Value} (h : w.ownsRow base e size v n xs) : ∀ k, v.ownBlock = some k → base ≤ k := by
  intro k hk
  obtain ⟨_, ⟨rfl, _⟩ | ⟨g, cap, cur, rfl, hb, _⟩⟩ := h
  · simp [Value.ownBlock] at hk
  · simp [Value.ownBlock] at hk; omega

theorem own_below {w w' : World} {base n size : Nat} {e : TypeId} {v : Value} {xs : List Value} (h : w.ownsRow base e size v n xs) (hb : Below w.heap.size w w') : w'.ownsRow base e size v n xs := by
  obtain ⟨h1, h2 | ⟨g, cap, cur, hv, hbg, hg, r⟩⟩ := h
  · exact ⟨h1, .inl h2⟩
  · have hlt : g < w.heap.size := by
      rcases Nat.lt_or_ge g w.heap.size with hlt | hge
      · exact hlt
      · rw [Array.getElem?_eq_none hge] at hg; cases hg
    exact ⟨h1, .inr ⟨g, cap, cur, hv, hbg, by rw [hb.block g hlt]; exact hg, r⟩⟩

/-- A slice of no bytes that was just laid. -/
theorem own_empty (w : World) (e : TypeId) : (w.alloc (.cells #[] e)).ownsRow w.heap.size e 1 (.slice (some ⟨w.heap.size, 0, none⟩) 0 0) 0 [] :=
  ⟨rfl, .inr ⟨w.heap.size, 0, #[], rfl, Nat.le_refl _, by show (w.heap.push _)[w.heap.size]? = _; simp, Nat.le_refl _, by unfold maxLen; omega, rfl, rfl⟩⟩

/-- 'append(v, x...)', v the call's own, x whatever reads as a list, nil let in. -/
theorem wpList_append_reads {P : Program} (w : World) {ops : Array Oper} {rest : List Oper} {o : Oper} {a : Act} {Q : Exit → Act → World → Prop} (hgd : o.guard = none) (s x : Operand) (t : TypeId)
    (ho : o.op = .call { callee := .builtin .append, args := #[s, x], argTypes := #[t, t] })
    (base : Nat) (e : TypeId) (i : TypeInfo) (z : Value) (bytes : Nat) (ht : P.underlying t = some (.slice e)) (hi : P.info? e = some i) (hz : i.zero = some z)
    (hsize : i.size = 1) (hby : i.bytes = bytes) (hzs : z.cells.size = 1)
    (v : Value) (n : Nat) (xs : List Value) (hs : a.eval s = v) (hown : w.ownsRow base e 1 v n xs)
    (A : Option Addr) (m c B : Nat) (news : List Value) (hx : a.eval x = .slice A m c) (hA : A = none → c = 0) (hr : Reads w B 1 A m news) (h1 : ∀ u ∈ news, u.oneCell' = true)
    (h63 : n + m ≤ maxLen) (hbytes : (n + m) * bytes ≤ 140737488355328) (hbase : base ≤ w.heap.size)
    (h : ∀ v' w', w'.ownsRow base e 1 v' (n + m) (xs ++ news) → w.grownBy w' v.ownBlock → wpList P ops Q rest (a.put o.dst v') w') : wpList P ops Q (o :: rest) a w := by
  cases A with
  | none =>
    have hm : m = 0 := by
      rcases Nat.eq_zero_or_pos m with h0 | h0
      · exact h0
      · obtain ⟨ad, e, _⟩ := hr.2 h0
        cases e
    subst hm
    have hc := hA rfl
    subst hc
    have hnews : news = [] := List.eq_nil_of_length_eq_zero (by have := hr.1; simpa using this)
    subst hnews
    exact wpList_append_own_none hgd s x t ho base e i 1 ht hi v n xs hs hown hx (h v w (by simpa using hown) (World.grownBy.refl w _))
  | some ad =>
    refine wpList_append_own w hgd s x t ho base e i z 1 bytes ht hi hz hsize hby hzs (by decide) v n xs hs hown ad m c news hx hr.1 ?_ h1 h63 hbytes hbase (fun v' w' a b _ => h v' w' a b)
    intro j u hu
    by_cases h0 : 0 < m
    · obtain ⟨ad', e, _, hc⟩ := hr.2 h0
      cases e
      exact hc j u hu
    · have hl := hr.1
      have := (List.getElem?_eq_some_iff.1 hu).1
      omega

/-- Two values that lie in unlike blocks. -/
def Apart (u v : Value) : Prop := ∀ g, u.ownBlock = some g → v.ownBlock ≠ some g
theorem Apart.symm {u v : Value} (h : Apart u v) : Apart v u := fun g h1 h2 => h g h2 h1

section
variable {w w' : World} {base n m k cap g size : Nat} {e : TypeId} {vb vc : Value} {xs : List Value}
theorem own_lt (h : w.ownsRow base e size vc n xs) : ∀ g, vc.ownBlock = some g → g < w.heap.size := by
  intro g hg
  obtain ⟨_, ⟨rfl, _⟩ | ⟨g', cap, cur, rfl, _, hh, _⟩⟩ := h
  · simp [Value.ownBlock] at hg
  · have e : g' = g := by simpa [Value.ownBlock] using hg
    subst e
    rcases Nat.lt_or_ge g' w.heap.size with hlt | hge
    · exact hlt
    · rw [Array.getElem?_eq_none hge] at hh; cases hh
theorem apart_new (hc : w.ownsRow base e size vc n xs) (h : Apart vb vc) (hg : vb.ownBlock = some g ∨ g = w.heap.size) : Apart (.slice (some ⟨g, 0, none⟩) k cap) vc := by
  intro g' h1 h2
  have e : g = g' := by simpa [Value.ownBlock] using h1
  subst e
  rcases hg with hg | hg
  · exact h g hg h2
  · have := own_lt hc g h2
    omega
theorem own_kept (hc : w.ownsRow base e size vc n xs) (h : Apart vb vc) (hg : w.grownBy w' vb.ownBlock) : w'.ownsRow base e size vc n xs := by
  refine hc.kept hg ?_
  cases hv : vc.ownBlock with
  | none => exact .inl rfl
  | some g => exact .inr (fun h2 => h g h2.symm hv)
theorem apart_nil (v : Value) : Apart (.slice none 0 0) v := fun g h => by simp [Value.ownBlock] at h
end

/-- A slice of bytes that came in; nil has no room. -/
theorem open_bytes2 {H : Type} {enc : TypeId × Value → H} {P : Program} {W : World} {t e : TypeId} {v : Value} {d : DataW H} {ps : List MemPlace} {r : Reach} {b0 : Nat} (ht : P.underlying t = some (.slice e)) (he : P.underlying e = some (.int .u8)) (hc : P.cellsOf e = 1)
    (hval : Value.okWide P W r b0 t v) (hd : DataW.Trod enc P W 0 (fun _ => true) true t v d ps) :
    ∃ (A : Option Addr) (n c : Nat) (bs : List UInt8), v = .slice A n c ∧ n ≤ c ∧ (A = none → c = 0) ∧ Reads W W.heap.size 1 A n (bs.map bv) := by
  obtain ⟨A, n, c, bs, rfl, hl, hr⟩ := open_bytes ht he hc hval hd
  refine ⟨A, n, c, bs, rfl, hl, ?_, hr⟩
  intro hA
  subst hA
  obtain ⟨fuel, hf⟩ := hd
  rcases open_ints ht he hc hf with ⟨hcs, hx⟩ | ⟨ad, len, cap, zs, hcs, _⟩
  · have h0 : Value.slice none n c = .slice none 0 0 := by simpa [Value.cells] using hcs
    cases h0
    rfl
  · simp [Value.cells] at hcs

end Go.Proofs.Ytfgonihpakcbbaa
