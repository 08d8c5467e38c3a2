/- What FoldOf leans on: three that may come up; a state beside a row that grows; hashes written in place. -/
import Derived.Test.YtbgjlkbfelgglaaGt0
import Derived.Test.YtbgjlkbfelgglaaRza
import Derived.Test.YtbgjlkbfelgglaaGl
import Derived.Test.YtbgjlkbfelgglaaGi
namespace Go.Proofs.Ytbgjlkbfelgglaa
open Go.RowKit

section
variable {P : Program} {md : Region.Mode} {ops : Array Oper} {Q : Exit → Act → World → Prop} {S : World → Prop}
/-- Any of three may come up. -/
theorem h_three (i j k : Nat) {oi oj ok : Oper} {fuel : Nat} {listed : Array Bool} {a : Act} {w : World} (hi : ops[i]? = some oi) (hj : ops[j]? = some oj) (hk : ops[k]? = some ok)
    (hr : Region.ready md ops listed = [i, j, k]) (hwi : Region.wanted oi (yielded ops a.tmps) = true) (hwj : Region.wanted oj (yielded ops a.tmps) = true) (hwk : Region.wanted ok (yielded ops a.tmps) = true)
    (h1 : ∀ K : Act → World → Prop, (∀ a' w', S w' → wpAnyH P md ops Q S fuel (listed.setIfInBounds i true) a' w' → K a' w') → oi.wp P a w K Q)
    (h2 : ∀ K : Act → World → Prop, (∀ a' w', S w' → wpAnyH P md ops Q S fuel (listed.setIfInBounds j true) a' w' → K a' w') → oj.wp P a w K Q)
    (h3 : ∀ K : Act → World → Prop, (∀ a' w', S w' → wpAnyH P md ops Q S fuel (listed.setIfInBounds k true) a' w' → K a' w') → ok.wp P a w K Q) : wpAnyH P md ops Q S (fuel + 1) listed a w := by
  refine wpAnyH_all hr (by simp) (fun q hq => ?_)
  rcases (by simpa using hq : q = i ∨ q = j ∨ q = k) with rfl | rfl | rfl
  · unfold wpOp
    simp only [hi, hwi, if_true]
    exact .inl (h1 _ fun _ _ h1 h2 => ⟨h1, h2⟩)
  · unfold wpOp
    simp only [hj, hwj, if_true]
    exact .inl (h2 _ fun _ _ h1 h2 => ⟨h1, h2⟩)
  · unfold wpOp
    simp only [hk, hwk, if_true]
    exact .inl (h3 _ fun _ _ h1 h2 => ⟨h1, h2⟩)
end

/-- A state none of whose rows lies in that block. -/
def StAv (w : World) (row : Option Nat) (A : Option Addr) (n c : Nat) (zs : List Rw) : Prop :=
  StateIn w 0 A n c zs ∧ (∀ k, (Value.slice A n c).ownBlock = some k → some k ≠ row) ∧ ∀ z ∈ zs, ∀ k, (Value.slice z.A z.n z.c).ownBlock = some k → some k ≠ row
theorem StAv.after {w : World} {base g : Nat} {A : Option Addr} {n c : Nat} {zs : List Rw} (h : StateIn w base A n c zs) (hg : g < base) : StAv w (some g) A n c zs :=
  ⟨h.less (Nat.zero_le _), fun k e e2 => by have := own_block h.1 k e; injection e2 with e2; omega, fun z hz k e e2 => by have := own_block (h.2.2 z hz).1 k e; injection e2 with e2; omega⟩
theorem StAv.ahead {w : World} {base : Nat} {A : Option Addr} {n c : Nat} {zs : List Rw} (h : StateIn w base A n c zs) (o : Obj) : StAv (w.alloc o) (some w.heap.size) A n c zs :=
  ⟨⟨own_less (World.ownsRow.alloc h.1 o) (Nat.zero_le _), h.2.1, fun z hz => deps_less (deps_alloc (h.2.2 z hz) o) (Nat.zero_le _)⟩, fun k e e2 => by have := own_lt h.1 k e; injection e2 with e2; omega, fun z hz k e e2 => by have := own_lt (h.2.2 z hz).1 k e; injection e2 with e2; omega⟩
theorem StAv.alloc {w : World} {row : Option Nat} {A : Option Addr} {n c : Nat} {zs : List Rw} (h : StAv w row A n c zs) (o : Obj) : StAv (w.alloc o) row A n c zs :=
  ⟨⟨World.ownsRow.alloc h.1.1 o, h.1.2.1, fun z hz => deps_alloc (h.1.2.2 z hz) o⟩, h.2⟩
theorem StAv.below {w w' : World} {row : Option Nat} {A : Option Addr} {n c : Nat} {zs : List Rw} (h : StAv w row A n c zs) (hb : Below w.heap.size w w') : StAv w' row A n c zs :=
  ⟨⟨own_below h.1.1 hb, h.1.2.1, fun z hz => deps_below (h.1.2.2 z hz) hb⟩, h.2⟩
theorem StAv.grown {w w' : World} {row row' : Option Nat} {A : Option Addr} {n c : Nat} {zs : List Rw} (h : StAv w row A n c zs) (hb : w.grownBy w' row) (hr : row' = row ∨ row' = some w.heap.size) : StAv w' row' A n c zs := by
  have hk : ∀ {e : TypeId} {s m : Nat} {v : Value} {xs : List Value}, w.ownsRow 0 e s v m xs → (∀ k, v.ownBlock = some k → some k ≠ row) → w'.ownsRow 0 e s v m xs := fun ho hne =>
    own_heap ho (fun k hk => hb.block k (own_lt ho k hk) (hne k hk))
  have hn : ∀ {e : TypeId} {s m : Nat} {v : Value} {xs : List Value}, w.ownsRow 0 e s v m xs → (∀ k, v.ownBlock = some k → some k ≠ row) → (∀ k, v.ownBlock = some k → some k ≠ row') := fun ho hne k hkk => by
    rcases hr with e1 | e1
    · rw [e1]; exact hne k hkk
    · rw [e1]
      intro e
      injection e with e
      have := own_lt ho k hkk
      omega
  exact ⟨⟨hk h.1.1 h.2.1, h.1.2.1, fun z hz => ⟨hk (h.1.2.2 z hz).1 (h.2.2 z hz), (h.1.2.2 z hz).2⟩⟩, hn h.1.1 h.2.1, fun z hz => hn (h.1.2.2 z hz).1 (h.2.2 z hz)⟩
theorem StAv.recs {w : World} {row : Option Nat} {A : Option Addr} {n c : Nat} {zs : List Rw} (h : StAv w row A n c zs) : Recs w w.heap.size A n zs := state_recs h.1
theorem StateIn.below2 {w w' : World} {base : Nat} {A : Option Addr} {n c : Nat} {zs : List Rw} (h : StateIn w base A n c zs) (hb : Below w.heap.size w w') : StateIn w' base A n c zs :=
  ⟨own_below h.1 hb, h.2.1, fun z hz => deps_below (h.2.2 z hz) hb⟩

/-- A state whose deps may say anything. -/
def MutS (w : World) (base : Nat) (A : Option Addr) (n c : Nat) (zs : List Rw) : Prop :=
  w.ownsRow base 26 7 (.slice A n c) n (rws zs) ∧ ∀ z ∈ zs, ∃ l, Deps w base z.A z.n z.c l
theorem MutS.of {w : World} {base : Nat} {A : Option Addr} {n c : Nat} {zs : List Rw} (h : StateIn w base A n c zs) : MutS w base A n c zs := ⟨h.1, fun z hz => ⟨z.l, h.2.2 z hz⟩⟩
/-- A row's block, and that its cells can be written. -/
theorem own_free {w : World} {base n size g cap : Nat} {e : TypeId} {xs : List Value} (h : w.ownsRow base e size (.slice (some ⟨g, 0, none⟩) n cap) n xs) (i : Nat) : w.frozen? ⟨g, i, none⟩ = false := by
  rcases h.2 with ⟨h2, _⟩ | ⟨g', cap', cur, hv, _, hg, _⟩
  · cases h2
  · have e1 : g = g' := by injection hv with e; injection e with e; injection e
    subst e1
    exact at_frozen hg
theorem dep_set {w : World} {base n c g j : Nat} {A : Option Addr} {l : List Dp} (h : Deps w base A n c l) (z : Int) : ∃ l', Deps (w.setCell ⟨g, j * 3 + 1, none⟩ (.int .u64 z)) base A n c l' := by
  by_cases hb : (Value.slice A n c).ownBlock = some g
  · have h0 := h.1
    rcases h0.2 with ⟨h2, h3⟩ | ⟨g', cap', cur, hv, hbb, hg, hn, hm, hs, hx⟩
    · rw [h2] at hb; simp [Value.ownBlock] at hb
    · obtain ⟨rfl, rfl⟩ : A = some ⟨g', 0, none⟩ ∧ c = cap' := by injection hv with e1 _ e3; exact ⟨e1, e3⟩
      obtain rfl : g' = g := by simpa [Value.ownBlock] using hb
      by_cases hj : j < l.length
      · obtain ⟨d, hd⟩ : ∃ d, l[j]? = some d := ⟨_, List.getElem?_eq_getElem hj⟩
        exact ⟨_, deps_hash h.1 j d hd z, h.2⟩
      · refine ⟨l, ⟨h0.1, .inr ⟨g', c, cur.setIfInBounds (j * 3 + 1) (.int .u64 z), rfl, hbb, set_same hg _ _, hn, hm, by simpa using hs, ?_⟩⟩, h.2⟩
        rw [Array.toList_setIfInBounds, List.take_set_of_le, hx]
        have := h0.1
        rw [dps_len] at this
        omega
  · exact ⟨l, own_heap h.1 (fun k hk => Below.heap_setCell _ _ _ k (fun e => hb (hk.trans (congrArg some e)))), h.2⟩
theorem MutS.set {w : World} {base n c g j : Nat} {A : Option Addr} {zs : List Rw} (h : MutS w base A n c zs) {z0 : Rw} (hz0 : z0 ∈ zs) (hA : z0.A = some ⟨g, 0, none⟩) (z : Int) : MutS (w.setCell ⟨g, j * 3 + 1, none⟩ (.int .u64 z)) base A n c zs := by
  obtain ⟨l0, hl0⟩ := h.2 z0 hz0
  have hap := own_apart h.1 hl0.1 (by decide)
  refine ⟨own_heap h.1 (fun k hk => Below.heap_setCell _ _ _ k (fun e => ?_)), fun y hy => ?_⟩
  · exact hap k hk (by rw [hA]; simp [Value.ownBlock]; exact e.symm)
  · obtain ⟨l, hl⟩ := h.2 y hy
    exact dep_set hl z
theorem own_at {w : World} {base n size cap : Nat} {e : TypeId} {A : Option Addr} {xs : List Value} (h : w.ownsRow base e size (.slice A n cap) n xs) (hn : 0 < n) : ∃ g, A = some ⟨g, 0, none⟩ := by
  rcases h.2 with ⟨_, h2⟩ | ⟨g, cap', cur, hv, _⟩
  · omega
  · exact ⟨g, by injection hv⟩
end Go.Proofs.Ytbgjlkbfelgglaa
