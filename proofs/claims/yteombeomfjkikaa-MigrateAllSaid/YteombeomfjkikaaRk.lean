/- Rows of structs appended to; record.Clone. -/
import Derived.Test.YteombeomfjkikaaRj
import Derived.Maps.AppendAt
namespace Go.Proofs.Yteombeomfjkikaa
open Go.RowKit

/-- append, what is appended read as it lies; elements of any size. -/
theorem wpList_append_many {P : Program} (w : World) {ops : Array Oper} {rest : List Oper} {o : Oper} {a : Act} {Q : Exit → Act → World → Prop} (hgd : o.guard = none) (s x : Operand) (t : TypeId)
    (ho : o.op = .call { callee := .builtin .append, args := #[s, x], argTypes := #[t, t] })
    (base : Nat) (e : TypeId) (i : TypeInfo) (z : Value) (size bytes : Nat) (ht : P.underlying t = some (.slice e)) (hi : P.info? e = some i) (hz : i.zero = some z)
    (hsize : i.size = size) (hby : i.bytes = bytes) (hzs : z.cells.size = size) (hsz : 0 < size)
    (v : Value) (n : Nat) (xs : List Value) (hs : a.eval s = v) (hown : w.ownsRow base e size v n xs)
    (A : Option Addr) (m c B : Nat) (news : List Value) (hx : a.eval x = .slice A m c) (hA : A = none → c = 0) (hr : Reads w B size A m news) (h1 : ∀ u ∈ news, u.oneCell' = true)
    (h63 : n + m ≤ maxLen) (hbytes : (n + m) * bytes ≤ 140737488355328) (hbase : base ≤ w.heap.size)
    (h : ∀ v' w', w'.ownsRow base e size v' (n + m) (xs ++ news) → w.grownBy w' v.ownBlock → wpList P ops Q rest (a.put o.dst v') w') : wpList P ops Q (o :: rest) a w := by
  cases A with
  | none =>
    have hm : m = 0 := by
      rcases Nat.eq_zero_or_pos m with h0 | h0
      · exact h0
      · obtain ⟨ad, e, _⟩ := hr.2 h0
        cases e
    subst hm
    have hc := hA rfl
    subst hc
    have hnews : news = [] := List.eq_nil_of_length_eq_zero (by have := hr.1; simpa using this)
    subst hnews
    exact wpList_append_own_none hgd s x t ho base e i size ht hi v n xs hs hown hx (h v w (by simpa using hown) (World.grownBy.refl w _))
  | some ad =>
    refine wpList_append_own w hgd s x t ho base e i z size bytes ht hi hz hsize hby hzs hsz v n xs hs hown ad m c news hx hr.1 ?_ h1 h63 hbytes hbase (fun v' w' a b _ => h v' w' a b)
    intro j u hu
    by_cases h0 : 0 < m
    · obtain ⟨ad', e, _, hc⟩ := hr.2 h0
      cases e
      exact hc j u hu
    · have hl := hr.1
      have := (List.getElem?_eq_some_iff.1 hu).1
      have h00 : m = 0 := by omega
      subst h00
      omega

theorem dps_one (l : List Dp) : ∀ u ∈ dps l, u.oneCell' = true := by
  intro u hu
  obtain ⟨d, _, hd⟩ := List.mem_flatMap.1 hu
  simp only [Dp.cells, rsv, List.mem_cons, List.not_mem_nil, or_false] at hd
  rcases hd with rfl | rfl | rfl <;> rfl

theorem at_frozen {w : World} {b i : Nat} {cs : Array Value} {t : TypeId} (h : w.heap[b]? = some (.cells cs t (0, 0))) : w.frozen? ⟨b, i, none⟩ = false := by
  simp [World.frozen?, h]
theorem set_same {w : World} {b : Nat} {cs : Array Value} {t : TypeId} {f : Nat × Nat} (h : w.heap[b]? = some (.cells cs t f)) (i : Nat) (u : Value) : (w.setCell ⟨b, i, none⟩ u).heap[b]? = some (.cells (cs.setIfInBounds i u) t f) := by
  simp [World.setCell, Array.getElem?_modify, h]
theorem own_less {w : World} {base base' n size : Nat} {e : TypeId} {v : Value} {xs : List Value} (h : w.ownsRow base e size v n xs) (hb : base' ≤ base) : w.ownsRow base' e size v n xs := by
  rcases h.2 with h2 | ⟨g, cap, cur, h3, h4, h5⟩
  · exact ⟨h.1, .inl h2⟩
  · exact ⟨h.1, .inr ⟨g, cap, cur, h3, by omega, h5⟩⟩

/-- A row of deps in memory of its own. -/
def Deps (w : World) (base : Nat) (A : Option Addr) (n c : Nat) (l : List Dp) : Prop := w.ownsRow base 37 3 (.slice A n c) n (dps l) ∧ (A = none → c = 0)

theorem own_slice {w : World} {base n size : Nat} {e : TypeId} {v : Value} {xs : List Value} (h : w.ownsRow base e size v n xs) : ∃ A c, v = .slice A n c ∧ (A = none → c = 0) := by
  obtain ⟨h1, ⟨rfl, rfl⟩ | ⟨g, cap, cur, rfl, hb, hg, hn, hm, hs, hx⟩⟩ := h
  · exact ⟨none, 0, rfl, fun _ => rfl⟩
  · exact ⟨_, _, rfl, fun h => by cases h⟩

set_option maxRecDepth 100000 in
set_option maxHeartbeats 1000000 in
theorem clone_any (r : Rc) (A : Option Addr) (n c : Nat) (l : List Dp) (hA : A = none → c = 0) (hn : n ≤ 1000000) (w : World) (h : Reads w w.heap.size 3 A n (dps l)) :
    Calls Try.prog 28 #[rcv r A n c] w fun e w' => ∃ A' c', e = .returned (rcv r A' n c') ∧ Deps w' w.heap.size A' n c' l ∧ Below w.heap.size w w' := by
  obtain ⟨i0, hi0, hz0, hz1, hz2⟩ := info_parts (show (Try.prog.info? 37).map (fun i => (i.zero, i.size, i.bytes)) = some (some (.agg #[.string { data := #[] }, .int .u64 0, .bool false]), 3, 32) from by kernel_rfl)
  unfold rcv rsv
  obtain ⟨ha0, ha1, hsz⟩ := two_new w (.cells #[.int .i64 r.kind, .string (tx r.target), .int .u64 r.rule, .slice A n c, .int .u64 r.out, .int .u64 r.time, .string (tx r.tag)] 25) (.cells #[.int .i64 0, .string { data := #[] }, .int .u64 0, .slice none 0 0, .int .u64 0, .int .u64 0, .string { data := #[] }] 25)
  have hr := (h.alloc (Nat.le_refl _) (.cells #[.int .i64 r.kind, .string (tx r.target), .int .u64 r.rule, .slice A n c, .int .u64 r.out, .int .u64 r.time, .string (tx r.tag)] 25)).alloc (by simp) (.cells #[.int .i64 0, .string { data := #[] }, .int .u64 0, .slice none 0 0, .int .u64 0, .int .u64 0, .string { data := #[] }] 25)
  have hb := (((Below.refl w.heap.size w).alloc (Nat.le_refl _) (.cells #[.int .i64 r.kind, .string (tx r.target), .int .u64 r.rule, .slice A n c, .int .u64 r.out, .int .u64 r.time, .string (tx r.tag)] 25)).alloc (by simp) (.cells #[.int .i64 0, .string { data := #[] }, .int .u64 0, .slice none 0 0, .int .u64 0, .int .u64 0, .string { data := #[] }] 25))
  have HR := Lib.hid hr
  have HB := Lib.hid hb
  have HA0 := Lib.hid ha0
  have HA1 := Lib.hid ha1
  have HSZ := Lib.hid hsz
  clear h hr hb ha0 ha1 hsz
  go_enter Try.func28, Try.ntmps28
  go_wp2_with (at_builtin; refine wpList_append_many _ rfl (.const (.slice none 0 0)) (.tmp 4) 23 rfl (w.heap.size + 2) 37 i0 _ 3 32 Try.underlying23 hi0 hz0 hz1 hz2 rfl (by decide) (.slice none 0 0) 0 [] rfl (World.ownsRow_nil _ _ _ _) A n c w.heap.size (dps l) rfl hA HR.out (dps_one l) (by unfold maxLen; omega) (by omega) (by rw [HSZ.out]; exact Nat.le_refl _) ?_; intro v1 w1 ho1 hg1; rw [Nat.zero_add, List.nil_append] at ho1; obtain ⟨A1, c1, rfl, hc1⟩ := own_slice ho1; have hh0 := (hg1.block w.heap.size (by rw [HSZ.out]; omega) (by simp [Value.ownBlock])).trans HA0.out; have hh1 := (hg1.block (w.heap.size + 1) (by rw [HSZ.out]; omega) (by simp [Value.ownBlock])).trans HA1.out; have HB1 := Lib.hid (HB.out.grown hg1 (by rw [HSZ.out]; omega) (by simp [Value.ownBlock])); have HO1 := Lib.hid ho1; have q0 := at_cell (i := 0) hh0 rfl; have q1 := at_cell (i := 1) hh0 rfl; have q2 := at_cell (i := 2) hh0 rfl; have q3 := at_cell (i := 3) hh0 rfl; have q4 := at_cell (i := 4) hh0 rfl; have q5 := at_cell (i := 5) hh0 rfl; have q6 := at_cell (i := 6) hh0 rfl; have p0 := at_cell (i := 0) hh1 rfl; have p1 := at_cell (i := 1) hh1 rfl; have p2 := at_cell (i := 2) hh1 rfl; have p3 := at_cell (i := 3) hh1 rfl; have p4 := at_cell (i := 4) hh1 rfl; have p5 := at_cell (i := 5) hh1 rfl; have p6 := at_cell (i := 6) hh1 rfl; have z3 := at_frozen (i := 3) hh0; have y0 := at_frozen (i := 0) hh1; have y1 := at_frozen (i := 1) hh1; have y2 := at_frozen (i := 2) hh1; have y3 := at_frozen (i := 3) hh1; have y4 := at_frozen (i := 4) hh1; have y5 := at_frozen (i := 5) hh1; have y6 := at_frozen (i := 6) hh1; have HH0 := Lib.hid hh0; have HH1 := Lib.hid hh1; clear hh0 hh1 ho1 hg1)
  have hfin := set_same (set_same (set_same (set_same (set_same (set_same (set_same ((Below.heap_setCell w1 ⟨w.heap.size, 3, none⟩ (.slice A1 n c1) (w.heap.size + 1) (by show w.heap.size + 1 ≠ w.heap.size; omega)).trans HH1.out) 0 (.int .i64 r.kind)) 1 (.string (tx r.target))) 2 (.int .u64 r.rule)) 3 (.slice A1 n c1)) 4 (.int .u64 r.out)) 5 (.int .u64 r.time)) 6 (.string (tx r.tag))
  refine bodyPost_ret (results_cell_row rfl _ _ _ _ _ _ _ rfl hfin Try.underlying25 rfl (by kernel_rfl)) rfl ?_
  refine ⟨A1, c1, rfl, ⟨own_less ?_ (show w.heap.size ≤ w.heap.size + 2 by omega), hc1⟩, ?_⟩
  · exact ownsRow_setCell_below (ownsRow_setCell_below (ownsRow_setCell_below (ownsRow_setCell_below (ownsRow_setCell_below (ownsRow_setCell_below (ownsRow_setCell_below (ownsRow_setCell_below HO1.out (show w.heap.size < w.heap.size + 2 by omega) _) (show w.heap.size + 1 < w.heap.size + 2 by omega) _) (show w.heap.size + 1 < w.heap.size + 2 by omega) _) (show w.heap.size + 1 < w.heap.size + 2 by omega) _) (show w.heap.size + 1 < w.heap.size + 2 by omega) _) (show w.heap.size + 1 < w.heap.size + 2 by omega) _) (show w.heap.size + 1 < w.heap.size + 2 by omega) _) (show w.heap.size + 1 < w.heap.size + 2 by omega) _
  · exact (((((((HB1.out.setCell (show w.heap.size ≤ w.heap.size by omega) _).setCell (show w.heap.size ≤ w.heap.size + 1 by omega) _).setCell (show w.heap.size ≤ w.heap.size + 1 by omega) _).setCell (show w.heap.size ≤ w.heap.size + 1 by omega) _).setCell (show w.heap.size ≤ w.heap.size + 1 by omega) _).setCell (show w.heap.size ≤ w.heap.size + 1 by omega) _).setCell (show w.heap.size ≤ w.heap.size + 1 by omega) _).setCell (show w.heap.size ≤ w.heap.size + 1 by omega) _

end Go.Proofs.Yteombeomfjkikaa
