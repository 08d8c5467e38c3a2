/- Texts of one proof, one behind the other. -/
import Derived.Test.YtidkahmjjknkmaaMh3
import Derived.Test.YtidkahmjjknkmaaMh1
import Derived.RegionTactic
import Derived.Maps.AppendAt
import Derived.OneCell

/- The document's Same, and record's: two records that are unlike outside their deps. -/
namespace Go.Proofs.Ytidkahmjjknkmaa
open Go.RowKit

set_option maxRecDepth 100000 in
set_option maxHeartbeats 400000 in
theorem rsn_kind (kind1 kind2 : Int) (target1 target2 : List UInt8) (rule1 rule2 : Int) (out1 out2 : Int) (time1 time2 : Int) (tag1 tag2 : List UInt8) (n1 n2 : Nat) (A B : Option Addr) (c d : Nat) (h : kind1 ≠ kind2) (w : World) :
    Calls Try.prog 17 #[.agg #[.int .i64 kind1, .string (tx target1), .int .u64 rule1, .slice A n1 c, .int .u64 out1, .int .u64 time1, .string (tx tag1)], .agg #[.int .i64 kind2, .string (tx target2), .int .u64 rule2, .slice B n2 d, .int .u64 out2, .int .u64 time2, .string (tx tag2)]] w fun e w' => e = .returned (.bool false) ∧ Below w.heap.size w w' := by
  have HB := Lib.hid (((Below.refl w.heap.size w).alloc (Nat.le_refl _) (.cells #[.int .i64 kind1, .string (tx target1), .int .u64 rule1, .slice A n1 c, .int .u64 out1, .int .u64 time1, .string (tx tag1)] 26)).alloc (by simp) (.cells #[.int .i64 kind2, .string (tx target2), .int .u64 rule2, .slice B n2 d, .int .u64 out2, .int .u64 time2, .string (tx tag2)] 26))
  have hu1 : (kind1 != kind2) = true := by rw [bne_iff_ne]; exact h
  have hu2 : decide (kind1 = kind2) = false := decide_eq_false h
  have hu3 : (kind1 == kind2) = false := by rw [beq_eq_false_iff_ne]; exact h
  clear h
  go_enter Try.func17, Try.ntmps17
  go_wp2
  go_ret
  exact ⟨rfl, HB.out⟩

set_option maxRecDepth 100000 in
set_option maxHeartbeats 400000 in
theorem rsn_target (kind : Int) (target1 target2 : List UInt8) (rule1 rule2 : Int) (out1 out2 : Int) (time1 time2 : Int) (tag1 tag2 : List UInt8) (n1 n2 : Nat) (A B : Option Addr) (c d : Nat) (h : target1 ≠ target2) (w : World) :
    Calls Try.prog 17 #[.agg #[.int .i64 kind, .string (tx target1), .int .u64 rule1, .slice A n1 c, .int .u64 out1, .int .u64 time1, .string (tx tag1)], .agg #[.int .i64 kind, .string (tx target2), .int .u64 rule2, .slice B n2 d, .int .u64 out2, .int .u64 time2, .string (tx tag2)]] w fun e w' => e = .returned (.bool false) ∧ Below w.heap.size w w' := by
  have HB := Lib.hid (((Below.refl w.heap.size w).alloc (Nat.le_refl _) (.cells #[.int .i64 kind, .string (tx target1), .int .u64 rule1, .slice A n1 c, .int .u64 out1, .int .u64 time1, .string (tx tag1)] 26)).alloc (by simp) (.cells #[.int .i64 kind, .string (tx target2), .int .u64 rule2, .slice B n2 d, .int .u64 out2, .int .u64 time2, .string (tx tag2)] 26))
  have hu := tx_unlike h
  clear h
  go_enter Try.func17, Try.ntmps17
  go_wp2
  go_ret
  exact ⟨rfl, HB.out⟩

set_option maxRecDepth 100000 in
set_option maxHeartbeats 400000 in
theorem rsn_rule (kind : Int) (target : List UInt8) (rule1 rule2 : Int) (out1 out2 : Int) (time1 time2 : Int) (tag1 tag2 : List UInt8) (n1 n2 : Nat) (A B : Option Addr) (c d : Nat) (h : rule1 ≠ rule2) (w : World) :
    Calls Try.prog 17 #[.agg #[.int .i64 kind, .string (tx target), .int .u64 rule1, .slice A n1 c, .int .u64 out1, .int .u64 time1, .string (tx tag1)], .agg #[.int .i64 kind, .string (tx target), .int .u64 rule2, .slice B n2 d, .int .u64 out2, .int .u64 time2, .string (tx tag2)]] w fun e w' => e = .returned (.bool false) ∧ Below w.heap.size w w' := by
  have HB := Lib.hid (((Below.refl w.heap.size w).alloc (Nat.le_refl _) (.cells #[.int .i64 kind, .string (tx target), .int .u64 rule1, .slice A n1 c, .int .u64 out1, .int .u64 time1, .string (tx tag1)] 26)).alloc (by simp) (.cells #[.int .i64 kind, .string (tx target), .int .u64 rule2, .slice B n2 d, .int .u64 out2, .int .u64 time2, .string (tx tag2)] 26))
  have hu1 : (rule1 != rule2) = true := by rw [bne_iff_ne]; exact h
  have hu2 : decide (rule1 = rule2) = false := decide_eq_false h
  have hu3 : (rule1 == rule2) = false := by rw [beq_eq_false_iff_ne]; exact h
  have hl1 := tx_like target
  clear h
  go_enter Try.func17, Try.ntmps17
  go_wp2
  go_ret
  exact ⟨rfl, HB.out⟩

set_option maxRecDepth 100000 in
set_option maxHeartbeats 400000 in
theorem rsn_out (kind : Int) (target : List UInt8) (rule : Int) (out1 out2 : Int) (time1 time2 : Int) (tag1 tag2 : List UInt8) (n1 n2 : Nat) (A B : Option Addr) (c d : Nat) (h : out1 ≠ out2) (w : World) :
    Calls Try.prog 17 #[.agg #[.int .i64 kind, .string (tx target), .int .u64 rule, .slice A n1 c, .int .u64 out1, .int .u64 time1, .string (tx tag1)], .agg #[.int .i64 kind, .string (tx target), .int .u64 rule, .slice B n2 d, .int .u64 out2, .int .u64 time2, .string (tx tag2)]] w fun e w' => e = .returned (.bool false) ∧ Below w.heap.size w w' := by
  have HB := Lib.hid (((Below.refl w.heap.size w).alloc (Nat.le_refl _) (.cells #[.int .i64 kind, .string (tx target), .int .u64 rule, .slice A n1 c, .int .u64 out1, .int .u64 time1, .string (tx tag1)] 26)).alloc (by simp) (.cells #[.int .i64 kind, .string (tx target), .int .u64 rule, .slice B n2 d, .int .u64 out2, .int .u64 time2, .string (tx tag2)] 26))
  have hu1 : (out1 != out2) = true := by rw [bne_iff_ne]; exact h
  have hu2 : decide (out1 = out2) = false := decide_eq_false h
  have hu3 : (out1 == out2) = false := by rw [beq_eq_false_iff_ne]; exact h
  have hl1 := tx_like target
  clear h
  go_enter Try.func17, Try.ntmps17
  go_wp2
  go_ret
  exact ⟨rfl, HB.out⟩

set_option maxRecDepth 100000 in
set_option maxHeartbeats 400000 in
theorem rsn_time (kind : Int) (target : List UInt8) (rule : Int) (out : Int) (time1 time2 : Int) (tag1 tag2 : List UInt8) (n1 n2 : Nat) (A B : Option Addr) (c d : Nat) (h : time1 ≠ time2) (w : World) :
    Calls Try.prog 17 #[.agg #[.int .i64 kind, .string (tx target), .int .u64 rule, .slice A n1 c, .int .u64 out, .int .u64 time1, .string (tx tag1)], .agg #[.int .i64 kind, .string (tx target), .int .u64 rule, .slice B n2 d, .int .u64 out, .int .u64 time2, .string (tx tag2)]] w fun e w' => e = .returned (.bool false) ∧ Below w.heap.size w w' := by
  have HB := Lib.hid (((Below.refl w.heap.size w).alloc (Nat.le_refl _) (.cells #[.int .i64 kind, .string (tx target), .int .u64 rule, .slice A n1 c, .int .u64 out, .int .u64 time1, .string (tx tag1)] 26)).alloc (by simp) (.cells #[.int .i64 kind, .string (tx target), .int .u64 rule, .slice B n2 d, .int .u64 out, .int .u64 time2, .string (tx tag2)] 26))
  have hu1 : (time1 != time2) = true := by rw [bne_iff_ne]; exact h
  have hu2 : decide (time1 = time2) = false := decide_eq_false h
  have hu3 : (time1 == time2) = false := by rw [beq_eq_false_iff_ne]; exact h
  have hl1 := tx_like target
  clear h
  go_enter Try.func17, Try.ntmps17
  go_wp2
  go_ret
  exact ⟨rfl, HB.out⟩

set_option maxRecDepth 100000 in
set_option maxHeartbeats 400000 in
theorem rsn_tag (kind : Int) (target : List UInt8) (rule : Int) (out : Int) (time : Int) (tag1 tag2 : List UInt8) (n1 n2 : Nat) (A B : Option Addr) (c d : Nat) (h : tag1 ≠ tag2) (w : World) :
    Calls Try.prog 17 #[.agg #[.int .i64 kind, .string (tx target), .int .u64 rule, .slice A n1 c, .int .u64 out, .int .u64 time, .string (tx tag1)], .agg #[.int .i64 kind, .string (tx target), .int .u64 rule, .slice B n2 d, .int .u64 out, .int .u64 time, .string (tx tag2)]] w fun e w' => e = .returned (.bool false) ∧ Below w.heap.size w w' := by
  have HB := Lib.hid (((Below.refl w.heap.size w).alloc (Nat.le_refl _) (.cells #[.int .i64 kind, .string (tx target), .int .u64 rule, .slice A n1 c, .int .u64 out, .int .u64 time, .string (tx tag1)] 26)).alloc (by simp) (.cells #[.int .i64 kind, .string (tx target), .int .u64 rule, .slice B n2 d, .int .u64 out, .int .u64 time, .string (tx tag2)] 26))
  have hu := tx_unlike h
  have hl1 := tx_like target
  clear h
  go_enter Try.func17, Try.ntmps17
  go_wp2
  go_ret
  exact ⟨rfl, HB.out⟩

set_option maxRecDepth 100000 in
set_option maxHeartbeats 400000 in
theorem rsn_n (kind : Int) (target : List UInt8) (rule : Int) (out : Int) (time : Int) (tag : List UInt8) (n1 n2 : Nat) (A B : Option Addr) (c d : Nat) (h : n1 ≠ n2) (w : World) :
    Calls Try.prog 17 #[.agg #[.int .i64 kind, .string (tx target), .int .u64 rule, .slice A n1 c, .int .u64 out, .int .u64 time, .string (tx tag)], .agg #[.int .i64 kind, .string (tx target), .int .u64 rule, .slice B n2 d, .int .u64 out, .int .u64 time, .string (tx tag)]] w fun e w' => e = .returned (.bool false) ∧ Below w.heap.size w w' := by
  have HB := Lib.hid (((Below.refl w.heap.size w).alloc (Nat.le_refl _) (.cells #[.int .i64 kind, .string (tx target), .int .u64 rule, .slice A n1 c, .int .u64 out, .int .u64 time, .string (tx tag)] 26)).alloc (by simp) (.cells #[.int .i64 kind, .string (tx target), .int .u64 rule, .slice B n2 d, .int .u64 out, .int .u64 time, .string (tx tag)] 26))
  have hu0 : (n1 : Int) ≠ (n2 : Int) := by omega
  have hu1 : ((n1 : Int) != (n2 : Int)) = true := by rw [bne_iff_ne]; exact hu0
  have hu3 : ((n1 : Int) == (n2 : Int)) = false := by rw [beq_eq_false_iff_ne]; exact hu0
  have hl1 := tx_like target
  have hl5 := tx_like tag
  clear h
  go_enter Try.func17, Try.ntmps17
  go_wp2
  go_ret
  exact ⟨rfl, HB.out⟩

end Go.Proofs.Ytidkahmjjknkmaa

/- Deps as they lie in memory. -/
namespace Go.Proofs.Ytidkahmjjknkmaa
open Go.RowKit

theorem dps_len (l : List Dp) : (dps l).length = l.length * 3 := by
  induction l with
  | nil => rfl
  | cons t l ih => simp [dps, Dp.cells] at *; omega
theorem dps_at : ∀ (l : List Dp) (i : Nat) (t : Dp), l[i]? = some t → (dps l)[i * 3]? = some (rsv t.name) ∧ (dps l)[i * 3 + 1]? = some (.int .u64 t.hash) ∧ (dps l)[i * 3 + 2]? = some (.bool t.order)
  | [], i, t, h => by simp at h
  | a :: l, 0, t, h => by
    have : a = t := by simpa using h
    subst this
    exact ⟨rfl, rfl, rfl⟩
  | a :: l, i + 1, t, h => by
    have := dps_at l i t (by simpa using h)
    have e : ∀ j, (dps (a :: l))[(i + 1) * 3 + j]? = (dps l)[i * 3 + j]? := fun j => by
      show (Dp.cells a ++ dps l)[(i + 1) * 3 + j]? = _
      rw [List.getElem?_append_right (by simp [Dp.cells]; omega)]
      congr 1
      simp [Dp.cells]; omega
    exact ⟨(e 0).trans this.1, (e 1).trans this.2.1, (e 2).trans this.2.2⟩

theorem add_one (a : Addr) (k : Nat) : a.add (k + 1) = ⟨(a.add k).block, (a.add k).off + 1, none⟩ := by
  unfold Addr.add
  by_cases h : k = 0
  · subst h; rfl
  · simp [h, Nat.add_assoc]
theorem add_two (a : Addr) (k : Nat) : a.add (k + 2) = ⟨(a.add k).block, (a.add k).off + 2, none⟩ := by
  unfold Addr.add
  by_cases h : k = 0
  · subst h; rfl
  · simp [h, Nat.add_assoc]


end Go.Proofs.Ytidkahmjjknkmaa

/- Rows of structs appended to. -/
namespace Go.Proofs.Ytidkahmjjknkmaa
open Go.RowKit

theorem dps_one (l : List Dp) : ∀ u ∈ dps l, u.oneCell' = true := by
  intro u hu
  obtain ⟨d, _, hd⟩ := List.mem_flatMap.1 hu
  simp only [Dp.cells, rsv, List.mem_cons, List.not_mem_nil, or_false] at hd
  rcases hd with rfl | rfl | rfl <;> rfl

/-- A row of deps in memory of its own. -/
def Deps (w : World) (base : Nat) (A : Option Addr) (n c : Nat) (l : List Dp) : Prop := w.ownsRow base 55 3 (.slice A n c) n (dps l) ∧ (A = none → c = 0)

end Go.Proofs.Ytidkahmjjknkmaa

/- An append at a step of a region that draws its order; a row of structs whose cell is written. -/
namespace Go.Proofs.Ytidkahmjjknkmaa
open Go.RowKit

theorem own_empty3 (w : World) (e : TypeId) : (w.alloc (.cells #[] e)).ownsRow w.heap.size e 3 (.slice (some ⟨w.heap.size, 0, none⟩) 0 0) 0 [] :=
  ⟨by simp, .inr ⟨w.heap.size, 0, #[], rfl, Nat.le_refl _, (by show (w.heap.push _)[w.heap.size]? = _; exact Array.getElem?_push_size), Nat.le_refl _, by unfold maxLen; omega, rfl, rfl⟩⟩

/-- A dep's Hash that is written: the row has deps still. -/
theorem deps_hash {w : World} {base n g c : Nat} {l : List Dp} (h : w.ownsRow base 55 3 (.slice (some ⟨g, 0, none⟩) n c) n (dps l)) (i : Nat) (d : Dp) (hd : l[i]? = some d) (z : Int) :
    (w.setCell ⟨g, i * 3 + 1, none⟩ (.int .u64 z)).ownsRow base 55 3 (.slice (some ⟨g, 0, none⟩) n c) n (dps (l.set i ⟨d.name, z, d.order⟩)) := by
  have hil : i < l.length := (List.getElem?_eq_some_iff.1 hd).1
  have hset : dps (l.set i ⟨d.name, z, d.order⟩) = (dps l).set (i * 3 + 1) (.int .u64 z) := by
    clear h
    induction l generalizing i with
    | nil => simp at hil
    | cons a l ih =>
      cases i with
      | zero =>
        obtain rfl : a = d := by simpa using hd
        rfl
      | succ i =>
        have ih' := ih i (by simpa using hd) (by simpa using hil)
        show Dp.cells a ++ dps (l.set i ⟨d.name, z, d.order⟩) = (Dp.cells a ++ dps l).set ((i + 1) * 3 + 1) (.int .u64 z)
        rw [ih', List.set_append_right _ _ (by simp [Dp.cells]; omega)]
        congr 2
        simp [Dp.cells]; omega
  obtain ⟨h1, ⟨h2, _⟩ | ⟨g', cap, cur, hv, hb, hg, hn, hm, hs, hx⟩⟩ := h
  · cases h2
  · have e1 : g = g' := by injection hv with e; injection e with e; injection e
    have e2 : c = cap := by injection hv
    subst e1 e2
    refine ⟨by rw [dps_len, List.length_set, ← dps_len]; exact h1, .inr ⟨g, c, cur.setIfInBounds (i * 3 + 1) (.int .u64 z), rfl, hb, set_same hg _ _, hn, hm, by simpa using hs, ?_⟩⟩
    rw [hset, ← hx, Array.toList_setIfInBounds]
    rw [List.take_set]

end Go.Proofs.Ytidkahmjjknkmaa

/- A region that draws its order: either of two may come up. -/
namespace Go.Proofs.Ytidkahmjjknkmaa
open Go.RowKit

section
variable {P : Program} {md : Region.Mode} {ops : Array Oper} {Q : Exit → Act → World → Prop} {S : World → Prop}
/-- Either of two may come up. -/
theorem h_either (i j : Nat) {oi oj : Oper} {fuel : Nat} {listed : Array Bool} {a : Act} {w : World} (hi : ops[i]? = some oi) (hj : ops[j]? = some oj)
    (hr : Region.ready md ops listed = [i, j]) (hwi : Region.wanted oi (yielded ops a.tmps) = true) (hwj : Region.wanted oj (yielded ops a.tmps) = true)
    (h1 : ∀ K : Act → World → Prop, (∀ a' w', S w' → wpAnyH P md ops Q S fuel (listed.setIfInBounds i true) a' w' → K a' w') → oi.wp P a w K Q)
    (h2 : ∀ K : Act → World → Prop, (∀ a' w', S w' → wpAnyH P md ops Q S fuel (listed.setIfInBounds j true) a' w' → K a' w') → oj.wp P a w K Q) : wpAnyH P md ops Q S (fuel + 1) listed a w := by
  refine wpAnyH_all hr (by simp) (fun k hk => ?_)
  rcases (by simpa using hk : k = i ∨ k = j) with rfl | rfl
  · unfold wpOp
    simp only [hi, hwi, if_true]
    exact .inl (h1 _ fun _ _ h1 h2 => ⟨h1, h2⟩)
  · unfold wpOp
    simp only [hj, hwj, if_true]
    exact .inl (h2 _ fun _ _ h1 h2 => ⟨h1, h2⟩)
end

end Go.Proofs.Ytidkahmjjknkmaa

/- The writer as it lies; number. -/
namespace Go.Proofs.Ytidkahmjjknkmaa
open Go.RowKit

/-- The writer as it lies in memory; its own blocks are in S. -/
def Wr (w : World) (S : Nat → Prop) (bw : Nat) (ver : Int) (bt : Nat) (out : List UInt8) : Prop :=
  S bw ∧ ∃ va, w.heap[bw]? = some (.cells #[.int .i64 ver, .pointer (some ⟨bt, 0, none⟩), va] 86 (0, 0)) ∧ w.ownsRow 0 5 1 va out.length (out.map bv) ∧ (∀ k, va.ownBlock = some k → S k)

/-- A row of bytes put behind the writer's. -/
theorem wr_step {w w2 w3 : World} {S : Nat → Prop} {bw bt : Nat} {ver : Int} {out xs : List UInt8} {va v' : Value} (hSb : S bw) (hh : w.heap[bw]? = some (.cells #[.int .i64 ver, .pointer (some ⟨bt, 0, none⟩), va] 86 (0, 0))) (hown : w.ownsRow 0 5 1 va out.length (out.map bv)) (hs : ∀ k, va.ownBlock = some k → S k) (hS : ∀ k, w.heap.size ≤ k → S k)
    (hb : Below w.heap.size w w2) (ho : w3.ownsRow 0 5 1 v' (out.length + xs.length) (out.map bv ++ xs.map bv)) (hg : w2.grownBy w3 va.ownBlock) (hv : v'.ownBlock = va.ownBlock ∨ v'.ownBlock = some w2.heap.size) :
    Wr (w3.setCell ⟨bw, 2, none⟩ v') S bw ver bt (out ++ xs) ∧ Turn S w (w3.setCell ⟨bw, 2, none⟩ v') ∧ w3.heap[bw]? = some (.cells #[.int .i64 ver, .pointer (some ⟨bt, 0, none⟩), va] 86 (0, 0)) := by
  have hlt : bw < w.heap.size := by
    rcases Nat.lt_or_ge bw w.heap.size with h | h
    · exact h
    · rw [Array.getElem?_eq_none h] at hh; cases hh
  rw [← List.length_append, ← List.map_append] at ho
  have hne : va.ownBlock ≠ some bw := own_cells hown hh (by decide)
  have h2 := (hb.block bw hlt).trans hh
  have h3 := (hg.block bw (Nat.lt_of_lt_of_le hlt hb.size) (fun h => hne h.symm)).trans h2
  have hne' : v'.ownBlock ≠ some bw := own_cells ho h3 (by decide)
  refine ⟨⟨hSb, v', ?_, ownsRow_setCell_other ho hne' _, fun k hk => ?_⟩, (((Turn.of_below hb).grown hg (fun i hi _ => hs i hi)).setCell _ _ _ hSb), h3⟩
  · exact set_same h3 2 v'
  · rcases hv with h | h
    · exact hs k (h ▸ hk)
    · rw [h] at hk
      obtain rfl : w2.heap.size = k := by simpa using hk
      exact hS _ hb.size

theorem own_lax {w w2 : World} {n : Nat} {v : Value} {xs : List UInt8} (h : w.ownsRow 0 5 1 v n (xs.map bv)) (hb : Below w.heap.size w w2) : w2.ownsRow 0 5 1 v n (xs.map bv) := own_below h hb

set_option maxRecDepth 100000 in
set_option maxHeartbeats 1000000 in
theorem number_w (S : Nat → Prop) (bw bt k : Nat) (ver : Int) (out : List UInt8) (hk : k < top) (hbig : out.length ≤ 1000000000) (w : World) (hS : ∀ k, w.heap.size ≤ k → S k) (h : Wr w S bw ver bt out) :
    Calls Try.prog 72 #[.pointer (some ⟨bw, 0, none⟩), .int .u64 (k : Int)] w fun e w' => e = .returned (.tuple #[]) ∧ Wr w' S bw ver bt (out ++ (vb k)) ∧ Turn S w w' := by
  obtain ⟨i0, ii0, iz0, iz1, iz2⟩ := info_parts info5
  obtain ⟨hSb, va, hh, hown, hs⟩ := h
  have q0 := at_cell (i := 0) hh rfl
  have q2 := at_cell (i := 2) hh rfl
  have HP := Lib.hid (fun W => put_nil k hk W)
  have HVB : Hid ((vb k).length ≤ 10) := vb_len k hk
  have HH := Lib.hid hh
  have HO := Lib.hid hown
  have HBIG := Lib.hid hbig
  have FIN : Hid (∀ {w2 w3 : World} {v' : Value} {xs : List UInt8}, Below w.heap.size w w2 → w3.ownsRow 0 5 1 v' (out.length + xs.length) (out.map bv ++ xs.map bv) → w2.grownBy w3 va.ownBlock → (v'.ownBlock = va.ownBlock ∨ v'.ownBlock = some w2.heap.size) → Wr (w3.setCell ⟨bw, 2, none⟩ v') S bw ver bt (out ++ xs) ∧ Turn S w (w3.setCell ⟨bw, 2, none⟩ v') ∧ w3.heap[bw]? = some (.cells #[.int .i64 ver, .pointer (some ⟨bt, 0, none⟩), va] 86 (0, 0))) := wr_step hSb hh hown hs hS
  have HLT : Hid (bw < w.heap.size) := by
    show _ < _
    rcases Nat.lt_or_ge bw w.heap.size with h | h
    · exact h
    · rw [Array.getElem?_eq_none h] at hh; cases hh
  clear hh hown hbig hs hS hSb
  go_enter Try.func72, Try.ntmps72
  refine wp_region_held (S := fun _ => True) (by kernel_rfl) ?_
  refine h_take 0 (.pointer (some ⟨bw, 0, none⟩)) rfl (by kernel_rfl) (by kernel_rfl) (by kernel_rfl) (fun _ _ _ h => h) (by kernel_rfl) trivial (fun _ _ => by kernel_rfl) ?_
  refine h_take 1 (.pointer (some ⟨bw, 0, none⟩)) rfl (by kernel_rfl) (by kernel_rfl) (by kernel_rfl) (fun _ _ _ h => h) (by kernel_rfl) trivial (fun _ _ => by kernel_rfl) ?_
  refine h_take 2 (.pointer (some ⟨bw, 0, none⟩)) rfl (by kernel_rfl) (by kernel_rfl) (by kernel_rfl) (fun _ _ _ h => h) (by kernel_rfl) trivial (fun _ _ => by kernel_rfl) ?_
  refine h_take 3 (.pointer (some ⟨bw, 2, none⟩)) rfl (by kernel_rfl) (by kernel_rfl) (by kernel_rfl) (fun _ _ _ h => h) (by kernel_rfl) trivial (fun _ _ => by kernel_rfl) ?_
  refine h_take 5 (.int .u64 (k : Int)) rfl (by kernel_rfl) (by kernel_rfl) (by kernel_rfl) (fun _ _ _ h => h) (by kernel_rfl) trivial (fun _ _ => by kernel_rfl) ?_
  refine h_either 4 6 rfl rfl (by kernel_rfl) (by kernel_rfl) (by kernel_rfl) (fun K hK => ?_) (fun K hK => ?_)
  · go_simp
    refine hK _ _ trivial ?_
    clear hK K
    refine h_one 6 rfl (by kernel_rfl) (by kernel_rfl) (fun K hK => ?_)
    go_simp
    refine (HP.out _).mono ?_
    rintro e w2 ⟨v2, rfl, ho2, hb2⟩
    have HB2 : Below w.heap.size w w2 := ((Below.refl _ w).drew).trans hb2
    refine hK _ _ trivial ?_
    clear hK K
    refine h_one 7 rfl (by kernel_rfl) (by kernel_rfl) (fun K hK => ?_)
    obtain ⟨A2, c2, rfl, hc2⟩ := own_slice ho2
    refine wp_append_many (.tmp 8) (.tmp 10) 44 rfl 0 5 i0 _ 1 1 Try.underlying44 ii0 iz0 iz1 iz2 rfl (by decide) va out.length (out.map bv) rfl (own_lax HO.out HB2) A2 (vb k).length c2 w2.heap.size ((vb k).map bv) rfl hc2 (Reads.of_own ho2) (bv_one _) (by have h1 := HBIG.out; have h2 := HVB.out; unfold maxLen; omega) (by have h1 := HBIG.out; have h2 := HVB.out; omega) (by omega) ?_
    intro v3 w3 ho3 hg3 hv3
    obtain ⟨hf1, hf2, hf3⟩ := FIN.out HB2 ho3 hg3 hv3
    obtain ⟨A3, c3, rfl, _⟩ := own_slice ho3
    refine hK _ _ trivial ?_
    clear hK K
    refine h_take 8 (.pointer (some ⟨bw, 0, none⟩)) rfl (by kernel_rfl) (by kernel_rfl) (by kernel_rfl) (fun _ _ _ h => h) (by kernel_rfl) trivial (fun _ _ => by kernel_rfl) ?_
    refine h_take 9 (.pointer (some ⟨bw, 2, none⟩)) rfl (by kernel_rfl) (by kernel_rfl) (by kernel_rfl) (fun _ _ _ h => h) (by kernel_rfl) trivial (fun _ _ => by kernel_rfl) ?_
    refine h_one 10 rfl (by kernel_rfl) (by kernel_rfl) (fun K hK => ?_)
    have p2 := at_cell (i := 2) hf3 rfl
    have z2 := at_frozen (i := 2) hf3
    go_simp
    refine hK _ _ trivial ?_
    refine wpAnyH_done (by kernel_rfl) ?_ _
    go_simp
    go_end0
    exact ⟨rfl, hf1, hf2⟩
  · go_simp
    refine (HP.out _).mono ?_
    rintro e w2 ⟨v2, rfl, ho2, hb2⟩
    have HB2 : Below w.heap.size w w2 := ((Below.refl _ w).drew).trans hb2
    refine hK _ _ trivial ?_
    clear hK K
    refine h_one 4 rfl (by kernel_rfl) (by kernel_rfl) (fun K hK => ?_)
    have r2 := at_cell (i := 2) ((HB2.block bw HLT.out).trans HH.out) rfl
    go_simp
    refine hK _ _ trivial ?_
    clear hK K
    refine h_one 7 rfl (by kernel_rfl) (by kernel_rfl) (fun K hK => ?_)
    obtain ⟨A2, c2, rfl, hc2⟩ := own_slice ho2
    refine wp_append_many (.tmp 8) (.tmp 10) 44 rfl 0 5 i0 _ 1 1 Try.underlying44 ii0 iz0 iz1 iz2 rfl (by decide) va out.length (out.map bv) rfl (own_lax HO.out HB2) A2 (vb k).length c2 w2.heap.size ((vb k).map bv) rfl hc2 (Reads.of_own ho2) (bv_one _) (by have h1 := HBIG.out; have h2 := HVB.out; unfold maxLen; omega) (by have h1 := HBIG.out; have h2 := HVB.out; omega) (by omega) ?_
    intro v3 w3 ho3 hg3 hv3
    obtain ⟨hf1, hf2, hf3⟩ := FIN.out HB2 ho3 hg3 hv3
    obtain ⟨A3, c3, rfl, _⟩ := own_slice ho3
    refine hK _ _ trivial ?_
    clear hK K
    refine h_take 8 (.pointer (some ⟨bw, 0, none⟩)) rfl (by kernel_rfl) (by kernel_rfl) (by kernel_rfl) (fun _ _ _ h => h) (by kernel_rfl) trivial (fun _ _ => by kernel_rfl) ?_
    refine h_take 9 (.pointer (some ⟨bw, 2, none⟩)) rfl (by kernel_rfl) (by kernel_rfl) (by kernel_rfl) (fun _ _ _ h => h) (by kernel_rfl) trivial (fun _ _ => by kernel_rfl) ?_
    refine h_one 10 rfl (by kernel_rfl) (by kernel_rfl) (fun K hK => ?_)
    have p2 := at_cell (i := 2) hf3 rfl
    have z2 := at_frozen (i := 2) hf3
    go_simp
    refine hK _ _ trivial ?_
    refine wpAnyH_done (by kernel_rfl) ?_ _
    go_simp
    go_end0
    exact ⟨rfl, hf1, hf2⟩

set_option maxRecDepth 100000 in
set_option maxHeartbeats 1000000 in
theorem name_one (S : Nat → Prop) (bw bt : Nat) (t : List UInt8) (ver : Int) (hv : ver < 2) (out : List UInt8) (ht : (blob t).length ≤ 10000) (hbig : out.length ≤ 1000000000) (w : World) (hS : ∀ k, w.heap.size ≤ k → S k) (h : Wr w S bw ver bt out) :
    Calls Try.prog 71 #[.pointer (some ⟨bw, 0, none⟩), .string (tx t)] w fun e w' => e = .returned (.tuple #[]) ∧ Wr w' S bw ver bt (out ++ (blob t)) ∧ Turn S w w' := by
  obtain ⟨i0, ii0, iz0, iz1, iz2⟩ := info_parts info5
  obtain ⟨hSb, va, hh, hown, hs⟩ := h
  have q0 := at_cell (i := 0) hh rfl
  have q2 := at_cell (i := 2) hh rfl
  have HP := Lib.hid (fun W => bput_nil t (by omega) W)
  have HVB := Lib.hid ht
  have d1 : decide (ver < 2) = true := decide_eq_true hv
  have HH := Lib.hid hh
  have HO := Lib.hid hown
  have HBIG := Lib.hid hbig
  have FIN : Hid (∀ {w2 w3 : World} {v' : Value} {xs : List UInt8}, Below w.heap.size w w2 → w3.ownsRow 0 5 1 v' (out.length + xs.length) (out.map bv ++ xs.map bv) → w2.grownBy w3 va.ownBlock → (v'.ownBlock = va.ownBlock ∨ v'.ownBlock = some w2.heap.size) → Wr (w3.setCell ⟨bw, 2, none⟩ v') S bw ver bt (out ++ xs) ∧ Turn S w (w3.setCell ⟨bw, 2, none⟩ v') ∧ w3.heap[bw]? = some (.cells #[.int .i64 ver, .pointer (some ⟨bt, 0, none⟩), va] 86 (0, 0))) := wr_step hSb hh hown hs hS
  have HLT : Hid (bw < w.heap.size) := by
    show _ < _
    rcases Nat.lt_or_ge bw w.heap.size with h | h
    · exact h
    · rw [Array.getElem?_eq_none h] at hh; cases hh
  clear hh hown hbig hs hS hSb
  go_enter Try.func71, Try.ntmps71
  go_wp2_with fail
  refine wp_region_held (S := fun _ => True) (by kernel_rfl) ?_
  refine h_take 0 (.pointer (some ⟨bw, 0, none⟩)) rfl (by kernel_rfl) (by kernel_rfl) (by kernel_rfl) (fun _ _ _ h => h) (by kernel_rfl) trivial (fun _ _ => by kernel_rfl) ?_
  refine h_take 1 (.pointer (some ⟨bw, 0, none⟩)) rfl (by kernel_rfl) (by kernel_rfl) (by kernel_rfl) (fun _ _ _ h => h) (by kernel_rfl) trivial (fun _ _ => by kernel_rfl) ?_
  refine h_take 2 (.pointer (some ⟨bw, 0, none⟩)) rfl (by kernel_rfl) (by kernel_rfl) (by kernel_rfl) (fun _ _ _ h => h) (by kernel_rfl) trivial (fun _ _ => by kernel_rfl) ?_
  refine h_take 3 (.pointer (some ⟨bw, 2, none⟩)) rfl (by kernel_rfl) (by kernel_rfl) (by kernel_rfl) (fun _ _ _ h => h) (by kernel_rfl) trivial (fun _ _ => by kernel_rfl) ?_
  refine h_take 5 (.string (tx t)) rfl (by kernel_rfl) (by kernel_rfl) (by kernel_rfl) (fun _ _ _ h => h) (by kernel_rfl) trivial (fun _ _ => by kernel_rfl) ?_
  refine h_either 4 6 rfl rfl (by kernel_rfl) (by kernel_rfl) (by kernel_rfl) (fun K hK => ?_) (fun K hK => ?_)
  · go_simp
    refine hK _ _ trivial ?_
    clear hK K
    refine h_one 6 rfl (by kernel_rfl) (by kernel_rfl) (fun K hK => ?_)
    go_simp
    refine (HP.out _).mono ?_
    rintro e w2 ⟨v2, rfl, ho2, hb2⟩
    have HB2 : Below w.heap.size w w2 := ((Below.refl _ w).drew).trans hb2
    refine hK _ _ trivial ?_
    clear hK K
    refine h_one 7 rfl (by kernel_rfl) (by kernel_rfl) (fun K hK => ?_)
    obtain ⟨A2, c2, rfl, hc2⟩ := own_slice ho2
    refine wp_append_many (.tmp 13) (.tmp 15) 44 rfl 0 5 i0 _ 1 1 Try.underlying44 ii0 iz0 iz1 iz2 rfl (by decide) va out.length (out.map bv) rfl (own_lax HO.out HB2) A2 (blob t).length c2 w2.heap.size ((blob t).map bv) rfl hc2 (Reads.of_own ho2) (bv_one _) (by have h1 := HBIG.out; have h2 := HVB.out; unfold maxLen; omega) (by have h1 := HBIG.out; have h2 := HVB.out; omega) (by omega) ?_
    intro v3 w3 ho3 hg3 hv3
    obtain ⟨hf1, hf2, hf3⟩ := FIN.out HB2 ho3 hg3 hv3
    obtain ⟨A3, c3, rfl, _⟩ := own_slice ho3
    refine hK _ _ trivial ?_
    clear hK K
    refine h_take 8 (.pointer (some ⟨bw, 0, none⟩)) rfl (by kernel_rfl) (by kernel_rfl) (by kernel_rfl) (fun _ _ _ h => h) (by kernel_rfl) trivial (fun _ _ => by kernel_rfl) ?_
    refine h_take 9 (.pointer (some ⟨bw, 2, none⟩)) rfl (by kernel_rfl) (by kernel_rfl) (by kernel_rfl) (fun _ _ _ h => h) (by kernel_rfl) trivial (fun _ _ => by kernel_rfl) ?_
    refine h_one 10 rfl (by kernel_rfl) (by kernel_rfl) (fun K hK => ?_)
    have p2 := at_cell (i := 2) hf3 rfl
    have z2 := at_frozen (i := 2) hf3
    go_simp
    refine hK _ _ trivial ?_
    refine wpAnyH_done (by kernel_rfl) ?_ _
    go_simp
    go_wp2
    refine bodyPost_ret (results_none rfl _ _ _) rfl ?_
    exact ⟨rfl, hf1, hf2⟩
  · go_simp
    refine (HP.out _).mono ?_
    rintro e w2 ⟨v2, rfl, ho2, hb2⟩
    have HB2 : Below w.heap.size w w2 := ((Below.refl _ w).drew).trans hb2
    refine hK _ _ trivial ?_
    clear hK K
    refine h_one 4 rfl (by kernel_rfl) (by kernel_rfl) (fun K hK => ?_)
    have r2 := at_cell (i := 2) ((HB2.block bw HLT.out).trans HH.out) rfl
    go_simp
    refine hK _ _ trivial ?_
    clear hK K
    refine h_one 7 rfl (by kernel_rfl) (by kernel_rfl) (fun K hK => ?_)
    obtain ⟨A2, c2, rfl, hc2⟩ := own_slice ho2
    refine wp_append_many (.tmp 13) (.tmp 15) 44 rfl 0 5 i0 _ 1 1 Try.underlying44 ii0 iz0 iz1 iz2 rfl (by decide) va out.length (out.map bv) rfl (own_lax HO.out HB2) A2 (blob t).length c2 w2.heap.size ((blob t).map bv) rfl hc2 (Reads.of_own ho2) (bv_one _) (by have h1 := HBIG.out; have h2 := HVB.out; unfold maxLen; omega) (by have h1 := HBIG.out; have h2 := HVB.out; omega) (by omega) ?_
    intro v3 w3 ho3 hg3 hv3
    obtain ⟨hf1, hf2, hf3⟩ := FIN.out HB2 ho3 hg3 hv3
    obtain ⟨A3, c3, rfl, _⟩ := own_slice ho3
    refine hK _ _ trivial ?_
    clear hK K
    refine h_take 8 (.pointer (some ⟨bw, 0, none⟩)) rfl (by kernel_rfl) (by kernel_rfl) (by kernel_rfl) (fun _ _ _ h => h) (by kernel_rfl) trivial (fun _ _ => by kernel_rfl) ?_
    refine h_take 9 (.pointer (some ⟨bw, 2, none⟩)) rfl (by kernel_rfl) (by kernel_rfl) (by kernel_rfl) (fun _ _ _ h => h) (by kernel_rfl) trivial (fun _ _ => by kernel_rfl) ?_
    refine h_one 10 rfl (by kernel_rfl) (by kernel_rfl) (fun K hK => ?_)
    have p2 := at_cell (i := 2) hf3 rfl
    have z2 := at_frozen (i := 2) hf3
    go_simp
    refine hK _ _ trivial ?_
    refine wpAnyH_done (by kernel_rfl) ?_ _
    go_simp
    go_wp2
    refine bodyPost_ret (results_none rfl _ _ _) rfl ?_
    exact ⟨rfl, hf1, hf2⟩

end Go.Proofs.Ytidkahmjjknkmaa

/- What a call answers. -/
namespace Go.Proofs.Ytidkahmjjknkmaa
open Go.RowKit

theorem wrap_small {z : Int} (h0 : -9223372036854775808 ≤ z) (h1 : z ≤ 9223372036854775807) : IntKind.i64.wrap z = z := by simp [IntKind.wrap, IntKind.signed, IntKind.bits]; omega

/-- A call answers whether P is so. -/
def Tells (P : Prop) (e : Ending) : Prop := ∃ q : Bool, (q = true ↔ P) ∧ e = .returned (.bool q)
theorem tells_true {P : Prop} (h : P) : Tells P (.returned (.bool true)) := ⟨true, by simp [h], rfl⟩
theorem tells_false {P : Prop} (h : ¬ P) : Tells P (.returned (.bool false)) := ⟨false, by simp [h], rfl⟩
theorem Tells.iff {P Q : Prop} {e : Ending} (h : Tells P e) (hpq : P ↔ Q) : Tells Q e := by
  obtain ⟨q, h1, h2⟩ := h
  exact ⟨q, h1.trans hpq, h2⟩
theorem Tells.yes {P : Prop} {e : Ending} (h : Tells P e) (hp : P) : e = .returned (.bool true) := by
  obtain ⟨q, h1, h2⟩ := h
  rw [h2, h1.2 hp]
theorem Tells.no {P : Prop} {e : Ending} (h : Tells P e) (hp : ¬ P) : e = .returned (.bool false) := by
  obtain ⟨q, h1, h2⟩ := h
  rw [h2, show q = false from by rw [← Bool.not_eq_true, h1]; exact hp]

end Go.Proofs.Ytidkahmjjknkmaa

/- What a call answers; records as cells; how long their texts may be. -/
namespace Go.Proofs.Ytidkahmjjknkmaa
open Go.RowKit

def rcells (r : Rc) (A : Option Addr) (n c : Nat) : Array Value := #[.int .i64 r.kind, .string (tx r.target), .int .u64 r.rule, .slice A n c, .int .u64 r.out, .int .u64 r.time, .string (tx r.tag)]
/-- No text is longer than there can be one. -/
def Fits (r : Rc) (l : List Dp) : Prop := r.target.length ≤ maxLen ∧ r.tag.length ≤ maxLen ∧ ∀ d ∈ l, d.name.length ≤ maxLen
end Go.Proofs.Ytidkahmjjknkmaa

/- Rows of records in memory. -/
namespace Go.Proofs.Ytidkahmjjknkmaa
open Go.RowKit

/-- A record among others: its fields, where its deps lie, and what they are. -/
structure Rw where
  r : Rc
  A : Option Addr
  n : Nat
  c : Nat
  l : List Dp

def Rw.cells (x : Rw) : List Value := [.int .i64 x.r.kind, .string (tx x.r.target), .int .u64 x.r.rule, .slice x.A x.n x.c, .int .u64 x.r.out, .int .u64 x.r.time, .string (tx x.r.tag)]
def rws (xs : List Rw) : List Value := xs.flatMap Rw.cells
/-- What a record says, wherever its deps lie. -/
def Rw.say (x : Rw) : Rc × List Dp := (x.r, x.l)

theorem cells_len (x : Rw) : x.cells.length = 7 := rfl
theorem rws_nil : rws [] = [] := rfl
theorem rws_cons (x : Rw) (xs : List Rw) : rws (x :: xs) = x.cells ++ rws xs := rfl
theorem rws_app (xs ys : List Rw) : rws (xs ++ ys) = rws xs ++ rws ys := List.flatMap_append
theorem rws_len : ∀ xs : List Rw, (rws xs).length = xs.length * 7
  | [] => rfl
  | x :: xs => by rw [rws_cons, List.length_append, rws_len xs, cells_len, List.length_cons]; omega
theorem rws_at : ∀ (xs : List Rw) (i : Nat) (x : Rw), xs[i]? = some x → ∀ k u, x.cells[k]? = some u → (rws xs)[i * 7 + k]? = some u
  | [], i, x, h => by simp at h
  | a :: xs, 0, x, h => fun k u hu => by
    obtain rfl : a = x := by simpa using h
    have hk : k < 7 := (List.getElem?_eq_some_iff.1 hu).1
    rw [rws_cons, List.getElem?_append_left (by rw [cells_len]; omega), Nat.zero_mul, Nat.zero_add]
    exact hu
  | a :: xs, i + 1, x, h => fun k u hu => by
    rw [rws_cons, List.getElem?_append_right (by rw [cells_len]; omega), cells_len, show (i + 1) * 7 + k - 7 = i * 7 + k by omega]
    exact rws_at xs i x (by simpa using h) k u hu
theorem rws_back : ∀ (xs : List Rw) (j : Nat) (u : Value), (rws xs)[j]? = some u → ∃ x, xs[j / 7]? = some x ∧ x.cells[j % 7]? = some u
  | [], j, u, h => by simp [rws] at h
  | a :: xs, j, u, h => by
    rw [rws_cons] at h
    rcases Nat.lt_or_ge j 7 with hlt | hge
    · rw [List.getElem?_append_left (by rw [cells_len]; exact hlt)] at h
      exact ⟨a, by rw [show j / 7 = 0 by omega]; rfl, by rw [show j % 7 = j by omega]; exact h⟩
    · rw [List.getElem?_append_right (by rw [cells_len]; exact hge), cells_len] at h
      obtain ⟨x, h1, h2⟩ := rws_back xs (j - 7) u h
      exact ⟨x, by rw [show j / 7 = (j - 7) / 7 + 1 by omega]; simpa using h1, by rw [show j % 7 = (j - 7) % 7 by omega]; exact h2⟩
theorem rws_one (xs : List Rw) : ∀ u ∈ rws xs, u.oneCell' = true := by
  intro u hu
  obtain ⟨x, _, hx⟩ := List.mem_flatMap.1 hu
  simp only [Rw.cells, List.mem_cons, List.not_mem_nil, or_false] at hx
  rcases hx with rfl | rfl | rfl | rfl | rfl | rfl | rfl <;> rfl

theorem add_plus (a : Addr) (m k : Nat) : a.add (m + (k + 1)) = ⟨(a.add m).block, (a.add m).off + (k + 1), none⟩ := by
  unfold Addr.add
  by_cases h : m = 0
  · subst h; simp
  · simp [h, Nat.add_assoc]

/-- The cells of one record of a row. -/
theorem recs_cells {W : World} {B : Nat} {A : Option Addr} {n : Nat} {xs : List Rw} (h : Reads W B 7 A n (rws xs)) (i : Nat) (x : Rw) (hx : xs[i]? = some x) :
    ∃ ad : Addr, A = some ad ∧ ad.block < B ∧ W.cell? (ad.add (i * 7)) = some (.int .i64 x.r.kind) ∧ W.cell? ⟨(ad.add (i * 7)).block, (ad.add (i * 7)).off + 1, none⟩ = some (.string (tx x.r.target)) ∧ W.cell? ⟨(ad.add (i * 7)).block, (ad.add (i * 7)).off + 2, none⟩ = some (.int .u64 x.r.rule) ∧ W.cell? ⟨(ad.add (i * 7)).block, (ad.add (i * 7)).off + 3, none⟩ = some (.slice x.A x.n x.c) ∧ W.cell? ⟨(ad.add (i * 7)).block, (ad.add (i * 7)).off + 4, none⟩ = some (.int .u64 x.r.out) ∧ W.cell? ⟨(ad.add (i * 7)).block, (ad.add (i * 7)).off + 5, none⟩ = some (.int .u64 x.r.time) ∧ W.cell? ⟨(ad.add (i * 7)).block, (ad.add (i * 7)).off + 6, none⟩ = some (.string (tx x.r.tag)) := by
  have hn : 0 < n := by
    have h1 := h.1
    rw [rws_len] at h1
    have := (List.getElem?_eq_some_iff.1 hx).1
    omega
  obtain ⟨ad, rfl, hb, hc⟩ := h.2 hn
  have hat := fun k u hu => hc _ _ (rws_at xs i x hx k u hu)
  refine ⟨ad, rfl, hb, hat 0 _ rfl, ?_, ?_, ?_, ?_, ?_, ?_⟩
  · rw [← add_plus ad (i * 7) 0]; exact hat 1 _ rfl
  · rw [← add_plus ad (i * 7) 1]; exact hat 2 _ rfl
  · rw [← add_plus ad (i * 7) 2]; exact hat 3 _ rfl
  · rw [← add_plus ad (i * 7) 3]; exact hat 4 _ rfl
  · rw [← add_plus ad (i * 7) 4]; exact hat 5 _ rfl
  · rw [← add_plus ad (i * 7) 5]; exact hat 6 _ rfl

/-- Records that lie in memory, below a bound. -/
def Recs (w : World) (B : Nat) (A : Option Addr) (n : Nat) (xs : List Rw) : Prop :=
  Reads w B 7 A n (rws xs) ∧ ∀ x ∈ xs, Reads w B 3 x.A x.n (dps x.l) ∧ (x.A = none → x.c = 0)

theorem Recs.len {w : World} {B : Nat} {A : Option Addr} {n : Nat} {xs : List Rw} (h : Recs w B A n xs) : xs.length = n := by
  have := h.1.1
  rw [rws_len] at this
  omega
theorem Recs.more {w : World} {B B' : Nat} {A : Option Addr} {n : Nat} {xs : List Rw} (h : Recs w B A n xs) (hB : B ≤ B') : Recs w B' A n xs :=
  ⟨h.1.more hB, fun x hx => ⟨(h.2 x hx).1.more hB, (h.2 x hx).2⟩⟩
theorem Recs.below {w w' : World} {B : Nat} {A : Option Addr} {n : Nat} {xs : List Rw} (h : Recs w B A n xs) (hb : Below B w w') : Recs w' B A n xs :=
  ⟨h.1.below hb, fun x hx => ⟨(h.2 x hx).1.below hb, (h.2 x hx).2⟩⟩
theorem Recs.nil (w : World) (B : Nat) (A : Option Addr) : Recs w B A 0 [] := ⟨⟨by simp [rws], fun h => absurd h (by omega)⟩, by simp⟩

/-- Deps in memory of their own stay where a row of records grows. -/
theorem deps_kept {w w' : World} {base b n c k : Nat} {A : Option Addr} {l : List Dp} {v : Value} {xs : List Value} (hz : Deps w base A n c l) (hv : w.ownsRow b 26 7 v k xs) (hg : w.grownBy w' v.ownBlock) : Deps w' base A n c l :=
  ⟨own_kept hz.1 (own_apart hv hz.1 (by decide)) hg, hz.2⟩
theorem deps_below {w w' : World} {base n c : Nat} {A : Option Addr} {l : List Dp} (h : Deps w base A n c l) (hb : Below w.heap.size w w') : Deps w' base A n c l := ⟨own_below h.1 hb, h.2⟩
theorem deps_alloc {w : World} {base n c : Nat} {A : Option Addr} {l : List Dp} (h : Deps w base A n c l) (o : Obj) : Deps (w.alloc o) base A n c l := ⟨World.ownsRow.alloc h.1 o, h.2⟩
theorem deps_less {w : World} {base base' n c : Nat} {A : Option Addr} {l : List Dp} (h : Deps w base A n c l) (hb : base' ≤ base) : Deps w base' A n c l := ⟨own_less h.1 hb, h.2⟩

/-- An array of one record, just laid. -/
theorem reads_rec (w : World) (x : Rw) : Reads (w.alloc (.cells #[.int .i64 x.r.kind, .string (tx x.r.target), .int .u64 x.r.rule, .slice x.A x.n x.c, .int .u64 x.r.out, .int .u64 x.r.time, .string (tx x.r.tag)] 26)) (w.heap.size + 1) 7 (some ⟨w.heap.size, 0, none⟩) 1 (rws [x]) := by
  have hh := one_new w (.cells #[.int .i64 x.r.kind, .string (tx x.r.target), .int .u64 x.r.rule, .slice x.A x.n x.c, .int .u64 x.r.out, .int .u64 x.r.time, .string (tx x.r.tag)] 26)
  refine ⟨rfl, fun _ => ⟨_, rfl, by show w.heap.size < _; omega, fun j u hu => ?_⟩⟩
  have hj : j < 7 := (List.getElem?_eq_some_iff.1 hu).1
  have h2 := at_cell (i := j) hh (by simpa [rws, Rw.cells] using hu)
  rw [show (⟨w.heap.size, 0, none⟩ : Addr).add j = ⟨w.heap.size, j, none⟩ from by unfold Addr.add; split <;> simp_all]
  exact h2

theorem recs_row (W : World) (ad : Addr) (P : Rw → Prop) : ∀ n : Nat, (∀ i, i < n → ∃ x : Rw, P x ∧ ∀ k u, x.cells[k]? = some u → W.cell? (ad.add (i * 7 + k)) = some u) →
    ∃ xs : List Rw, xs.length = n ∧ (∀ x ∈ xs, P x) ∧ ∀ i x, xs[i]? = some x → ∀ k u, x.cells[k]? = some u → W.cell? (ad.add (i * 7 + k)) = some u
  | 0, _ => ⟨[], rfl, by simp, by simp⟩
  | n + 1, h => by
    obtain ⟨ts, h1, h2, h3⟩ := recs_row W ad P n (fun i hi => h i (by omega))
    obtain ⟨t, g1, g2⟩ := h n (by omega)
    refine ⟨ts ++ [t], by simp [h1], ?_, ?_⟩
    · intro u hu
      rcases List.mem_append.1 hu with hu | hu
      · exact h2 u hu
      · have : u = t := by simpa using hu
        rw [this]; exact g1
    · intro i u hu
      rcases Nat.lt_or_ge i ts.length with hlt | hge
      · rw [List.getElem?_append_left hlt] at hu
        exact h3 i u hu
      · rw [List.getElem?_append_right hge] at hu
        have hi : i = n := by
          rcases Nat.lt_or_ge (i - ts.length) 1 with h4 | h4
          · omega
          · rw [List.getElem?_eq_none (by simpa using h4)] at hu; cases hu
        subst hi
        rw [h1, Nat.sub_self] at hu
        have : t = u := by simpa using hu
        rw [← this]; exact g2

end Go.Proofs.Ytidkahmjjknkmaa
