/- The walks of the document's cursor: a number, a text. -/
import Derived.Test.YtkpgnpiofhgcpaaJf
import Derived.Test.YtkpgnpiofhgcpaaBe
namespace Go.Proofs.Ytkpgnpiofhgcpaa
open Go.RowKit

theorem set3 {w : World} {g : Nat} {t : TypeId} {x y z : Value} (h : w.heap[g]? = some (.cells #[x, y, z] t (0, 0))) (a b c : Value) :
    (((w.setCell ⟨g, 0, none⟩ a).setCell ⟨g, 1, none⟩ b).setCell ⟨g, 2, none⟩ c).heap[g]? = some (.cells #[a, b, c] t (0, 0)) :=
  heap_setCell_same _ _ 2 _ _ _ (heap_setCell_same _ _ 1 _ _ _ (heap_setCell_same _ _ 0 _ _ _ h))

theorem results_tmp_cell_row {P : Program} {fn : Func} {u p : Tmp} {ty : TypeId} (h : fn.results = #[.tmp u, .cell p ty]) (tmps : Array Value) (w : World) (g : Nat) (t : TypeId) (cs : Array Value) (fr : Nat × Nat) (d : TypeDesc)
    (hp : tmps.getD p undef = .pointer (some ⟨g, 0, none⟩)) (hg : w.heap[g]? = some (.cells cs t fr))
    (hu : P.underlying ty = some d) (hd : (match d with | .struct _ | .array _ _ => true | _ => false) = true) (hi : (P.info? ty).map (·.size) = some cs.size) :
    (results fn tmps).run P w = .ok (.tuple #[tmps.getD u undef, .agg cs]) w := by
  have hp' : tmps[p]?.getD undef = .pointer (some ⟨g, 0, none⟩) := by simpa using hp
  simp [results, h, hp', asAddr, run_loadVar_row w g t ty cs fr d hg hu hd hi]

set_option maxRecDepth 100000 in
set_option maxHeartbeats 800000 in
theorem refnum_any (c : Cu) (hok : c.ok) (hrm : c.bs.length ≤ 1000000) (w : World) :
    Calls Try.prog 24 #[cuv c] w fun e w' => e = .returned (.tuple #[Value.int .u64 ((c.num.1 : Nat) : Int), cuv c.num.2]) ∧ Below w.heap.size w w' := by
  have hg : ∀ W, Calls Try.prog 41 #[.string (tx c.bs), .int .i64 (c.at_ : Int)] W fun e w' => e = .returned (.tuple #[Value.int .u64 ((c.nuR.1 : Nat) : Int), .int .i64 (c.nuR.2.1 : Int), .int .i64 (c.nuR.2.2 : Int)]) ∧ W = w' :=
    fun W => refget_on c.at_ c.bs (by omega) hok W
  by_cases h0 : c.e = 0
  · by_cases h1 : c.nuR.2.2 = 0
    · have e1 : c.num.1 = c.nuR.1 := by simp only [Cu.num, Cu.tk, h0, h1, if_true]
      have e2 : c.num.2 = { c with at_ := c.nuR.2.1 } := by simp only [Cu.num, Cu.tk, h0, h1, if_true]
      rw [e1, e2]
      rw [h1] at hg
      unfold cuv
      simp only [h0]
      generalize (c.nuR.2.1 : Int) = y at *
      generalize Value.int .u64 ((c.nuR.1 : Nat) : Int) = v at *
      generalize tx c.bs = s at *
      generalize (c.at_ : Int) = x at *
      have HG := Lib.hid hg
      clear e1 e2 h0 h1 hg hok hrm
      go_enter Try.func24, Try.ntmps24
      go_wp2_with fail
      refine (HG.out _).mono ?_
      rintro e w1 ⟨rfl, rfl⟩
      go_wp2
      go_region
      all_goals (try go_wp2)
      go_returns
      exact ⟨rfl, (((Below.refl _ w).alloc (Nat.le_refl _) _).alloc (by simp) _).drew⟩
    · have e1 : c.num.1 = 0 := by simp only [Cu.num, Cu.tk, h0, if_true, if_neg h1]
      have e2 : c.num.2 = c.fail (c.nuR.2.2 : Int) := by simp only [Cu.num, Cu.tk, Cu.fail, h0, if_true, if_neg h1]
      rw [e1, e2]
      have hf := fun W => reffail_any c (c.nuR.2.2 : Int) W
      generalize c.fail (c.nuR.2.2 : Int) = c9 at *
      obtain ⟨u1, u2, u3, hu⟩ : ∃ u1 u2 u3, cuv c9 = .agg #[.string u1, .int .i64 u2, .int .i64 u3] := ⟨_, _, _, rfl⟩
      rw [hu] at hf ⊢
      unfold cuv at *
      rw [h0] at *
      have hne : ¬ ((c.nuR.2.2 : Int) = 0) := by omega
      generalize (c.nuR.2.1 : Int) = y at *
      generalize (c.nuR.2.2 : Int) = z at *
      generalize Value.int .u64 ((c.nuR.1 : Nat) : Int) = v at *
      generalize tx c.bs = s at *
      generalize (c.at_ : Int) = x at *
      have HG := Lib.hid hg
      have HF := Lib.hid hf
      clear e1 e2 h0 h1 hg hf hu hok hrm
      go_enter Try.func24, Try.ntmps24
      go_wp2_with fail
      refine (HG.out _).mono ?_
      rintro e w1 ⟨rfl, rfl⟩
      go_wp2_with fail
      refine (HF.out _).mono ?_
      rintro e w1 ⟨rfl, hb1⟩
      have hblk : w1.heap[w.heap.size + 1]? = some (.cells #[.string ⟨#[]⟩, .int .i64 0, .int .i64 0] 28 (0, 0)) := by
        rw [hb1.block (w.heap.size + 1) (by simp)]
        exact heap_alloc2_new w _ _
      have hbw : Below w.heap.size w w1 := (((Below.refl _ w).alloc (Nat.le_refl _) _).alloc (by simp) _).trans (hb1.mono (by simp; omega))
      have g0 := field_cell (i := 0) (u := .string ⟨#[]⟩) hblk rfl
      have g1 := field_cell (i := 1) (u := .int .i64 0) hblk rfl
      have g2 := field_cell (i := 2) (u := .int .i64 0) hblk rfl
      have y0 := field_free (i := 0) hblk
      have y1 := field_free (i := 1) hblk
      have y2 := field_free (i := 2) hblk
      have HBLK := Lib.hid hblk
      clear hb1 hblk
      go_wp2
      (try simp only [Exit.inBlock, Exit.then])
      refine bodyPost_ret (results_tmp_cell_row Try.results24 _ _ (w.heap.size + 1) _ _ (0, 0) _ rfl (set3 HBLK.out _ _ _) Try.underlying28 rfl (by kernel_rfl)) rfl ?_
      exact ⟨rfl, ((hbw.setCell (p := ⟨w.heap.size + 1, 0, none⟩) (by simp) _).setCell (p := ⟨w.heap.size + 1, 1, none⟩) (by simp) _).setCell (p := ⟨w.heap.size + 1, 2, none⟩) (by simp) _⟩
  · have e1 : c.num = (0, c) := Cu.tk_e h0
    rw [e1]
    unfold cuv
    generalize tx c.bs = s at *
    generalize (c.at_ : Int) = x at *
    generalize c.e = z at *
    clear e1 hg hok hrm
    go_enter Try.func24, Try.ntmps24
    go_wp2
    go_region
    all_goals (try go_wp2)
    go_returns
    exact ⟨rfl, (((Below.refl _ w).alloc (Nat.le_refl _) _).alloc (by simp) _).drew⟩

set_option maxRecDepth 100000 in
set_option maxHeartbeats 800000 in
theorem reftext_any (c : Cu) (hok : c.ok) (hrm : c.bs.length ≤ 1000000) (most : Int) (hm : most < 9223372036854775808) (w : World) :
    Calls Try.prog 25 #[cuv c, .int .i64 most] w fun e w' => e = .returned (.tuple #[Value.string (tx ((c.text most).1)), cuv (c.text most).2]) ∧ Below w.heap.size w w' := by
  have hg : ∀ W, Calls Try.prog 42 #[.string (tx c.bs), .int .i64 (c.at_ : Int), .int .i64 most] W fun e w' => e = .returned (.tuple #[Value.string (tx ((c.txR most).1)), .int .i64 ((c.txR most).2.1 : Int), .int .i64 ((c.txR most).2.2 : Int)]) ∧ W = w' :=
    fun W => rbget_any c.at_ most c.bs (by omega) hm hok W
  by_cases h0 : c.e = 0
  · by_cases h1 : (c.txR most).2.2 = 0
    · have e1 : (c.text most).1 = (c.txR most).1 := by simp only [Cu.text, Cu.tk, h0, h1, if_true]
      have e2 : (c.text most).2 = { c with at_ := (c.txR most).2.1 } := by simp only [Cu.text, Cu.tk, h0, h1, if_true]
      rw [e1, e2]
      rw [h1] at hg
      unfold cuv
      simp only [h0]
      generalize ((c.txR most).2.1 : Int) = y at *
      generalize Value.string (tx ((c.txR most).1)) = v at *
      generalize tx c.bs = s at *
      generalize (c.at_ : Int) = x at *
      have HG := Lib.hid hg
      clear e1 e2 h0 h1 hg hok hrm hm
      go_enter Try.func25, Try.ntmps25
      go_wp2_with fail
      refine (HG.out _).mono ?_
      rintro e w1 ⟨rfl, rfl⟩
      go_wp2
      go_region
      all_goals (try go_wp2)
      go_returns
      exact ⟨rfl, (((Below.refl _ w).alloc (Nat.le_refl _) _).alloc (by simp) _).drew⟩
    · have e1 : (c.text most).1 = [] := by simp only [Cu.text, Cu.tk, h0, if_true, if_neg h1]
      have e2 : (c.text most).2 = c.fail ((c.txR most).2.2 : Int) := by simp only [Cu.text, Cu.tk, Cu.fail, h0, if_true, if_neg h1]
      rw [e1, e2]
      have hf := fun W => reffail_any c ((c.txR most).2.2 : Int) W
      generalize c.fail ((c.txR most).2.2 : Int) = c9 at *
      obtain ⟨u1, u2, u3, hu⟩ : ∃ u1 u2 u3, cuv c9 = .agg #[.string u1, .int .i64 u2, .int .i64 u3] := ⟨_, _, _, rfl⟩
      rw [hu] at hf ⊢
      unfold cuv at *
      rw [h0] at *
      have hne : ¬ (((c.txR most).2.2 : Int) = 0) := by omega
      generalize ((c.txR most).2.1 : Int) = y at *
      generalize ((c.txR most).2.2 : Int) = z at *
      generalize Value.string (tx ((c.txR most).1)) = v at *
      generalize tx c.bs = s at *
      generalize (c.at_ : Int) = x at *
      have HG := Lib.hid hg
      have HF := Lib.hid hf
      clear e1 e2 h0 h1 hg hf hu hok hrm hm
      go_enter Try.func25, Try.ntmps25
      go_wp2_with fail
      refine (HG.out _).mono ?_
      rintro e w1 ⟨rfl, rfl⟩
      go_wp2_with fail
      refine (HF.out _).mono ?_
      rintro e w1 ⟨rfl, hb1⟩
      have hblk : w1.heap[w.heap.size + 1]? = some (.cells #[.string ⟨#[]⟩, .int .i64 0, .int .i64 0] 28 (0, 0)) := by
        rw [hb1.block (w.heap.size + 1) (by simp)]
        exact heap_alloc2_new w _ _
      have hbw : Below w.heap.size w w1 := (((Below.refl _ w).alloc (Nat.le_refl _) _).alloc (by simp) _).trans (hb1.mono (by simp; omega))
      have g0 := field_cell (i := 0) (u := .string ⟨#[]⟩) hblk rfl
      have g1 := field_cell (i := 1) (u := .int .i64 0) hblk rfl
      have g2 := field_cell (i := 2) (u := .int .i64 0) hblk rfl
      have y0 := field_free (i := 0) hblk
      have y1 := field_free (i := 1) hblk
      have y2 := field_free (i := 2) hblk
      have HBLK := Lib.hid hblk
      clear hb1 hblk
      go_wp2
      (try simp only [Exit.inBlock, Exit.then])
      refine bodyPost_ret (results_tmp_cell_row Try.results25 _ _ (w.heap.size + 1) _ _ (0, 0) _ rfl (set3 HBLK.out _ _ _) Try.underlying28 rfl (by kernel_rfl)) rfl ?_
      exact ⟨rfl, ((hbw.setCell (p := ⟨w.heap.size + 1, 0, none⟩) (by simp) _).setCell (p := ⟨w.heap.size + 1, 1, none⟩) (by simp) _).setCell (p := ⟨w.heap.size + 1, 2, none⟩) (by simp) _⟩
  · have e1 : (c.text most) = ([], c) := Cu.tk_e h0
    rw [e1]
    unfold cuv
    generalize tx c.bs = s at *
    generalize (c.at_ : Int) = x at *
    generalize c.e = z at *
    clear e1 hg hok hrm hm
    go_enter Try.func25, Try.ntmps25
    go_wp2
    go_region
    all_goals (try go_wp2)
    go_returns
    exact ⟨rfl, (((Below.refl _ w).alloc (Nat.le_refl _) _).alloc (by simp) _).drew⟩

end Go.Proofs.Ytkpgnpiofhgcpaa
