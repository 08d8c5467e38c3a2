/- The walk of the document's count. -/
import Derived.Test.YtkpgnpiofhgcpaaJh
namespace Go.Proofs.Ytkpgnpiofhgcpaa
open Go.RowKit

/-- A value of Go for the document's cursor, in its parts. -/
theorem cuv_parts (c : Cu) : ∃ (s : ByteArray) (x z : Int), cuv c = .agg #[.string s, .int .i64 x, .int .i64 z] := ⟨_, _, _, rfl⟩

/-- Two blocks that were just made, in a world in which nothing of what was there has turned since. -/
theorem two_old {w w1 : World} {a b : Obj} (h : Below ((w.alloc a).alloc b).heap.size ((w.alloc a).alloc b) w1) :
    w1.heap[w.heap.size]? = some a ∧ w1.heap[w.heap.size + 1]? = some b ∧ Below w.heap.size w w1 ∧ w.heap.size + 2 ≤ w1.heap.size := by
  refine ⟨?_, ?_, ?_, ?_⟩
  · rw [h.block w.heap.size (by simp; omega), Below.heap_alloc (w.alloc a) b w.heap.size (by simp)]
    exact heap_alloc_new w _
  · rw [h.block (w.heap.size + 1) (by simp)]
    exact heap_alloc2_new w _ _
  · exact (((Below.refl _ w).alloc (Nat.le_refl _) _).alloc (by simp) _).trans (h.mono (by simp; omega))
  · have := h.size
    simpa using this

section
variable {w w1 : World} {g k B : Nat} {a b c : Value}
theorem set3_other (hk : k ≠ g) : (((w.setCell ⟨g, 0, none⟩ a).setCell ⟨g, 1, none⟩ b).setCell ⟨g, 2, none⟩ c).heap[k]? = w.heap[k]? := by
  rw [Below.heap_setCell _ _ _ _ hk, Below.heap_setCell _ _ _ _ hk, Below.heap_setCell _ _ _ _ hk]
theorem set3_below (h : Below B w w1) (hg : B ≤ g) : Below B w (((w1.setCell ⟨g, 0, none⟩ a).setCell ⟨g, 1, none⟩ b).setCell ⟨g, 2, none⟩ c) :=
  ((h.setCell (p := ⟨g, 0, none⟩) hg _).setCell (p := ⟨g, 1, none⟩) hg _).setCell (p := ⟨g, 2, none⟩) hg _
theorem set3_drew {t : TypeId} {x y z : Value} (h : w.heap[g]? = some (.cells #[x, y, z] t (0, 0))) (a b c : Value) :
    (((w.setCell ⟨g, 0, none⟩ a).setCell ⟨g, 1, none⟩ b).setCell ⟨g, 2, none⟩ c).drew.heap[g]? = some (.cells #[a, b, c] t (0, 0)) := set3 h a b c
theorem set3_size : (((w.setCell ⟨g, 0, none⟩ a).setCell ⟨g, 1, none⟩ b).setCell ⟨g, 2, none⟩ c).heap.size = w.heap.size := by simp [World.setCell]
end

set_option maxRecDepth 100000 in
set_option maxHeartbeats 1600000 in
theorem refcnt_any (c : Cu) (hok : c.ok) (hrm : c.bs.length ≤ 1000000) (most : Int) (hm : most < 9223372036854775808) (w : World) :
    Calls Try.prog 43 #[cuv c, .int .i64 most] w fun e w' => e = .returned (.tuple #[.int .i64 ((c.cnt most).1 : Int), cuv (c.cnt most).2]) ∧ Below w.heap.size w w' := by
  have hn := fun W => refnum_any c hok hrm W
  have hf := fun W => reffail_any c.num.2 5 W
  have hM : (most < 0 ∧ max most 0 = 0) ∨ (¬ most < 0 ∧ max most 0 = most) := by omega
  obtain ⟨M, hMM⟩ : ∃ M, M = max most 0 := ⟨_, rfl⟩
  have hw : IntKind.u64.wrap M = M := by rw [IntKind.wrap_u64]; omega
  have hlim : (M < (c.num.1 : Int) ∧ c.cnt most = (0, c.num.2.fail 5)) ∨ (¬ M < (c.num.1 : Int) ∧ c.cnt most = (c.num.1, c.num.2)) := by
    by_cases hl : M < (c.num.1 : Int)
    · exact .inl ⟨hl, by rw [Cu.cnt, if_pos (by rw [← hMM]; exact hl)]⟩
    · exact .inr ⟨hl, by rw [Cu.cnt, if_neg (by rw [← hMM]; exact hl)]⟩
  rw [← hMM] at hM
  clear hMM
  generalize c.cnt most = rr at *
  generalize c.num.1 = n at *
  generalize c.num.2.fail 5 = c3 at *
  generalize c.num.2 = c2 at *
  obtain ⟨s, x, z, hc⟩ := cuv_parts c
  obtain ⟨u1, u2, u3, hc2⟩ := cuv_parts c2
  obtain ⟨f1, f2, f3, hc3⟩ := cuv_parts c3
  rw [hc, hc2] at hn
  rw [hc2, hc3] at hf
  rw [hc]
  have HN := Lib.hid hn
  have HF := Lib.hid hf
  have HC2 := Lib.hid hc2
  have HC3 := Lib.hid hc3
  clear hn hf hc hc2 hc3 hok hrm
  rcases hlim with ⟨hl, he⟩ | ⟨hl, he⟩
  · have HE := Lib.hid he
    clear he
    rcases hM with ⟨hM0, hM1⟩ | ⟨hM0, hM1⟩
    all_goals
      subst hM1
      go_enter Try.func43, Try.ntmps43
      go_wp2_with fail
      refine (HN.out _).mono ?_
      rintro e w1 ⟨rfl, hb1⟩
      obtain ⟨hblk, hblk2, hbw, hsz⟩ := two_old hb1
      have g0 := field_cell (i := 0) (u := .string s) hblk rfl
      have g1 := field_cell (i := 1) (u := .int .i64 x) hblk rfl
      have g2 := field_cell (i := 2) (u := .int .i64 z) hblk rfl
      have y0 := field_free (i := 0) hblk
      have y1 := field_free (i := 1) hblk
      have y2 := field_free (i := 2) hblk
      clear hb1 hblk
      go_wp2_with fail
      refine (HF.out _).mono ?_
      rintro e w2 ⟨rfl, hb2⟩
      have hsz2 : w1.heap.size ≤ w2.heap.size := by have := hb2.size; rwa [set3_size] at this
      have hblk3 : w2.heap[w.heap.size + 1]? = some (.cells #[.string ⟨#[]⟩, .int .i64 0, .int .i64 0] 28 (0, 0)) := by
        rw [hb2.block (w.heap.size + 1) (by rw [set3_size]; omega), set3_other (by omega)]
        exact hblk2
      have hbw2 : Below w.heap.size w w2 := hbw.trans ((set3_below (Below.refl _ w1) (Nat.le_refl _)).trans (hb2.mono (by rw [set3_size]; omega)))
      have p0 := field_cell (i := 0) (u := .string ⟨#[]⟩) hblk3 rfl
      have p1 := field_cell (i := 1) (u := .int .i64 0) hblk3 rfl
      have p2 := field_cell (i := 2) (u := .int .i64 0) hblk3 rfl
      have q0 := field_free (i := 0) hblk3
      have q1 := field_free (i := 1) hblk3
      have q2 := field_free (i := 2) hblk3
      have HBLK := Lib.hid hblk3
      have HBW := Lib.hid hbw2
      clear hb2 hblk2 hblk3 hbw hbw2 hsz hsz2 g0 g1 g2 y0 y1 y2
      go_wp2
      (try simp only [Exit.inBlock, Exit.then])
      refine bodyPost_ret (results_tmp_cell_row Try.results43 _ _ (w.heap.size + 1) _ _ (0, 0) _ rfl (set3 HBLK.out _ _ _) Try.underlying28 rfl (by kernel_rfl)) rfl ?_
      exact ⟨by rw [HE.out, HC3.out]; rfl, set3_below HBW.out (by omega)⟩
  · have HE := Lib.hid he
    have hni : IntKind.i64.wrap (n : Int) = (n : Int) := by rw [IntKind.wrap_i64]; omega
    clear he
    rcases hM with ⟨hM0, hM1⟩ | ⟨hM0, hM1⟩
    all_goals
      subst hM1
      go_enter Try.func43, Try.ntmps43
      go_wp2_with fail
      refine (HN.out _).mono ?_
      rintro e w1 ⟨rfl, hb1⟩
      obtain ⟨hblk, hblk2, hbw, hsz⟩ := two_old hb1
      have g0 := field_cell (i := 0) (u := .string s) hblk rfl
      have g1 := field_cell (i := 1) (u := .int .i64 x) hblk rfl
      have g2 := field_cell (i := 2) (u := .int .i64 z) hblk rfl
      have y0 := field_free (i := 0) hblk
      have y1 := field_free (i := 1) hblk
      have y2 := field_free (i := 2) hblk
      clear hb1 hblk
      have p0 := field_cell (i := 0) (u := .string ⟨#[]⟩) hblk2 rfl
      have p1 := field_cell (i := 1) (u := .int .i64 0) hblk2 rfl
      have p2 := field_cell (i := 2) (u := .int .i64 0) hblk2 rfl
      have q0 := field_free (i := 0) hblk2
      have q1 := field_free (i := 1) hblk2
      have q2 := field_free (i := 2) hblk2
      have HBLK := Lib.hid hblk2
      have HBW := Lib.hid hbw
      clear hblk2 hbw
      go_wp2
      go_region
      all_goals (try go_wp2)
      (try simp only [Exit.inBlock, Exit.then])
      refine bodyPost_ret (results_tmp_cell_row Try.results43 _ _ (w.heap.size + 1) _ _ (0, 0) _ rfl (set3_drew ((set3_other (by omega)).trans HBLK.out) _ _ _) Try.underlying28 rfl (by kernel_rfl)) rfl ?_
      exact ⟨by rw [HE.out, HC2.out]; rfl, (set3_below (set3_below HBW.out (Nat.le_refl _)) (by omega)).drew⟩

end Go.Proofs.Ytkpgnpiofhgcpaa
