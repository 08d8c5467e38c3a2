/- The walk of the document's cursor: a byte. -/
import Derived.Test.YtkpgnpiofhgcpaaJg
namespace Go.Proofs.Ytkpgnpiofhgcpaa
open Go.RowKit

set_option maxRecDepth 100000 in
set_option maxHeartbeats 800000 in
theorem refbyte_any (c : Cu) (hok : c.ok) (hrm : c.bs.length ≤ 1000000) (w : World) :
    Calls Try.prog 23 #[cuv c] w fun e w' => e = .returned (.tuple #[.int .u8 (c.byte.1.toNat : Int), cuv c.byte.2]) ∧ Below w.heap.size w w' := by
  by_cases h0 : c.e = 0
  · obtain ⟨s, hs⟩ : ∃ s, s = tx c.bs := ⟨_, rfl⟩
    have hsz : s.size = c.bs.length := by rw [hs, tx_size]
    unfold Cu.ok at hok
    by_cases h1 : c.at_ < c.bs.length
    · have h1s : c.at_ < s.size := by omega
      obtain ⟨v, hv, hd⟩ := drop_at hs c.at_ h1s
      have hr : c.byR = (v, c.at_ + 1, 0) := by rw [Cu.byR, hd]
      have e1 : c.byte.1 = v := by simp only [Cu.byte, Cu.tk, h0, hr, if_true]
      have e2 : c.byte.2 = { c with at_ := c.at_ + 1 } := by simp only [Cu.byte, Cu.tk, h0, hr, if_true]
      rw [e1, e2, hv]
      unfold cuv
      simp only [h0]
      rw [← hs]
      rw [← hsz] at hrm
      have e3 : ((c.at_ + 1 : Nat) : Int) = (c.at_ : Int) + 1 := by omega
      rw [e3]
      clear e1 e2 h0 hr hd hv hok hs hsz e3 h1
      go_enter Try.func23, Try.ntmps23
      go_wp2
      go_region
      all_goals (try go_wp2)
      go_returns
      exact ⟨rfl, (((Below.refl _ w).alloc (Nat.le_refl _) _).alloc (by simp) _).drew⟩
    · have hr : c.byR = (0, 0, 2) := by rw [Cu.byR, List.drop_eq_nil_of_le (by omega)]
      have e1 : c.byte.1 = 0 := by simp only [Cu.byte, Cu.tk, h0, hr, if_true]; rfl
      have e2 : c.byte.2 = c.fail 2 := by simp only [Cu.byte, Cu.tk, Cu.fail, h0, hr, if_true]; rfl
      rw [e1, e2]
      have hf := fun W => reffail_any c 2 W
      generalize c.fail 2 = c9 at *
      obtain ⟨u1, u2, u3, hu⟩ : ∃ u1 u2 u3, cuv c9 = .agg #[.string u1, .int .i64 u2, .int .i64 u3] := ⟨_, _, _, rfl⟩
      rw [hu] at hf ⊢
      unfold cuv at *
      rw [h0, ← hs] at hf
      rw [h0, ← hs]
      have hx : c.at_ = s.size := by omega
      rw [hx] at hf ⊢
      rw [← hsz] at hrm
      have HF := Lib.hid hf
      clear e1 e2 h0 h1 hf hu hok hx hr hs hsz
      go_enter Try.func23, Try.ntmps23
      go_wp2_with fail
      refine (HF.out _).mono ?_
      rintro e w1 ⟨rfl, hb1⟩
      have hblk : w1.heap[w.heap.size + 1]? = some (.cells #[.string ⟨#[]⟩, .int .i64 0, .int .i64 0] 28 (0, 0)) := by
        rw [hb1.block (w.heap.size + 1) (by simp)]
        exact heap_alloc2_new w _ _
      have hbw : Below w.heap.size w w1 := (((Below.refl _ w).alloc (Nat.le_refl _) _).alloc (by simp) _).trans (hb1.mono (by simp; omega))
      have g0 := field_cell (i := 0) (u := .string ⟨#[]⟩) hblk rfl
      have g1 := field_cell (i := 1) (u := .int .i64 0) hblk rfl
      have g2 := field_cell (i := 2) (u := .int .i64 0) hblk rfl
      have y0 := field_free (i := 0) hblk
      have y1 := field_free (i := 1) hblk
      have y2 := field_free (i := 2) hblk
      have HBLK := Lib.hid hblk
      clear hb1 hblk
      go_wp2
      (try simp only [Exit.inBlock, Exit.then])
      refine bodyPost_ret (results_tmp_cell_row Try.results23 _ _ (w.heap.size + 1) _ _ (0, 0) _ rfl (set3 HBLK.out _ _ _) Try.underlying28 rfl (by kernel_rfl)) rfl ?_
      exact ⟨rfl, ((hbw.setCell (p := ⟨w.heap.size + 1, 0, none⟩) (by simp) _).setCell (p := ⟨w.heap.size + 1, 1, none⟩) (by simp) _).setCell (p := ⟨w.heap.size + 1, 2, none⟩) (by simp) _⟩
  · have e1 : c.byte = (0, c) := Cu.tk_e h0
    rw [e1]
    unfold cuv
    generalize tx c.bs = s at *
    generalize (c.at_ : Int) = x at *
    generalize c.e = z at *
    clear e1 hok hrm
    go_enter Try.func23, Try.ntmps23
    go_wp2
    go_region
    all_goals (try go_wp2)
    go_returns
    exact ⟨rfl, (((Below.refl _ w).alloc (Nat.le_refl _) _).alloc (by simp) _).drew⟩

end Go.Proofs.Ytkpgnpiofhgcpaa
