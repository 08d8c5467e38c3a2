/- The walk of step: the kind 5. -/
import Derived.Test.YtkpgnpiofhgcpaaJp

namespace Go.Proofs.Ytkpgnpiofhgcpaa
open Go.RowKit

set_option maxRecDepth 100000 in
set_option maxHeartbeats 1600000 in
theorem step_5 (B b : Nat) (c : Cu) (mo ea : Int) (w : World) (h : CurIn w B b c) :
    Calls Try.prog 9 #[bothv b c, .agg #[.int .i64 5, .int .i64 mo, .int .i64 ea]] w fun e w' => e = .returned (.tuple #[bothv b (c.fail mo), .bool true]) ∧ CurIn w' B b (c.fail mo) ∧ Only b w w' := by
  have href := fun W => reffail_any c mo W
  have hlt := h.lt
  have hle := h.le
  obtain ⟨x, hx⟩ : ∃ x, x = ((w.alloc (.cells (bothc b c) 31)).alloc (.cells #[.int .i64 5, .int .i64 mo, .int .i64 ea] 33)).alloc (.cells zero4 31) := ⟨_, rfl⟩
  obtain ⟨x1, x2, x3, hbx, hxs⟩ := three_any (w := w) (w1 := x) (a := .cells (bothc b c) 31) (b := .cells #[.int .i64 5, .int .i64 mo, .int .i64 ea] 33) (o := .cells zero4 31) (by rw [hx]; exact Below.refl _ _)
  have hcx := h.below hbx hlt
  have hcall := fail_any B b c mo x hcx
  generalize c.fail mo = c2 at *
  unfold bothv
  simp only [cuv] at href
  have hsz : (tx c2.bs).size = c2.bs.length := tx_size _
  have HREF := Lib.hid href
  have HSZ := Lib.hid hsz
  have HLT := Lib.hid hlt
  have HLE := Lib.hid hle
  have HX := Lib.hid hx
  rw [hx] at hcall
  have HCALL := Lib.hid hcall
  have HX1 := Lib.hid x1
  have HX2 := Lib.hid x2
  have HX3 := Lib.hid x3
  have HBX := Lib.hid hbx
  have HXS := Lib.hid hxs
  clear href hcall hsz h hlt hle hx x1 x2 x3 hbx hxs hcx
  go_enter Try.func9, Try.ntmps9
  go_wp2_with fail
  refine HCALL.out.mono ?_
  rintro e w1 ⟨rfl, hc1, ho1⟩
  replace ho1 : Only b x w1 := by rw [HX.out]; exact ho1
  have hs1 : w.heap.size + 3 ≤ w1.heap.size := Nat.le_trans HXS.out ho1.size
  have b1 : w1.heap[w.heap.size]? = _ := (ho1.block w.heap.size (by have := HXS.out; omega) (by have := HLT.out; omega)).trans HX1.out
  have b2 : w1.heap[w.heap.size + 1]? = _ := (ho1.block (w.heap.size + 1) (by have := HXS.out; omega) (by have := HLT.out; omega)).trans HX2.out
  have b3 : w1.heap[w.heap.size + 2]? = _ := (ho1.block (w.heap.size + 2) (by have := HXS.out; omega) (by have := HLT.out; omega)).trans HX3.out
  have t1 := field_cell (i := 1) (u := .int .i64 mo) b2 rfl
  have f0 := field_cell (i := 0) (u := .pointer (some ⟨b, 0, none⟩)) b1 rfl
  have f1 := field_cell (i := 1) (u := .string (tx c.bs)) b1 rfl
  have f2 := field_cell (i := 2) (u := .int .i64 (c.at_ : Int)) b1 rfl
  have f3 := field_cell (i := 3) (u := .int .i64 c.e) b1 rfl
  have HB1 := Lib.hid b1
  have HB3 := Lib.hid b3
  have HC1 := Lib.hid hc1
  have HO1 := Lib.hid ((Only.of_below HBX.out).trans ho1)
  have HS1 := Lib.hid hs1
  clear b1 b2 b3 hc1 ho1 hs1
  go_wp2_with fail
  refine (HREF.out _).mono ?_
  rintro e w2 ⟨rfl, hb2⟩
  have k1 := (hb2.block w.heap.size (by have := HS1.out; omega)).trans HB1.out
  have k3 := (hb2.block (w.heap.size + 2) (by have := HS1.out; omega)).trans HB3.out
  have hs2 : w.heap.size + 3 ≤ w2.heap.size := Nat.le_trans HS1.out hb2.size
  have g0 := field_cell (i := 0) (u := .pointer (some ⟨b, 0, none⟩)) k1 rfl
  have g1 := field_cell (i := 1) (u := .string (tx c.bs)) k1 rfl
  have g2 := field_cell (i := 2) (u := .int .i64 (c.at_ : Int)) k1 rfl
  have g3 := field_cell (i := 3) (u := .int .i64 c.e) k1 rfl
  have q1 := field_free (i := 1) k1
  have q2 := field_free (i := 2) k1
  have q3 := field_free (i := 3) k1
  obtain ⟨y, hy⟩ : ∃ y, y = ((w2.setCell ⟨w.heap.size, 1, none⟩ (.string (tx c2.bs))).setCell ⟨w.heap.size, 2, none⟩ (.int .i64 (c2.at_ : Int))).setCell ⟨w.heap.size, 3, none⟩ (.int .i64 c2.e) := ⟨_, rfl⟩
  have hys : y.heap.size = w2.heap.size := by rw [hy]; simp [World.setCell]
  have hoy : Only w.heap.size w2 y := by rw [hy]; exact setAt_only
  have hst : StepIn w y B b c2 := ⟨(HC1.out.below hb2 HC1.out.lt).only hoy (by have := HLE.out; have := HLT.out; omega) (by have := HLT.out; omega), by rw [hy]; exact setAt k1 _ _ _, (hoy.block (w.heap.size + 2) (by omega) (by omega)).trans k3,
    (HO1.out.trans (Only.of_below hb2)).next (hoy.below (Nat.le_refl _) (by omega)), by rw [hys]; exact hs2, HLT.out⟩
  have HST := Lib.hid hst
  have HSUB : Hid (IntKind.i64.wrap ((c2.bs.length : Int) - (c2.at_ : Int)) = ((c2.bs.length - c2.at_ : Nat) : Int)) := by
    have h1 := HST.out.cur.ok
    have h2 := HST.out.cur.room
    unfold Cu.ok at h1
    simp only [Hid]
    rw [IntKind.wrap_i64]; omega
  have HG : Hid (∀ X, StepW w y X → _) := fun X hX => StepW.cells hX HST.out
  have HY := Lib.hid hy
  clear hst hoy hys k1 k3 hs2 hb2 t1 f0 f1 f2 f3 hy
  go_wp2
  rw [show ((w2.setCell ⟨w.heap.size, 1, none⟩ (.string (tx c2.bs))).setCell ⟨w.heap.size, 2, none⟩ (.int .i64 (c2.at_ : Int))).setCell ⟨w.heap.size, 3, none⟩ (.int .i64 c2.e) = y from HY.out.symm]
  clear g0 g1 g2 g3 q1 q2 q3
  refine wp_region_held (S := fun X => StepW w y X) (by kernel_rfl) ?_
  have hS : StepW w y y.drew := HST.out.start
  refine h_take 0 (.agg #[.pointer (some ⟨b, 0, none⟩), .string (tx c2.bs), .int .i64 (c2.at_ : Int), .int .i64 c2.e]) rfl (by kernel_rfl) (by kernel_rfl) (by kernel_rfl) (fun _ _ _ h => h) (by kernel_rfl) hS (by intro w' hb; have c0 := (HG.out w' hb).1; have c1 := (HG.out w' hb).2.1; have c2 := (HG.out w' hb).2.2.1; have c3 := (HG.out w' hb).2.2.2; go_simp) ?_
  refine h_take 1 (.bool true) rfl (by kernel_rfl) (by kernel_rfl) (by kernel_rfl) (fun _ _ _ h => h) (by kernel_rfl) hS (fun _ _ => by kernel_rfl) ?_
  refine h_take 2 (.bool true) rfl (by kernel_rfl) (by kernel_rfl) (by kernel_rfl) (fun _ _ _ h => h) (by kernel_rfl) hS (fun _ _ => by kernel_rfl) ?_
  refine h_take 3 (.pointer (some ⟨w.heap.size, 0, none⟩)) rfl (by kernel_rfl) (by kernel_rfl) (by kernel_rfl) (fun _ _ _ h => h) (by kernel_rfl) hS (by intro w' hb; go_simp) ?_
  refine h_take 4 (.pointer (some ⟨b, 0, none⟩)) rfl (by kernel_rfl) (by kernel_rfl) (by kernel_rfl) (fun _ _ _ h => h) (by kernel_rfl) hS (by intro w' hb; have c0 := (HG.out w' hb).1; go_simp) ?_
  refine h_take 6 (.pointer (some ⟨w.heap.size, 1, none⟩)) rfl (by kernel_rfl) (by kernel_rfl) (by kernel_rfl) (fun _ _ _ h => h) (by kernel_rfl) hS (by intro w' hb; go_simp) ?_
  refine h_take 7 (.pointer (some ⟨w.heap.size, 3, none⟩)) rfl (by kernel_rfl) (by kernel_rfl) (by kernel_rfl) (fun _ _ _ h => h) (by kernel_rfl) hS (by intro w' hb; go_simp) ?_
  refine h_take 8 (.int .i64 c2.e) rfl (by kernel_rfl) (by kernel_rfl) (by kernel_rfl) (fun _ _ _ h => h) (by kernel_rfl) hS (by intro w' hb; have c3 := (HG.out w' hb).2.2.2; go_simp) ?_
  refine h_one 5 rfl (by kernel_rfl) (by kernel_rfl) (fun K hK => ?_)
  go_simp
  refine Calls.mono (err_any B b c2 _ (hS.cur HST.out)) ?_
  rintro e w9 ⟨rfl, rfl⟩
  refine hK _ _ hS ?_
  clear hK K
  refine h_take 9 (.bool true) rfl (by kernel_rfl) (by kernel_rfl) (by kernel_rfl) (fun _ _ _ h => h) (by kernel_rfl) hS (by intro w' hb; go_simp) ?_
  refine h_take 10 (.bool true) rfl (by kernel_rfl) (by kernel_rfl) (by kernel_rfl) (fun _ _ _ h => h) (by kernel_rfl) hS (fun _ _ => by kernel_rfl) ?_
  refine h_take 11 (.bool true) rfl (by kernel_rfl) (by kernel_rfl) (by kernel_rfl) (fun _ _ _ h => h) (by kernel_rfl) hS (fun _ _ => by kernel_rfl) ?_
  refine h_take 12 (.pointer (some ⟨w.heap.size, 0, none⟩)) rfl (by kernel_rfl) (by kernel_rfl) (by kernel_rfl) (fun _ _ _ h => h) (by kernel_rfl) hS (by intro w' hb; go_simp) ?_
  refine h_take 13 (.pointer (some ⟨b, 0, none⟩)) rfl (by kernel_rfl) (by kernel_rfl) (by kernel_rfl) (fun _ _ _ h => h) (by kernel_rfl) hS (by intro w' hb; have c0 := (HG.out w' hb).1; go_simp) ?_
  refine h_take 15 (.pointer (some ⟨w.heap.size, 1, none⟩)) rfl (by kernel_rfl) (by kernel_rfl) (by kernel_rfl) (fun _ _ _ h => h) (by kernel_rfl) hS (by intro w' hb; go_simp) ?_
  refine h_take 16 (.pointer (some ⟨w.heap.size, 2, none⟩)) rfl (by kernel_rfl) (by kernel_rfl) (by kernel_rfl) (fun _ _ _ h => h) (by kernel_rfl) hS (by intro w' hb; go_simp) ?_
  refine h_take 17 (.int .i64 (c2.at_ : Int)) rfl (by kernel_rfl) (by kernel_rfl) (by kernel_rfl) (fun _ _ _ h => h) (by kernel_rfl) hS (by intro w' hb; have c2 := (HG.out w' hb).2.2.1; go_simp) ?_
  refine h_one 14 rfl (by kernel_rfl) (by kernel_rfl) (fun K hK => ?_)
  go_simp
  refine Calls.mono (at_any B b c2 _ (hS.cur HST.out)) ?_
  rintro e w9 ⟨rfl, rfl⟩
  refine hK _ _ hS ?_
  clear hK K
  refine h_take 18 (.bool true) rfl (by kernel_rfl) (by kernel_rfl) (by kernel_rfl) (fun _ _ _ h => h) (by kernel_rfl) hS (by intro w' hb; go_simp) ?_
  refine h_take 19 (.bool true) rfl (by kernel_rfl) (by kernel_rfl) (by kernel_rfl) (fun _ _ _ h => h) (by kernel_rfl) hS (fun _ _ => by kernel_rfl) ?_
  refine h_take 20 (.bool true) rfl (by kernel_rfl) (by kernel_rfl) (by kernel_rfl) (fun _ _ _ h => h) (by kernel_rfl) hS (fun _ _ => by kernel_rfl) ?_
  refine h_take 21 (.pointer (some ⟨w.heap.size, 0, none⟩)) rfl (by kernel_rfl) (by kernel_rfl) (by kernel_rfl) (fun _ _ _ h => h) (by kernel_rfl) hS (by intro w' hb; go_simp) ?_
  refine h_take 22 (.pointer (some ⟨b, 0, none⟩)) rfl (by kernel_rfl) (by kernel_rfl) (by kernel_rfl) (fun _ _ _ h => h) (by kernel_rfl) hS (by intro w' hb; have c0 := (HG.out w' hb).1; go_simp) ?_
  refine h_take 24 (.pointer (some ⟨w.heap.size, 1, none⟩)) rfl (by kernel_rfl) (by kernel_rfl) (by kernel_rfl) (fun _ _ _ h => h) (by kernel_rfl) hS (by intro w' hb; go_simp) ?_
  refine h_take 25 (.pointer (some ⟨w.heap.size, 1, none⟩)) rfl (by kernel_rfl) (by kernel_rfl) (by kernel_rfl) (fun _ _ _ h => h) (by kernel_rfl) hS (by intro w' hb; go_simp) ?_
  refine h_take 26 (.string (tx c2.bs)) rfl (by kernel_rfl) (by kernel_rfl) (by kernel_rfl) (fun _ _ _ h => h) (by kernel_rfl) hS (by intro w' hb; have c1 := (HG.out w' hb).2.1; go_simp) ?_
  refine h_take 27 (.int .i64 (c2.bs.length : Int)) rfl (by kernel_rfl) (by kernel_rfl) (by kernel_rfl) (fun _ _ _ h => h) (by kernel_rfl) hS (by intro w' hb; have hz := HSZ.out; go_simp) ?_
  refine h_take 28 (.pointer (some ⟨w.heap.size, 1, none⟩)) rfl (by kernel_rfl) (by kernel_rfl) (by kernel_rfl) (fun _ _ _ h => h) (by kernel_rfl) hS (by intro w' hb; go_simp) ?_
  refine h_take 29 (.pointer (some ⟨w.heap.size, 2, none⟩)) rfl (by kernel_rfl) (by kernel_rfl) (by kernel_rfl) (fun _ _ _ h => h) (by kernel_rfl) hS (by intro w' hb; go_simp) ?_
  refine h_take 30 (.int .i64 (c2.at_ : Int)) rfl (by kernel_rfl) (by kernel_rfl) (by kernel_rfl) (fun _ _ _ h => h) (by kernel_rfl) hS (by intro w' hb; have c2 := (HG.out w' hb).2.2.1; go_simp) ?_
  refine h_take 31 (.int .i64 ((c2.bs.length - c2.at_ : Nat) : Int)) rfl (by kernel_rfl) (by kernel_rfl) (by kernel_rfl) (fun _ _ _ h => h) (by kernel_rfl) hS (by intro w' hb; have hz := HSUB.out; go_simp) ?_
  refine h_one 23 rfl (by kernel_rfl) (by kernel_rfl) (fun K hK => ?_)
  go_simp
  refine Calls.mono (left_any B b c2 _ (hS.cur HST.out)) ?_
  rintro e w9 ⟨rfl, hb9⟩
  have hS9 := hS.below hb9
  refine hK _ _ hS9 ?_
  clear hK K
  refine h_take 32 (.bool true) rfl (by kernel_rfl) (by kernel_rfl) (by kernel_rfl) (fun _ _ _ h => h) (by kernel_rfl) hS9 (by intro w' hb; go_simp) ?_
  refine h_take 33 (.bool true) rfl (by kernel_rfl) (by kernel_rfl) (by kernel_rfl) (fun _ _ _ h => h) (by kernel_rfl) hS9 (fun _ _ => by kernel_rfl) ?_
  obtain ⟨p9, s9, x9, e9, h9⟩ := hS9.2
  refine h_one 34 rfl (by kernel_rfl) (by kernel_rfl) (fun K hK => ?_)
  refine wp_store_row 31 _ _ rfl (w.heap.size + 2) #[.pointer (some ⟨b, 0, none⟩), .string (tx c2.bs), .int .i64 (c2.at_ : Int), .int .i64 c2.e] rfl rfl 31 #[p9, s9, x9, e9] h9 (by kernel_rfl) rfl (by simp [Value.oneCell']) ?_
  have hS10 := hS9.setRow (.pointer (some ⟨b, 0, none⟩)) (.string (tx c2.bs)) (.int .i64 (c2.at_ : Int)) (.int .i64 c2.e)
  refine hK _ _ hS10 ?_
  clear hK K
  refine h_take 35 (.bool true) rfl (by kernel_rfl) (by kernel_rfl) (by kernel_rfl) (fun _ _ _ h => h) (by kernel_rfl) hS10 (fun _ _ => by kernel_rfl) ?_
  refine wpAnyH_done (by kernel_rfl) ?_ _
  go_simp
  (try go_wp2)
  (try simp only [Exit.inBlock, Exit.then])
  refine bodyPost_ret (results_cell_tmp_row Try.results9 _ _ (w.heap.size + 2) _ _ (0, 0) _ rfl (setRow_heap _ _ _ _ _ _ h9) Try.underlying31 rfl (by kernel_rfl)) rfl ?_
  exact ⟨rfl, hS10.cur HST.out, HST.out.only.next (hS10.1.below (by omega) (by have := HST.out.size; omega))⟩

end Go.Proofs.Ytkpgnpiofhgcpaa
