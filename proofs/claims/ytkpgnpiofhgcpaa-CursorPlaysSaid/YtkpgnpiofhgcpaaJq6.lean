/- The walk of step: the kind 6. -/
import Derived.Test.YtkpgnpiofhgcpaaJp

namespace Go.Proofs.Ytkpgnpiofhgcpaa
open Go.RowKit

set_option maxRecDepth 100000 in
set_option maxHeartbeats 1600000 in
theorem step_6 (B b : Nat) (c2 : Cu) (kd mo ea : Int) (n0 : ¬ kd = 0) (n1 : ¬ kd = 1) (n2 : ¬ kd = 2) (n3 : ¬ kd = 3) (n4 : ¬ kd = 4) (n5 : ¬ kd = 5) (w : World) (h : CurIn w B b c2) :
    Calls Try.prog 9 #[bothv b c2, .agg #[.int .i64 kd, .int .i64 mo, .int .i64 ea]] w fun e w' => e = .returned (.tuple #[bothv b c2, .bool true]) ∧ CurIn w' B b c2 ∧ Only b w w' := by
  have hlt := h.lt
  obtain ⟨x, hx⟩ : ∃ x, x = ((w.alloc (.cells (bothc b c2) 31)).alloc (.cells #[.int .i64 kd, .int .i64 mo, .int .i64 ea] 33)).alloc (.cells zero4 31) := ⟨_, rfl⟩
  obtain ⟨x1, x2, x3, hbx, hxs⟩ := three_any (w := w) (w1 := x) (a := .cells (bothc b c2) 31) (b := .cells #[.int .i64 kd, .int .i64 mo, .int .i64 ea] 33) (o := .cells zero4 31) (by rw [hx]; exact Below.refl _ _)
  have hst : StepIn w x B b c2 := ⟨h.below hbx hlt, x1, x3, Only.of_below hbx, hxs, hlt⟩
  unfold bothv
  have hsz : (tx c2.bs).size = c2.bs.length := tx_size _
  have HSZ := Lib.hid hsz
  have HST := Lib.hid hst
  have HSUB : Hid (IntKind.i64.wrap ((c2.bs.length : Int) - (c2.at_ : Int)) = ((c2.bs.length - c2.at_ : Nat) : Int)) := by
    have h1 := HST.out.cur.ok
    have h2 := HST.out.cur.room
    unfold Cu.ok at h1
    simp only [Hid]
    rw [IntKind.wrap_i64]; omega
  have HG : Hid (∀ X, StepW w x X → _) := fun X hX => StepW.cells hX HST.out
  have HX := Lib.hid hx
  clear hsz h hlt hx x1 x2 x3 hbx hxs hst
  go_enter Try.func9, Try.ntmps9
  go_wp2
  rw [show ((w.alloc (.cells #[.pointer (some ⟨b, 0, none⟩), .string (tx c2.bs), .int .i64 (c2.at_ : Int), .int .i64 c2.e] 31)).alloc (.cells #[.int .i64 kd, .int .i64 mo, .int .i64 ea] 33)).alloc (.cells #[.pointer none, .string ⟨#[]⟩, .int .i64 0, .int .i64 0] 31) = x from HX.out.symm]
  refine wp_region_held (S := fun X => StepW w x X) (by kernel_rfl) ?_
  have hS : StepW w x x.drew := HST.out.start
  refine h_take 0 (.agg #[.pointer (some ⟨b, 0, none⟩), .string (tx c2.bs), .int .i64 (c2.at_ : Int), .int .i64 c2.e]) rfl (by kernel_rfl) (by kernel_rfl) (by kernel_rfl) (fun _ _ _ h => h) (by kernel_rfl) hS (by intro w' hb; have c0 := (HG.out w' hb).1; have c1 := (HG.out w' hb).2.1; have c2 := (HG.out w' hb).2.2.1; have c3 := (HG.out w' hb).2.2.2; go_simp) ?_
  refine h_take 1 (.bool true) rfl (by kernel_rfl) (by kernel_rfl) (by kernel_rfl) (fun _ _ _ h => h) (by kernel_rfl) hS (fun _ _ => by kernel_rfl) ?_
  refine h_take 2 (.bool true) rfl (by kernel_rfl) (by kernel_rfl) (by kernel_rfl) (fun _ _ _ h => h) (by kernel_rfl) hS (fun _ _ => by kernel_rfl) ?_
  refine h_take 3 (.pointer (some ⟨w.heap.size, 0, none⟩)) rfl (by kernel_rfl) (by kernel_rfl) (by kernel_rfl) (fun _ _ _ h => h) (by kernel_rfl) hS (by intro w' hb; go_simp) ?_
  refine h_take 4 (.pointer (some ⟨b, 0, none⟩)) rfl (by kernel_rfl) (by kernel_rfl) (by kernel_rfl) (fun _ _ _ h => h) (by kernel_rfl) hS (by intro w' hb; have c0 := (HG.out w' hb).1; go_simp) ?_
  refine h_take 6 (.pointer (some ⟨w.heap.size, 1, none⟩)) rfl (by kernel_rfl) (by kernel_rfl) (by kernel_rfl) (fun _ _ _ h => h) (by kernel_rfl) hS (by intro w' hb; go_simp) ?_
  refine h_take 7 (.pointer (some ⟨w.heap.size, 3, none⟩)) rfl (by kernel_rfl) (by kernel_rfl) (by kernel_rfl) (fun _ _ _ h => h) (by kernel_rfl) hS (by intro w' hb; go_simp) ?_
  refine h_take 8 (.int .i64 c2.e) rfl (by kernel_rfl) (by kernel_rfl) (by kernel_rfl) (fun _ _ _ h => h) (by kernel_rfl) hS (by intro w' hb; have c3 := (HG.out w' hb).2.2.2; go_simp) ?_
  refine h_one 5 rfl (by kernel_rfl) (by kernel_rfl) (fun K hK => ?_)
  go_simp
  refine Calls.mono (err_any B b c2 _ (hS.cur HST.out)) ?_
  rintro e w9 ⟨rfl, rfl⟩
  refine hK _ _ hS ?_
  clear hK K
  refine h_take 9 (.bool true) rfl (by kernel_rfl) (by kernel_rfl) (by kernel_rfl) (fun _ _ _ h => h) (by kernel_rfl) hS (by intro w' hb; go_simp) ?_
  refine h_take 10 (.bool true) rfl (by kernel_rfl) (by kernel_rfl) (by kernel_rfl) (fun _ _ _ h => h) (by kernel_rfl) hS (fun _ _ => by kernel_rfl) ?_
  refine h_take 11 (.bool true) rfl (by kernel_rfl) (by kernel_rfl) (by kernel_rfl) (fun _ _ _ h => h) (by kernel_rfl) hS (fun _ _ => by kernel_rfl) ?_
  refine h_take 12 (.pointer (some ⟨w.heap.size, 0, none⟩)) rfl (by kernel_rfl) (by kernel_rfl) (by kernel_rfl) (fun _ _ _ h => h) (by kernel_rfl) hS (by intro w' hb; go_simp) ?_
  refine h_take 13 (.pointer (some ⟨b, 0, none⟩)) rfl (by kernel_rfl) (by kernel_rfl) (by kernel_rfl) (fun _ _ _ h => h) (by kernel_rfl) hS (by intro w' hb; have c0 := (HG.out w' hb).1; go_simp) ?_
  refine h_take 15 (.pointer (some ⟨w.heap.size, 1, none⟩)) rfl (by kernel_rfl) (by kernel_rfl) (by kernel_rfl) (fun _ _ _ h => h) (by kernel_rfl) hS (by intro w' hb; go_simp) ?_
  refine h_take 16 (.pointer (some ⟨w.heap.size, 2, none⟩)) rfl (by kernel_rfl) (by kernel_rfl) (by kernel_rfl) (fun _ _ _ h => h) (by kernel_rfl) hS (by intro w' hb; go_simp) ?_
  refine h_take 17 (.int .i64 (c2.at_ : Int)) rfl (by kernel_rfl) (by kernel_rfl) (by kernel_rfl) (fun _ _ _ h => h) (by kernel_rfl) hS (by intro w' hb; have c2 := (HG.out w' hb).2.2.1; go_simp) ?_
  refine h_one 14 rfl (by kernel_rfl) (by kernel_rfl) (fun K hK => ?_)
  go_simp
  refine Calls.mono (at_any B b c2 _ (hS.cur HST.out)) ?_
  rintro e w9 ⟨rfl, rfl⟩
  refine hK _ _ hS ?_
  clear hK K
  refine h_take 18 (.bool true) rfl (by kernel_rfl) (by kernel_rfl) (by kernel_rfl) (fun _ _ _ h => h) (by kernel_rfl) hS (by intro w' hb; go_simp) ?_
  refine h_take 19 (.bool true) rfl (by kernel_rfl) (by kernel_rfl) (by kernel_rfl) (fun _ _ _ h => h) (by kernel_rfl) hS (fun _ _ => by kernel_rfl) ?_
  refine h_take 20 (.bool true) rfl (by kernel_rfl) (by kernel_rfl) (by kernel_rfl) (fun _ _ _ h => h) (by kernel_rfl) hS (fun _ _ => by kernel_rfl) ?_
  refine h_take 21 (.pointer (some ⟨w.heap.size, 0, none⟩)) rfl (by kernel_rfl) (by kernel_rfl) (by kernel_rfl) (fun _ _ _ h => h) (by kernel_rfl) hS (by intro w' hb; go_simp) ?_
  refine h_take 22 (.pointer (some ⟨b, 0, none⟩)) rfl (by kernel_rfl) (by kernel_rfl) (by kernel_rfl) (fun _ _ _ h => h) (by kernel_rfl) hS (by intro w' hb; have c0 := (HG.out w' hb).1; go_simp) ?_
  refine h_take 24 (.pointer (some ⟨w.heap.size, 1, none⟩)) rfl (by kernel_rfl) (by kernel_rfl) (by kernel_rfl) (fun _ _ _ h => h) (by kernel_rfl) hS (by intro w' hb; go_simp) ?_
  refine h_take 25 (.pointer (some ⟨w.heap.size, 1, none⟩)) rfl (by kernel_rfl) (by kernel_rfl) (by kernel_rfl) (fun _ _ _ h => h) (by kernel_rfl) hS (by intro w' hb; go_simp) ?_
  refine h_take 26 (.string (tx c2.bs)) rfl (by kernel_rfl) (by kernel_rfl) (by kernel_rfl) (fun _ _ _ h => h) (by kernel_rfl) hS (by intro w' hb; have c1 := (HG.out w' hb).2.1; go_simp) ?_
  refine h_take 27 (.int .i64 (c2.bs.length : Int)) rfl (by kernel_rfl) (by kernel_rfl) (by kernel_rfl) (fun _ _ _ h => h) (by kernel_rfl) hS (by intro w' hb; have hz := HSZ.out; go_simp) ?_
  refine h_take 28 (.pointer (some ⟨w.heap.size, 1, none⟩)) rfl (by kernel_rfl) (by kernel_rfl) (by kernel_rfl) (fun _ _ _ h => h) (by kernel_rfl) hS (by intro w' hb; go_simp) ?_
  refine h_take 29 (.pointer (some ⟨w.heap.size, 2, none⟩)) rfl (by kernel_rfl) (by kernel_rfl) (by kernel_rfl) (fun _ _ _ h => h) (by kernel_rfl) hS (by intro w' hb; go_simp) ?_
  refine h_take 30 (.int .i64 (c2.at_ : Int)) rfl (by kernel_rfl) (by kernel_rfl) (by kernel_rfl) (fun _ _ _ h => h) (by kernel_rfl) hS (by intro w' hb; have c2 := (HG.out w' hb).2.2.1; go_simp) ?_
  refine h_take 31 (.int .i64 ((c2.bs.length - c2.at_ : Nat) : Int)) rfl (by kernel_rfl) (by kernel_rfl) (by kernel_rfl) (fun _ _ _ h => h) (by kernel_rfl) hS (by intro w' hb; have hz := HSUB.out; go_simp) ?_
  refine h_one 23 rfl (by kernel_rfl) (by kernel_rfl) (fun K hK => ?_)
  go_simp
  refine Calls.mono (left_any B b c2 _ (hS.cur HST.out)) ?_
  rintro e w9 ⟨rfl, hb9⟩
  have hS9 := hS.below hb9
  refine hK _ _ hS9 ?_
  clear hK K
  refine h_take 32 (.bool true) rfl (by kernel_rfl) (by kernel_rfl) (by kernel_rfl) (fun _ _ _ h => h) (by kernel_rfl) hS9 (by intro w' hb; go_simp) ?_
  refine h_take 33 (.bool true) rfl (by kernel_rfl) (by kernel_rfl) (by kernel_rfl) (fun _ _ _ h => h) (by kernel_rfl) hS9 (fun _ _ => by kernel_rfl) ?_
  obtain ⟨p9, s9, x9, e9, h9⟩ := hS9.2
  refine h_one 34 rfl (by kernel_rfl) (by kernel_rfl) (fun K hK => ?_)
  refine wp_store_row 31 _ _ rfl (w.heap.size + 2) #[.pointer (some ⟨b, 0, none⟩), .string (tx c2.bs), .int .i64 (c2.at_ : Int), .int .i64 c2.e] rfl rfl 31 #[p9, s9, x9, e9] h9 (by kernel_rfl) rfl (by simp [Value.oneCell']) ?_
  have hS10 := hS9.setRow (.pointer (some ⟨b, 0, none⟩)) (.string (tx c2.bs)) (.int .i64 (c2.at_ : Int)) (.int .i64 c2.e)
  refine hK _ _ hS10 ?_
  clear hK K
  refine h_take 35 (.bool true) rfl (by kernel_rfl) (by kernel_rfl) (by kernel_rfl) (fun _ _ _ h => h) (by kernel_rfl) hS10 (fun _ _ => by kernel_rfl) ?_
  refine wpAnyH_done (by kernel_rfl) ?_ _
  go_simp
  (try go_wp2)
  (try simp only [Exit.inBlock, Exit.then])
  refine bodyPost_ret (results_cell_tmp_row Try.results9 _ _ (w.heap.size + 2) _ _ (0, 0) _ rfl (setRow_heap _ _ _ _ _ _ h9) Try.underlying31 rfl (by kernel_rfl)) rfl ?_
  exact ⟨rfl, hS10.cur HST.out, HST.out.only.next (hS10.1.below (by omega) (by have := HST.out.size; omega))⟩

end Go.Proofs.Ytkpgnpiofhgcpaa
