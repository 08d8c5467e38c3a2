/- The walk of step: the kind 3. -/
import Derived.Test.YtkpgnpiofhgcpaaJp
import Derived.Test.YtkpgnpiofhgcpaaJr
namespace Go.Proofs.Ytkpgnpiofhgcpaa
open Go.RowKit

set_option maxRecDepth 100000 in
set_option maxHeartbeats 1600000 in
theorem step_3 (B b : Nat) (c : Cu) (mo ea : Int) (hf : Tk.fits ⟨3, mo, ea⟩) (w : World) (h : CurIn w B b c) :
    Calls Try.prog 9 #[bothv b c, .agg #[.int .i64 3, .int .i64 mo, .int .i64 ea]] w fun e w' => e = .returned (.tuple #[bothv b (c.nums mo).2, .bool true]) ∧ CurIn w' B b (c.nums mo).2 ∧ Only b w w' := by
  have href := fun W => refnums_any c h.ok h.room mo hf.1 W
  have hcall := fun (W : World) (h' : CurIn W B b c) => numbers_any B b c mo hf.1 W h'
  have hlt := h.lt
  have hlen : (c.nums mo).1.length ≤ 1000001 := by
    have h1 := Cu.nums_len h.ok mo
    have h2 := h.room
    omega
  generalize (c.nums mo).1 = l at *
  generalize (c.nums mo).2 = c2 at *
  unfold bothv
  simp only [cuv] at href
  have hsz : (tx c2.bs).size = c2.bs.length := tx_size _
  have HREF := Lib.hid href
  have HCALL := Lib.hid hcall
  have HSZ := Lib.hid hsz
  have H := Lib.hid h
  have HLT := Lib.hid hlt
  have HLEN := Lib.hid hlen
  clear href hcall hsz h hlt hf hlen
  go_enter Try.func9, Try.ntmps9
  go_wp2_with fail
  refine (HREF.out _).mono ?_
  rintro e w1 ⟨v, rfl, hv, hb1⟩
  obtain ⟨h1, h2, h3, hbw, hs⟩ := three_any hb1
  obtain ⟨A1, q1, rfl, _, _⟩ := own_reads hv
  obtain ⟨z, hz⟩ : ∃ z, z = w1.alloc (.cells #[.string (tx c2.bs), .int .i64 (c2.at_ : Int), .int .i64 c2.e] 28) := ⟨_, rfl⟩
  have hz1 : z.heap[w.heap.size]? = some (.cells (bothc b c) 31 (0, 0)) := by rw [hz]; exact (Below.heap_alloc w1 _ w.heap.size (by omega)).trans h1
  have hz3 : z.heap[w.heap.size + 2]? = some (.cells zero4 31 (0, 0)) := by rw [hz]; exact (Below.heap_alloc w1 _ (w.heap.size + 2) (by omega)).trans h3
  have hbz : Below w.heap.size w z := by rw [hz]; exact hbw.alloc (by omega) _
  have hzs : w.heap.size + 3 ≤ z.heap.size := by rw [hz]; simp; omega
  have hmid := fun w5 => step_mid (w5 := w5) (c2 := c2) HLT.out (H.out.below hbz HLT.out) hz1 hz3 hbz hzs rfl rfl rfl rfl
  have hvz : z.ownsRow (w.heap.size + 3) 40 1 (.slice A1 l.length q1) l.length (l.map nv) := by
    rw [hz]
    exact own_wider (own_below hv ((Below.refl _ w1).alloc (Nat.le_refl _) _)) (by simp)
  have hvy := own_only hvz (setAt_only (g := w.heap.size) (a := .string (tx c2.bs)) (b := .int .i64 (c2.at_ : Int)) (c := .int .i64 c2.e)) (by omega)
  have hz2 : z.heap[w.heap.size + 1]? = some (.cells #[.int .i64 3, .int .i64 mo, .int .i64 ea] 33 (0, 0)) := by rw [hz]; exact (Below.heap_alloc w1 _ (w.heap.size + 1) (by omega)).trans h2
  have t1 := field_cell (i := 1) (u := .int .i64 mo) hz2 rfl
  have t2 := field_cell (i := 2) (u := .int .i64 ea) hz2 rfl
  have f0 := field_cell (i := 0) (u := .pointer (some ⟨b, 0, none⟩)) hz1 rfl
  have f1 := field_cell (i := 1) (u := .string (tx c.bs)) hz1 rfl
  have f2 := field_cell (i := 2) (u := .int .i64 (c.at_ : Int)) hz1 rfl
  have f3 := field_cell (i := 3) (u := .int .i64 c.e) hz1 rfl
  have q1' := field_free (i := 1) hz1
  have q2' := field_free (i := 2) hz1
  have q3' := field_free (i := 3) hz1
  rw [hz] at hmid t1 t2 f0 f1 f2 f3 q1' q2' q3' hvy
  have HMID := Lib.hid hmid
  have HVY := Lib.hid hvy
  clear hb1 h1 h2 h3 hbw hs hz1 hz2 hz3 hbz hzs hmid hvy hvz hv hz z
  go_wp2_with fail
  refine (HCALL.out _ (HMID.out w1).1).mono ?_
  rintro e w5 ⟨v2, rfl, hv2, hc5, ho5⟩
  obtain ⟨A2, q2, rfl, _, hr2⟩ := own_reads hv2
  have hr1 := Reads.of_own (own_only HVY.out ho5 (by have := HLT.out; omega))
  have HST0 := Lib.hid ((HMID.out w5).2 hc5 ho5)
  have HR1 := Lib.hid hr1
  have HR2 := Lib.hid hr2
  clear hc5 ho5 hv2 hr1 hr2 t1 t2 f0 f1 f2 f3 q1' q2' q3'
  go_wp2_with fail
  refine Calls.mono (samenum_any A2 A1 l.length q2 q1 w5.heap.size w5.heap.size l (by have := HLEN.out; omega) w5 (Nat.le_refl _) (Nat.le_refl _) HR2.out HR1.out) ?_
  rintro e w6 ⟨rfl, hb6⟩
  have HST := Lib.hid (HST0.out.below hb6)
  have HSUB : Hid (IntKind.i64.wrap ((c2.bs.length : Int) - (c2.at_ : Int)) = ((c2.bs.length - c2.at_ : Nat) : Int)) := by
    have h1 := HST.out.cur.ok
    have h2 := HST.out.cur.room
    unfold Cu.ok at h1
    simp only [Hid]
    rw [IntKind.wrap_i64]; omega
  have HG : Hid (∀ X, StepW w w6 X → _) := fun X hX => StepW.cells hX HST.out
  clear hb6
  go_wp2
  refine wp_region_held (S := fun X => StepW w w6 X) (by kernel_rfl) ?_
  have hS : StepW w w6 w6.drew := HST.out.start
  refine h_take 0 (.agg #[.pointer (some ⟨b, 0, none⟩), .string (tx c2.bs), .int .i64 (c2.at_ : Int), .int .i64 c2.e]) rfl (by kernel_rfl) (by kernel_rfl) (by kernel_rfl) (fun _ _ _ h => h) (by kernel_rfl) hS (by intro w' hb; have c0 := (HG.out w' hb).1; have c1 := (HG.out w' hb).2.1; have c2 := (HG.out w' hb).2.2.1; have c3 := (HG.out w' hb).2.2.2; go_simp) ?_
  refine h_take 1 (.bool true) rfl (by kernel_rfl) (by kernel_rfl) (by kernel_rfl) (fun _ _ _ h => h) (by kernel_rfl) hS (fun _ _ => by kernel_rfl) ?_
  refine h_take 2 (.bool true) rfl (by kernel_rfl) (by kernel_rfl) (by kernel_rfl) (fun _ _ _ h => h) (by kernel_rfl) hS (fun _ _ => by kernel_rfl) ?_
  refine h_take 3 (.pointer (some ⟨w.heap.size, 0, none⟩)) rfl (by kernel_rfl) (by kernel_rfl) (by kernel_rfl) (fun _ _ _ h => h) (by kernel_rfl) hS (by intro w' hb; go_simp) ?_
  refine h_take 4 (.pointer (some ⟨b, 0, none⟩)) rfl (by kernel_rfl) (by kernel_rfl) (by kernel_rfl) (fun _ _ _ h => h) (by kernel_rfl) hS (by intro w' hb; have c0 := (HG.out w' hb).1; go_simp) ?_
  refine h_take 6 (.pointer (some ⟨w.heap.size, 1, none⟩)) rfl (by kernel_rfl) (by kernel_rfl) (by kernel_rfl) (fun _ _ _ h => h) (by kernel_rfl) hS (by intro w' hb; go_simp) ?_
  refine h_take 7 (.pointer (some ⟨w.heap.size, 3, none⟩)) rfl (by kernel_rfl) (by kernel_rfl) (by kernel_rfl) (fun _ _ _ h => h) (by kernel_rfl) hS (by intro w' hb; go_simp) ?_
  refine h_take 8 (.int .i64 c2.e) rfl (by kernel_rfl) (by kernel_rfl) (by kernel_rfl) (fun _ _ _ h => h) (by kernel_rfl) hS (by intro w' hb; have c3 := (HG.out w' hb).2.2.2; go_simp) ?_
  refine h_one 5 rfl (by kernel_rfl) (by kernel_rfl) (fun K hK => ?_)
  go_simp
  refine Calls.mono (err_any B b c2 _ (hS.cur HST.out)) ?_
  rintro e w9 ⟨rfl, rfl⟩
  refine hK _ _ hS ?_
  clear hK K
  refine h_take 9 (.bool true) rfl (by kernel_rfl) (by kernel_rfl) (by kernel_rfl) (fun _ _ _ h => h) (by kernel_rfl) hS (by intro w' hb; go_simp) ?_
  refine h_take 10 (.bool true) rfl (by kernel_rfl) (by kernel_rfl) (by kernel_rfl) (fun _ _ _ h => h) (by kernel_rfl) hS (fun _ _ => by kernel_rfl) ?_
  refine h_take 11 (.bool true) rfl (by kernel_rfl) (by kernel_rfl) (by kernel_rfl) (fun _ _ _ h => h) (by kernel_rfl) hS (fun _ _ => by kernel_rfl) ?_
  refine h_take 12 (.pointer (some ⟨w.heap.size, 0, none⟩)) rfl (by kernel_rfl) (by kernel_rfl) (by kernel_rfl) (fun _ _ _ h => h) (by kernel_rfl) hS (by intro w' hb; go_simp) ?_
  refine h_take 13 (.pointer (some ⟨b, 0, none⟩)) rfl (by kernel_rfl) (by kernel_rfl) (by kernel_rfl) (fun _ _ _ h => h) (by kernel_rfl) hS (by intro w' hb; have c0 := (HG.out w' hb).1; go_simp) ?_
  refine h_take 15 (.pointer (some ⟨w.heap.size, 1, none⟩)) rfl (by kernel_rfl) (by kernel_rfl) (by kernel_rfl) (fun _ _ _ h => h) (by kernel_rfl) hS (by intro w' hb; go_simp) ?_
  refine h_take 16 (.pointer (some ⟨w.heap.size, 2, none⟩)) rfl (by kernel_rfl) (by kernel_rfl) (by kernel_rfl) (fun _ _ _ h => h) (by kernel_rfl) hS (by intro w' hb; go_simp) ?_
  refine h_take 17 (.int .i64 (c2.at_ : Int)) rfl (by kernel_rfl) (by kernel_rfl) (by kernel_rfl) (fun _ _ _ h => h) (by kernel_rfl) hS (by intro w' hb; have c2 := (HG.out w' hb).2.2.1; go_simp) ?_
  refine h_one 14 rfl (by kernel_rfl) (by kernel_rfl) (fun K hK => ?_)
  go_simp
  refine Calls.mono (at_any B b c2 _ (hS.cur HST.out)) ?_
  rintro e w9 ⟨rfl, rfl⟩
  refine hK _ _ hS ?_
  clear hK K
  refine h_take 18 (.bool true) rfl (by kernel_rfl) (by kernel_rfl) (by kernel_rfl) (fun _ _ _ h => h) (by kernel_rfl) hS (by intro w' hb; go_simp) ?_
  refine h_take 19 (.bool true) rfl (by kernel_rfl) (by kernel_rfl) (by kernel_rfl) (fun _ _ _ h => h) (by kernel_rfl) hS (fun _ _ => by kernel_rfl) ?_
  refine h_take 20 (.bool true) rfl (by kernel_rfl) (by kernel_rfl) (by kernel_rfl) (fun _ _ _ h => h) (by kernel_rfl) hS (fun _ _ => by kernel_rfl) ?_
  refine h_take 21 (.pointer (some ⟨w.heap.size, 0, none⟩)) rfl (by kernel_rfl) (by kernel_rfl) (by kernel_rfl) (fun _ _ _ h => h) (by kernel_rfl) hS (by intro w' hb; go_simp) ?_
  refine h_take 22 (.pointer (some ⟨b, 0, none⟩)) rfl (by kernel_rfl) (by kernel_rfl) (by kernel_rfl) (fun _ _ _ h => h) (by kernel_rfl) hS (by intro w' hb; have c0 := (HG.out w' hb).1; go_simp) ?_
  refine h_take 24 (.pointer (some ⟨w.heap.size, 1, none⟩)) rfl (by kernel_rfl) (by kernel_rfl) (by kernel_rfl) (fun _ _ _ h => h) (by kernel_rfl) hS (by intro w' hb; go_simp) ?_
  refine h_take 25 (.pointer (some ⟨w.heap.size, 1, none⟩)) rfl (by kernel_rfl) (by kernel_rfl) (by kernel_rfl) (fun _ _ _ h => h) (by kernel_rfl) hS (by intro w' hb; go_simp) ?_
  refine h_take 26 (.string (tx c2.bs)) rfl (by kernel_rfl) (by kernel_rfl) (by kernel_rfl) (fun _ _ _ h => h) (by kernel_rfl) hS (by intro w' hb; have c1 := (HG.out w' hb).2.1; go_simp) ?_
  refine h_take 27 (.int .i64 (c2.bs.length : Int)) rfl (by kernel_rfl) (by kernel_rfl) (by kernel_rfl) (fun _ _ _ h => h) (by kernel_rfl) hS (by intro w' hb; have hz := HSZ.out; go_simp) ?_
  refine h_take 28 (.pointer (some ⟨w.heap.size, 1, none⟩)) rfl (by kernel_rfl) (by kernel_rfl) (by kernel_rfl) (fun _ _ _ h => h) (by kernel_rfl) hS (by intro w' hb; go_simp) ?_
  refine h_take 29 (.pointer (some ⟨w.heap.size, 2, none⟩)) rfl (by kernel_rfl) (by kernel_rfl) (by kernel_rfl) (fun _ _ _ h => h) (by kernel_rfl) hS (by intro w' hb; go_simp) ?_
  refine h_take 30 (.int .i64 (c2.at_ : Int)) rfl (by kernel_rfl) (by kernel_rfl) (by kernel_rfl) (fun _ _ _ h => h) (by kernel_rfl) hS (by intro w' hb; have c2 := (HG.out w' hb).2.2.1; go_simp) ?_
  refine h_take 31 (.int .i64 ((c2.bs.length - c2.at_ : Nat) : Int)) rfl (by kernel_rfl) (by kernel_rfl) (by kernel_rfl) (fun _ _ _ h => h) (by kernel_rfl) hS (by intro w' hb; have hz := HSUB.out; go_simp) ?_
  refine h_one 23 rfl (by kernel_rfl) (by kernel_rfl) (fun K hK => ?_)
  go_simp
  refine Calls.mono (left_any B b c2 _ (hS.cur HST.out)) ?_
  rintro e w9 ⟨rfl, hb9⟩
  have hS9 := hS.below hb9
  refine hK _ _ hS9 ?_
  clear hK K
  refine h_take 32 (.bool true) rfl (by kernel_rfl) (by kernel_rfl) (by kernel_rfl) (fun _ _ _ h => h) (by kernel_rfl) hS9 (by intro w' hb; go_simp) ?_
  refine h_take 33 (.bool true) rfl (by kernel_rfl) (by kernel_rfl) (by kernel_rfl) (fun _ _ _ h => h) (by kernel_rfl) hS9 (fun _ _ => by kernel_rfl) ?_
  obtain ⟨p9, s9, x9, e9, h9⟩ := hS9.2
  refine h_one 34 rfl (by kernel_rfl) (by kernel_rfl) (fun K hK => ?_)
  refine wp_store_row 31 _ _ rfl (w.heap.size + 2) #[.pointer (some ⟨b, 0, none⟩), .string (tx c2.bs), .int .i64 (c2.at_ : Int), .int .i64 c2.e] rfl rfl 31 #[p9, s9, x9, e9] h9 (by kernel_rfl) rfl (by simp [Value.oneCell']) ?_
  have hS10 := hS9.setRow (.pointer (some ⟨b, 0, none⟩)) (.string (tx c2.bs)) (.int .i64 (c2.at_ : Int)) (.int .i64 c2.e)
  refine hK _ _ hS10 ?_
  clear hK K
  refine h_take 35 (.bool true) rfl (by kernel_rfl) (by kernel_rfl) (by kernel_rfl) (fun _ _ _ h => h) (by kernel_rfl) hS10 (fun _ _ => by kernel_rfl) ?_
  refine wpAnyH_done (by kernel_rfl) ?_ _
  go_simp
  (try go_wp2)
  (try simp only [Exit.inBlock, Exit.then])
  refine bodyPost_ret (results_cell_tmp_row Try.results9 _ _ (w.heap.size + 2) _ _ (0, 0) _ rfl (setRow_heap _ _ _ _ _ _ h9) Try.underlying31 rfl (by kernel_rfl)) rfl ?_
  exact ⟨rfl, hS10.cur HST.out, HST.out.only.next (hS10.1.below (by omega) (by have := HST.out.size; omega))⟩

end Go.Proofs.Ytkpgnpiofhgcpaa
