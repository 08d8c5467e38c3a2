/- record.Same: two records. -/
import Derived.Test.YtgioknppnfencaaDoorRf
import Derived.Test.YtgioknppnfencaaDoorRa
import Derived.Test.YtgioknppnfencaaDoorH
import Derived.Test.YtgioknppnfencaaDoorMw
namespace Go.Proofs.YtgioknppnfencaaDoor
open Go.RowKit

theorem guard_rest (r1 r2 : Rc) (x y : Operand) (w : World) : (eqGuard .neq 91 x y (restv r1) (restv r2)).run Tryd.prog w = .ok () w := by
  unfold restv
  exact run_eqGuard_agg w .neq _ x y _ _ (by kernel_rfl)
theorem guard_dep (r1 r2 : Dp) (x y : Operand) (w : World) : (eqGuard .neq 56 x y r1.val r2.val).run Tryd.prog w = .ok () w := by
  unfold Dp.val
  exact run_eqGuard_agg w .neq _ x y _ _ (by kernel_rfl)

set_option maxRecDepth 100000 in
set_option maxHeartbeats 1000000 in
theorem same_rests (r1 r2 : Rc) (A B : Option Addr) (n1 n2 c d : Nat) (h : r1 ≠ r2) (w : World) :
    Calls Tryd.prog 49 #[rcv r1 A n1 c, rcv r2 B n2 d] w fun e w' => e = .returned (.bool false) ∧ Below w.heap.size w w' := by
  unfold rcv rsv
  obtain ⟨ha0, ha1, hsz⟩ := two_new w (.cells #[.int .i64 r1.kind, .string (tx r1.target), .int .u64 r1.rule, .slice A n1 c, .int .u64 r1.out, .int .u64 r1.time, .string (tx r1.tag)] 35) (.cells #[.int .i64 r2.kind, .string (tx r2.target), .int .u64 r2.rule, .slice B n2 d, .int .u64 r2.out, .int .u64 r2.time, .string (tx r2.tag)] 35)
  have HB := Lib.hid (((Below.refl w.heap.size w).alloc (Nat.le_refl _) (.cells #[.int .i64 r1.kind, .string (tx r1.target), .int .u64 r1.rule, .slice A n1 c, .int .u64 r1.out, .int .u64 r1.time, .string (tx r1.tag)] 35)).alloc (by simp) (.cells #[.int .i64 r2.kind, .string (tx r2.target), .int .u64 r2.rule, .slice B n2 d, .int .u64 r2.out, .int .u64 r2.time, .string (tx r2.tag)] 35))
  have HA0 := Lib.hid ha0
  have HA1 := Lib.hid ha1
  have HSZ := Lib.hid hsz
  clear ha0 ha1 hsz
  have hneq : ∀ v : World, (binOp .neq 91 (restv r1) (restv r2)).run Tryd.prog v = .ok (.bool true) v := fun v => by
    obtain ⟨q, h1, h2⟩ := rest_neq r1 r2 v
    rw [h2, show q = true from by rw [h1]; exact h]
  go_enter Tryd.func49, Tryd.ntmps49
  go_wp2_with fail
  generalize hW : (World.alloc (World.alloc w _) _) = W0 at *
  have ha0 := HA0.out
  have ha1 := HA1.out
  have hsz := HSZ.out
  refine wp_region_held (S := fun v => Below (w.heap.size + 2) W0 v) (by kernel_rfl) ?_
  have hS : Below (w.heap.size + 2) W0 W0.drew := (Below.refl _ W0).drew
  refine h_take 0 (rcv r1 A n1 c) rfl (by kernel_rfl) (by kernel_rfl) (by kernel_rfl) (fun _ _ _ h => h) (by kernel_rfl) hS (by intro v hv; have q0 := (hv.cell (p := ⟨w.heap.size, 0, none⟩) (show w.heap.size < w.heap.size + 2 by omega)).trans (at_cell (i := 0) ha0 rfl); have q1 := (hv.cell (p := ⟨w.heap.size, 1, none⟩) (show w.heap.size < w.heap.size + 2 by omega)).trans (at_cell (i := 1) ha0 rfl); have q2 := (hv.cell (p := ⟨w.heap.size, 2, none⟩) (show w.heap.size < w.heap.size + 2 by omega)).trans (at_cell (i := 2) ha0 rfl); have q3 := (hv.cell (p := ⟨w.heap.size, 3, none⟩) (show w.heap.size < w.heap.size + 2 by omega)).trans (at_cell (i := 3) ha0 rfl); have q4 := (hv.cell (p := ⟨w.heap.size, 4, none⟩) (show w.heap.size < w.heap.size + 2 by omega)).trans (at_cell (i := 4) ha0 rfl); have q5 := (hv.cell (p := ⟨w.heap.size, 5, none⟩) (show w.heap.size < w.heap.size + 2 by omega)).trans (at_cell (i := 5) ha0 rfl); have q6 := (hv.cell (p := ⟨w.heap.size, 6, none⟩) (show w.heap.size < w.heap.size + 2 by omega)).trans (at_cell (i := 6) ha0 rfl); go_simp; rfl) ?_
  refine h_take 2 (rcv r2 B n2 d) rfl (by kernel_rfl) (by kernel_rfl) (by kernel_rfl) (fun _ _ _ h => h) (by kernel_rfl) hS (by intro v hv; have q0 := (hv.cell (p := ⟨w.heap.size + 1, 0, none⟩) (show w.heap.size + 1 < w.heap.size + 2 by omega)).trans (at_cell (i := 0) ha1 rfl); have q1 := (hv.cell (p := ⟨w.heap.size + 1, 1, none⟩) (show w.heap.size + 1 < w.heap.size + 2 by omega)).trans (at_cell (i := 1) ha1 rfl); have q2 := (hv.cell (p := ⟨w.heap.size + 1, 2, none⟩) (show w.heap.size + 1 < w.heap.size + 2 by omega)).trans (at_cell (i := 2) ha1 rfl); have q3 := (hv.cell (p := ⟨w.heap.size + 1, 3, none⟩) (show w.heap.size + 1 < w.heap.size + 2 by omega)).trans (at_cell (i := 3) ha1 rfl); have q4 := (hv.cell (p := ⟨w.heap.size + 1, 4, none⟩) (show w.heap.size + 1 < w.heap.size + 2 by omega)).trans (at_cell (i := 4) ha1 rfl); have q5 := (hv.cell (p := ⟨w.heap.size + 1, 5, none⟩) (show w.heap.size + 1 < w.heap.size + 2 by omega)).trans (at_cell (i := 5) ha1 rfl); have q6 := (hv.cell (p := ⟨w.heap.size + 1, 6, none⟩) (show w.heap.size + 1 < w.heap.size + 2 by omega)).trans (at_cell (i := 6) ha1 rfl); go_simp; rfl) ?_
  refine h_one 1 rfl (by kernel_rfl) (by kernel_rfl) (fun K hK => ?_)
  go_simp
  refine (rest_any r1 A n1 c _).mono ?_
  rintro e w2 ⟨rfl, hb2⟩
  have hS2 : Below (w.heap.size + 2) W0 w2 := hS.trans (hb2.mono (by have := hS.size; omega))
  refine hK _ _ hS2 ?_
  clear hK K
  refine h_one 3 rfl (by kernel_rfl) (by kernel_rfl) (fun K hK => ?_)
  go_simp
  refine (rest_any r2 B n2 d _).mono ?_
  rintro e w3 ⟨rfl, hb3⟩
  have hS3 : Below (w.heap.size + 2) W0 w3 := hS2.trans (hb3.mono (by have := hS2.size; omega))
  refine hK _ _ hS3 ?_
  clear hK K
  refine h_take 4 (.bool true) rfl (by kernel_rfl) (by kernel_rfl) (by kernel_rfl) (fun _ _ _ h => h) (by kernel_rfl) hS3 (by intro v hv; have q := hneq v; have g := guard_rest r1 r2 (.tmp 8) (.tmp 10) v; go_simp) ?_
  refine h_take 5 (.bool true) rfl (by kernel_rfl) (by kernel_rfl) (by kernel_rfl) (fun _ _ _ h => h) (by kernel_rfl) hS3 (fun _ _ => by kernel_rfl) ?_
  refine h_skip 6 rfl (by kernel_rfl) (by kernel_rfl) (by kernel_rfl) (fun _ _ _ h => h) (by kernel_rfl) hS3 ?_
  refine h_skip 7 rfl (by kernel_rfl) (by kernel_rfl) (by kernel_rfl) (fun _ _ _ h => h) (by kernel_rfl) hS3 ?_
  refine h_skip 8 rfl (by kernel_rfl) (by kernel_rfl) (by kernel_rfl) (fun _ _ _ h => h) (by kernel_rfl) hS3 ?_
  refine h_skip 9 rfl (by kernel_rfl) (by kernel_rfl) (by kernel_rfl) (fun _ _ _ h => h) (by kernel_rfl) hS3 ?_
  refine h_skip 10 rfl (by kernel_rfl) (by kernel_rfl) (by kernel_rfl) (fun _ _ _ h => h) (by kernel_rfl) hS3 ?_
  refine h_skip 11 rfl (by kernel_rfl) (by kernel_rfl) (by kernel_rfl) (fun _ _ _ h => h) (by kernel_rfl) hS3 ?_
  refine h_skip 12 rfl (by kernel_rfl) (by kernel_rfl) (by kernel_rfl) (fun _ _ _ h => h) (by kernel_rfl) hS3 ?_
  refine h_take 13 (.bool true) rfl (by kernel_rfl) (by kernel_rfl) (by kernel_rfl) (fun _ _ _ h => h) (by kernel_rfl) hS3 (fun _ _ => by kernel_rfl) ?_
  refine wpAnyH_done (by kernel_rfl) ?_ _
  go_simp
  go_wp2
  go_ret
  exact ⟨rfl, HB.out.trans (hS3.mono (by omega))⟩

set_option maxRecDepth 100000 in
set_option maxHeartbeats 1000000 in
theorem same_lens (r : Rc) (A B : Option Addr) (n1 n2 c d : Nat) (hn : n1 ≠ n2) (w : World) :
    Calls Tryd.prog 49 #[rcv r A n1 c, rcv r B n2 d] w fun e w' => e = .returned (.bool false) ∧ Below w.heap.size w w' := by
  unfold rcv rsv
  obtain ⟨ha0, ha1, hsz⟩ := two_new w (.cells #[.int .i64 r.kind, .string (tx r.target), .int .u64 r.rule, .slice A n1 c, .int .u64 r.out, .int .u64 r.time, .string (tx r.tag)] 35) (.cells #[.int .i64 r.kind, .string (tx r.target), .int .u64 r.rule, .slice B n2 d, .int .u64 r.out, .int .u64 r.time, .string (tx r.tag)] 35)
  have HB := Lib.hid (((Below.refl w.heap.size w).alloc (Nat.le_refl _) (.cells #[.int .i64 r.kind, .string (tx r.target), .int .u64 r.rule, .slice A n1 c, .int .u64 r.out, .int .u64 r.time, .string (tx r.tag)] 35)).alloc (by simp) (.cells #[.int .i64 r.kind, .string (tx r.target), .int .u64 r.rule, .slice B n2 d, .int .u64 r.out, .int .u64 r.time, .string (tx r.tag)] 35))
  have HA0 := Lib.hid ha0
  have HA1 := Lib.hid ha1
  have HSZ := Lib.hid hsz
  clear ha0 ha1 hsz
  have hneq : ∀ v : World, (binOp .neq 91 (restv r) (restv r)).run Tryd.prog v = .ok (.bool false) v := fun v => by
    obtain ⟨q, h1, h2⟩ := rest_neq r r v
    rw [h2, show q = false from by rw [← Bool.not_eq_true, h1]; simp]
  have hn2 : decide ((n1 : Int) = (n2 : Int)) = false := by rw [decide_eq_false_iff_not]; omega
  have hn3 : ((n1 : Int) == (n2 : Int)) = false := by rw [beq_eq_false_iff_ne]; omega
  have hn4 : ((n1 : Int) != (n2 : Int)) = true := by rw [bne_iff_ne]; omega
  go_enter Tryd.func49, Tryd.ntmps49
  go_wp2_with fail
  generalize hW : (World.alloc (World.alloc w _) _) = W0 at *
  have ha0 := HA0.out
  have ha1 := HA1.out
  have hsz := HSZ.out
  refine wp_region_held (S := fun v => Below (w.heap.size + 2) W0 v) (by kernel_rfl) ?_
  have hS : Below (w.heap.size + 2) W0 W0.drew := (Below.refl _ W0).drew
  refine h_take 0 (rcv r A n1 c) rfl (by kernel_rfl) (by kernel_rfl) (by kernel_rfl) (fun _ _ _ h => h) (by kernel_rfl) hS (by intro v hv; have q0 := (hv.cell (p := ⟨w.heap.size, 0, none⟩) (show w.heap.size < w.heap.size + 2 by omega)).trans (at_cell (i := 0) ha0 rfl); have q1 := (hv.cell (p := ⟨w.heap.size, 1, none⟩) (show w.heap.size < w.heap.size + 2 by omega)).trans (at_cell (i := 1) ha0 rfl); have q2 := (hv.cell (p := ⟨w.heap.size, 2, none⟩) (show w.heap.size < w.heap.size + 2 by omega)).trans (at_cell (i := 2) ha0 rfl); have q3 := (hv.cell (p := ⟨w.heap.size, 3, none⟩) (show w.heap.size < w.heap.size + 2 by omega)).trans (at_cell (i := 3) ha0 rfl); have q4 := (hv.cell (p := ⟨w.heap.size, 4, none⟩) (show w.heap.size < w.heap.size + 2 by omega)).trans (at_cell (i := 4) ha0 rfl); have q5 := (hv.cell (p := ⟨w.heap.size, 5, none⟩) (show w.heap.size < w.heap.size + 2 by omega)).trans (at_cell (i := 5) ha0 rfl); have q6 := (hv.cell (p := ⟨w.heap.size, 6, none⟩) (show w.heap.size < w.heap.size + 2 by omega)).trans (at_cell (i := 6) ha0 rfl); go_simp; rfl) ?_
  refine h_take 2 (rcv r B n2 d) rfl (by kernel_rfl) (by kernel_rfl) (by kernel_rfl) (fun _ _ _ h => h) (by kernel_rfl) hS (by intro v hv; have q0 := (hv.cell (p := ⟨w.heap.size + 1, 0, none⟩) (show w.heap.size + 1 < w.heap.size + 2 by omega)).trans (at_cell (i := 0) ha1 rfl); have q1 := (hv.cell (p := ⟨w.heap.size + 1, 1, none⟩) (show w.heap.size + 1 < w.heap.size + 2 by omega)).trans (at_cell (i := 1) ha1 rfl); have q2 := (hv.cell (p := ⟨w.heap.size + 1, 2, none⟩) (show w.heap.size + 1 < w.heap.size + 2 by omega)).trans (at_cell (i := 2) ha1 rfl); have q3 := (hv.cell (p := ⟨w.heap.size + 1, 3, none⟩) (show w.heap.size + 1 < w.heap.size + 2 by omega)).trans (at_cell (i := 3) ha1 rfl); have q4 := (hv.cell (p := ⟨w.heap.size + 1, 4, none⟩) (show w.heap.size + 1 < w.heap.size + 2 by omega)).trans (at_cell (i := 4) ha1 rfl); have q5 := (hv.cell (p := ⟨w.heap.size + 1, 5, none⟩) (show w.heap.size + 1 < w.heap.size + 2 by omega)).trans (at_cell (i := 5) ha1 rfl); have q6 := (hv.cell (p := ⟨w.heap.size + 1, 6, none⟩) (show w.heap.size + 1 < w.heap.size + 2 by omega)).trans (at_cell (i := 6) ha1 rfl); go_simp; rfl) ?_
  refine h_one 1 rfl (by kernel_rfl) (by kernel_rfl) (fun K hK => ?_)
  go_simp
  refine (rest_any r A n1 c _).mono ?_
  rintro e w2 ⟨rfl, hb2⟩
  have hS2 : Below (w.heap.size + 2) W0 w2 := hS.trans (hb2.mono (by have := hS.size; omega))
  refine hK _ _ hS2 ?_
  clear hK K
  refine h_one 3 rfl (by kernel_rfl) (by kernel_rfl) (fun K hK => ?_)
  go_simp
  refine (rest_any r B n2 d _).mono ?_
  rintro e w3 ⟨rfl, hb3⟩
  have hS3 : Below (w.heap.size + 2) W0 w3 := hS2.trans (hb3.mono (by have := hS2.size; omega))
  refine hK _ _ hS3 ?_
  clear hK K
  refine h_take 4 (.bool false) rfl (by kernel_rfl) (by kernel_rfl) (by kernel_rfl) (fun _ _ _ h => h) (by kernel_rfl) hS3 (by intro v hv; have q := hneq v; have g := guard_rest r r (.tmp 8) (.tmp 10) v; go_simp) ?_
  refine h_take 5 (.bool false) rfl (by kernel_rfl) (by kernel_rfl) (by kernel_rfl) (fun _ _ _ h => h) (by kernel_rfl) hS3 (fun _ _ => by kernel_rfl) ?_
  refine h_take 6 (.pointer (some ⟨w.heap.size, 3, none⟩)) rfl (by kernel_rfl) (by kernel_rfl) (by kernel_rfl) (fun _ _ _ h => h) (by kernel_rfl) hS3 (fun _ _ => by kernel_rfl) ?_
  refine h_take 7 (.slice A n1 c) rfl (by kernel_rfl) (by kernel_rfl) (by kernel_rfl) (fun _ _ _ h => h) (by kernel_rfl) hS3 (by intro v hv; have q3 := (hv.cell (p := ⟨w.heap.size, 3, none⟩) (show w.heap.size < w.heap.size + 2 by omega)).trans (at_cell (i := 3) ha0 rfl); go_simp) ?_
  refine h_take 8 (.int .i64 (n1 : Int)) rfl (by kernel_rfl) (by kernel_rfl) (by kernel_rfl) (fun _ _ _ h => h) (by kernel_rfl) hS3 (by intro v hv; go_simp) ?_
  refine h_take 9 (.pointer (some ⟨w.heap.size + 1, 3, none⟩)) rfl (by kernel_rfl) (by kernel_rfl) (by kernel_rfl) (fun _ _ _ h => h) (by kernel_rfl) hS3 (fun _ _ => by kernel_rfl) ?_
  refine h_take 10 (.slice B n2 d) rfl (by kernel_rfl) (by kernel_rfl) (by kernel_rfl) (fun _ _ _ h => h) (by kernel_rfl) hS3 (by intro v hv; have q3 := (hv.cell (p := ⟨w.heap.size + 1, 3, none⟩) (show w.heap.size + 1 < w.heap.size + 2 by omega)).trans (at_cell (i := 3) ha1 rfl); go_simp) ?_
  refine h_take 11 (.int .i64 (n2 : Int)) rfl (by kernel_rfl) (by kernel_rfl) (by kernel_rfl) (fun _ _ _ h => h) (by kernel_rfl) hS3 (by intro v hv; go_simp) ?_
  refine h_take 12 (.bool true) rfl (by kernel_rfl) (by kernel_rfl) (by kernel_rfl) (fun _ _ _ h => h) (by kernel_rfl) hS3 (by intro v hv; go_simp) ?_
  refine h_take 13 (.bool true) rfl (by kernel_rfl) (by kernel_rfl) (by kernel_rfl) (fun _ _ _ h => h) (by kernel_rfl) hS3 (fun _ _ => by kernel_rfl) ?_
  refine wpAnyH_done (by kernel_rfl) ?_ _
  go_simp
  go_wp2
  go_ret
  exact ⟨rfl, HB.out.trans (hS3.mono (by omega))⟩

end Go.Proofs.YtgioknppnfencaaDoor
