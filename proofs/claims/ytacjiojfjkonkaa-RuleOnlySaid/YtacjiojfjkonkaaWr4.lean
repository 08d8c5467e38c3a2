/- rule.made of a source. -/
import Derived.Laws.Tables
import Derived.Test.YtacjiojfjkonkaaWr3
import Derived.Test.YtacjiojfjkonkaaH3
namespace Go.Proofs.Ytacjiojfjkonkaa
open Go.RowKit

set_option maxRecDepth 100000 in
set_option maxHeartbeats 2000000 in
theorem made_src (nm : List UInt8) (ru : Int) (xA : Option Addr) (xn xc : Nat) (G : Option Addr) (gn gc : Nat) (gs : List Stp) (fv : Value) (hn : gn ≤ 1000000) (w : World) (h : Steps w w.heap.size G gn gs) :
    Calls Try.prog 20 #[.agg #[.string (tx nm), .bool true, .int .u64 ru, .slice xA xn xc], .slice G gn gc, fv] w fun e w' => e = .returned (.agg #[.string (tx nm), .bool false, qv (givN gs nm gn)]) ∧ Below w.heap.size w w' := by
  have HGV := Lib.hid (fun (W : World) (hb : Below w.heap.size w W) => given_any G gn gc gs nm hn W ((h.below hb).more hb.size))
  obtain ⟨z, hz⟩ : ∃ z : Int, qv (givN gs nm gn) = .int .u64 z := ⟨_, rfl⟩
  rw [hz] at HGV ⊢
  clear h hz
  have HT := Lib.hid (two_new w (.cells #[.string (tx nm), .bool true, .int .u64 ru, .slice xA xn xc] 37) (.cells #[.string { data := #[] }, .bool false, .int .u64 0] 44))
  have HB0 := Lib.hid (((Below.refl w.heap.size w).alloc (Nat.le_refl _) (.cells #[.string (tx nm), .bool true, .int .u64 ru, .slice xA xn xc] 37)).alloc (by simp) (.cells #[.string { data := #[] }, .bool false, .int .u64 0] 44))
  have p1 := at_cell (i := 1) HT.out.1 rfl
  go_enter Try.func20, Try.ntmps20
  go_wp2
  refine wp_region_held (S := fun v => v.heap[w.heap.size]? = some (.cells #[.string (tx nm), .bool true, .int .u64 ru, .slice xA xn xc] 37)) (by kernel_rfl) (show wpAnyH _ _ _ _ _ _ _ _ (((w.alloc (.cells #[.string (tx nm), .bool true, .int .u64 ru, .slice xA xn xc] 37)).alloc (.cells #[.string { data := #[] }, .bool false, .int .u64 0] 44)).drew) from ?_)
  have HS : Hid (((w.alloc (.cells #[.string (tx nm), .bool true, .int .u64 ru, .slice xA xn xc] 37)).alloc (.cells #[.string { data := #[] }, .bool false, .int .u64 0] 44)).drew.heap[w.heap.size]? = some (.cells #[.string (tx nm), .bool true, .int .u64 ru, .slice xA xn xc] 37)) := HT.out.1
  have HR : Hid (((w.alloc (.cells #[.string (tx nm), .bool true, .int .u64 ru, .slice xA xn xc] 37)).alloc (.cells #[.string { data := #[] }, .bool false, .int .u64 0] 44)).drew.heap[w.heap.size + 1]? = some (.cells #[.string { data := #[] }, .bool false, .int .u64 0] 44)) := HT.out.2.1
  have HB : Hid (Below w.heap.size w ((w.alloc (.cells #[.string (tx nm), .bool true, .int .u64 ru, .slice xA xn xc] 37)).alloc (.cells #[.string { data := #[] }, .bool false, .int .u64 0] 44)).drew) := HB0.out.drew
  clear HT HB0 p1
  generalize ((w.alloc (.cells #[.string (tx nm), .bool true, .int .u64 ru, .slice xA xn xc] 37)).alloc (.cells #[.string { data := #[] }, .bool false, .int .u64 0] 44)).drew = wq at HS HR HB ⊢
  refine h_take 0 (.pointer (some ⟨w.heap.size, 0, none⟩)) rfl (by kernel_rfl) (by kernel_rfl) (by kernel_rfl) (fun _ _ _ h => h) (by kernel_rfl) HS.out (fun _ _ => by kernel_rfl) ?_
  refine h_take 1 (.string (tx nm)) rfl (by kernel_rfl) (by kernel_rfl) (by kernel_rfl) (fun _ _ _ h => h) (by kernel_rfl) HS.out (by intro v hv; have c0 := at_cell (i := 0) hv rfl; go_simp) ?_
  refine h_take 2 (.slice G gn gc) rfl (by kernel_rfl) (by kernel_rfl) (by kernel_rfl) (fun _ _ _ h => h) (by kernel_rfl) HS.out (fun _ _ => by kernel_rfl) ?_
  refine h_take 3 (.pointer (some ⟨w.heap.size, 0, none⟩)) rfl (by kernel_rfl) (by kernel_rfl) (by kernel_rfl) (fun _ _ _ h => h) (by kernel_rfl) HS.out (fun _ _ => by kernel_rfl) ?_
  refine h_take 4 (.string (tx nm)) rfl (by kernel_rfl) (by kernel_rfl) (by kernel_rfl) (fun _ _ _ h => h) (by kernel_rfl) HS.out (by intro v hv; have c0 := at_cell (i := 0) hv rfl; go_simp) ?_
  refine h_one 5 rfl (by kernel_rfl) (by kernel_rfl) (fun K hK => ?_)
  go_simp
  refine (HGV.out _ HB.out).mono ?_
  rintro e wg ⟨rfl, rfl⟩
  refine hK _ _ HS.out ?_
  clear hK K
  refine h_take 6 (.agg #[.string (tx nm), .bool false, .int .u64 z]) rfl (by kernel_rfl) (by kernel_rfl) (by kernel_rfl) (fun _ _ _ h => h) (by kernel_rfl) HS.out (fun _ _ => by first | kernel_rfl | go_simp) ?_
  refine h_one 7 rfl (by kernel_rfl) (by kernel_rfl) (fun K hK => ?_)
  refine wp_store_row 44 (.tmp 6) (.tmp 18) rfl (w.heap.size + 1) #[.string (tx nm), .bool false, .int .u64 z] rfl rfl 44 _ HR.out (by kernel_rfl) rfl (by simp [Value.oneCell']) ?_
  have hs2 : (wq.setRow (w.heap.size + 1) #[.string (tx nm), .bool false, .int .u64 z]).heap[w.heap.size]? = some (.cells #[.string (tx nm), .bool true, .int .u64 ru, .slice xA xn xc] 37) := (setRow_other wq (w.heap.size + 1) w.heap.size _ (by omega)).trans HS.out
  have HFIN := Lib.hid (setRow_heap wq (w.heap.size + 1) _ #[.string (tx nm), .bool false, .int .u64 z] _ _ HR.out)
  have HBE := Lib.hid (HB.out.grown (grownBy_setRow wq (w.heap.size + 1) #[.string (tx nm), .bool false, .int .u64 z]) HB.out.size (fun j hj => by cases hj; omega))
  refine hK _ _ hs2 ?_
  clear hK K hs2 HS HR
  refine wpAnyH_done (by kernel_rfl) ?_ _
  go_simp
  go_wp2
  refine bodyPost_ret (results_cell_row rfl _ _ _ _ _ _ _ rfl HFIN.out Try.underlying44 rfl (by kernel_rfl)) rfl ?_
  exact ⟨rfl, HBE.out⟩

end Go.Proofs.Ytacjiojfjkonkaa
