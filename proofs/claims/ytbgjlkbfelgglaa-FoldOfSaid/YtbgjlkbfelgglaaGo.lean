/- The example of fold. -/
import Derived.Test.YtbgjlkbfelgglaaGg
import Derived.Test.YtbgjlkbfelgglaaTc
namespace Go.Proofs.Ytbgjlkbfelgglaa
open Go.RowKit

theorem reads_new (w : World) (cs : List Value) (T : TypeId) (size n : Nat) (h : cs.length = n * size) : Reads (w.alloc (.cells cs.toArray T)) (w.heap.size + 1) size (some ⟨w.heap.size, 0, none⟩) n cs :=
  ⟨h, fun _ => ⟨_, rfl, by show w.heap.size < _; omega, fun j u hu => by
    rw [Addr.add_mid, Nat.zero_add]
    exact at_cell (one_new w _) (by simpa using hu)⟩⟩

def fx1 : Rw := ⟨⟨1, [97], 0, 0, 0, []⟩, none, 0, 0, []⟩
def fx2 : Rw := ⟨⟨1, [98], 0, 3, 0, []⟩, none, 0, 0, []⟩
def fx3 : Rw := ⟨⟨2, [97], 0, 0, 0, []⟩, none, 0, 0, []⟩
theorem fx_fo : fo Rw.k Rw.t [fx1, fx2, fx3] = [fx2] := by kernel_rfl
theorem fx_recs (w : World) : Recs (w.alloc (.cells (rws [fx1, fx2, fx3]).toArray 26)) (w.alloc (.cells (rws [fx1, fx2, fx3]).toArray 26)).heap.size (some ⟨w.heap.size, 0, none⟩) 3 [fx1, fx2, fx3] := by
  refine ⟨(reads_new w _ _ 7 3 rfl).more (by simp), fun x hx => ?_⟩
  simp only [List.mem_cons, List.not_mem_nil, or_false] at hx
  rcases hx with rfl | rfl | rfl <;> exact ⟨Reads.none_, fun _ => rfl⟩

set_option maxRecDepth 100000 in
set_option maxHeartbeats 1000000 in
theorem ffixed_any (w : World) : Calls Try.prog 9 #[] w fun e w' => e = .returned (.bool true) ∧ Below w.heap.size w w' := by
  have hq := fof_any (some ⟨w.heap.size, 0, none⟩) 3 3 [fx1, fx2, fx3] (by omega) (fun x hx => by simp only [List.mem_cons, List.not_mem_nil, or_false] at hx; rcases hx with rfl | rfl | rfl <;> exact ⟨by show _ ≤ maxLen; unfold maxLen; decide, by decide⟩) _ (fx_recs w)
  rw [fx_fo] at hq
  have HQ : Hid (Calls Try.prog 10 #[.slice (some ⟨w.heap.size, 0, none⟩) 3 3] (w.alloc (.cells (rws [fx1, fx2, fx3]).toArray 26)) fun e w' => ∃ g c', e = .returned (.slice (some ⟨g, 0, none⟩) 1 c') ∧ w'.cell? ⟨g, 1, none⟩ = some (.string { data := #[98] }) ∧ w'.cell? ⟨g, 4, none⟩ = some (.int .u64 3) ∧ Below w.heap.size w w') := by
    refine hq.mono fun e w' ⟨A', c', zs, he, hs, hst, hb⟩ => ?_
    obtain ⟨g, cap, hv⟩ := own_succ hst.1
    injection hv with e1 e2 e3
    subst e1 e3
    obtain ⟨z, rfl, hz⟩ : ∃ z, zs = [z] ∧ z.r = fx2.r := by
      match zs, hs with
      | [z], hs => exact ⟨z, rfl, (say_eq.1 (by simpa using hs)).1⟩
    refine ⟨g, c', he, ?_, ?_, ((Below.refl _ w).alloc (Nat.le_refl _) _).trans (hb.mono (by simp))⟩
    · refine own_cell hst.1 1 ?_
      show (rws [z])[1]? = _
      simp [rws, Rw.cells, hz]
      rfl
    · refine own_cell hst.1 4 ?_
      show (rws [z])[4]? = _
      simp [rws, Rw.cells, hz]
      rfl
  clear hq
  go_enter Try.func9, Try.ntmps9
  go_wp2_with fail
  refine HQ.out.mono ?_
  rintro e w2 ⟨g, c', rfl, h1, h4, hb⟩
  have HB := Lib.hid hb
  clear hb
  go_wp2
  go_ret
  exact ⟨rfl, HB.out⟩

end Go.Proofs.Ytbgjlkbfelgglaa
