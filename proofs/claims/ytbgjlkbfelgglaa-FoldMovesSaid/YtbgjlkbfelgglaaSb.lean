/- migrate: the steps, and what they do. -/
import Derived.Laws.EntriesVeiled
import Derived.Test.YtbgjlkbfelgglaaSa
import Derived.Test.YtbgjlkbfelgglaaRm
namespace Go.Proofs.Ytbgjlkbfelgglaa
open Go.RowKit

def stepsV : Array Value := #[.func (.func 45) #[] #[], .func (.func 46) #[] #[]]

set_option maxRecDepth 100000 in
set_option maxHeartbeats 400000 in
theorem steps_any (w : World) : Calls Try.prog 40 #[] w fun e w' => e = .returned (.agg stepsV) ∧ Below w.heap.size w w' := by
  have h0 := one_new w (.cells #[.nilFunc, .nilFunc] 69)
  have HB := Lib.hid ((Below.refl w.heap.size w).alloc (Nat.le_refl _) (.cells #[.nilFunc, .nilFunc] 69))
  have f0 := at_cell (i := 0) h0 rfl
  have f1 := at_cell (i := 1) h0 rfl
  have z0 := at_frozen (i := 0) h0
  have z1 := at_frozen (i := 1) h0
  clear h0 HB
  have H1 := Lib.hid (one_new w (.cells stepsV 69))
  have HB1 := Lib.hid ((Below.refl w.heap.size w).alloc (Nat.le_refl _) (.cells stepsV 69))
  go_enter Try.func40, Try.ntmps40
  go_wp2
  refine bodyPost_ret (results_cell_row rfl _ _ _ _ _ _ _ rfl H1.out Try.underlying69 rfl (by kernel_rfl)) rfl ?_
  exact ⟨rfl, HB1.out⟩

set_option maxRecDepth 100000 in
set_option maxHeartbeats 400000 in
theorem step1_any (b : Nat) (cs : Array Value) (w : World) (h : w.heap[b]? = some (.cells cs 26 (0, 0))) (u : Value) (hu : cs[5]? = some u) :
    Calls Try.prog 45 #[.pointer (some ⟨b, 0, none⟩)] w fun e w' => e = .returned (.tuple #[]) ∧ w' = w.setCell ⟨b, 5, none⟩ (.int .u64 1) := by
  have f5 := at_cell (i := 5) h hu
  have z5 := at_frozen (i := 5) h
  go_enter Try.func45, Try.ntmps45
  go_wp2
  go_end0
  exact ⟨rfl, rfl⟩

set_option maxRecDepth 100000 in
set_option maxHeartbeats 400000 in
theorem step2_any (b : Nat) (cs : Array Value) (w : World) (h : w.heap[b]? = some (.cells cs 26 (0, 0))) (u : Value) (hu : cs[6]? = some u) :
    Calls Try.prog 46 #[.pointer (some ⟨b, 0, none⟩)] w fun e w' => e = .returned (.tuple #[]) ∧ w' = w.setCell ⟨b, 6, none⟩ (.string (tx [111, 108, 100])) := by
  have f6 := at_cell (i := 6) h hu
  have z6 := at_frozen (i := 6) h
  go_enter Try.func46, Try.ntmps46
  go_wp2
  go_end0
  exact ⟨rfl, rfl⟩

end Go.Proofs.Ytbgjlkbfelgglaa
