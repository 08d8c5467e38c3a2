/- record.restOf. -/
import Derived.Test.YtgioknppnfencaaDoorRa0
namespace Go.Proofs.YtgioknppnfencaaDoor
open Go.RowKit

set_option maxRecDepth 100000 in
set_option maxHeartbeats 400000 in
theorem rest_any (r : Rc) (A : Option Addr) (n c : Nat) (w : World) :
    Calls Tryd.prog 63 #[rcv r A n c] w fun e w' => e = .returned (restv r) ∧ Below w.heap.size w w' := by
  unfold rcv restv rsv
  have HB := Lib.hid (((Below.refl w.heap.size w).alloc (Nat.le_refl _) (.cells #[.int .i64 r.kind, .string (tx r.target), .int .u64 r.rule, .slice A n c, .int .u64 r.out, .int .u64 r.time, .string (tx r.tag)] 35)).alloc (by simp) (.cells #[.int .i64 r.kind, .string (tx r.target), .string (tx r.tag), .int .u64 r.rule, .int .u64 r.out, .int .u64 r.time] 91))
  go_enter Tryd.func63, Tryd.ntmps63
  go_wp2
  have hx : ∀ (a b : Obj), ((w.alloc a).alloc b).heap[w.heap.size + 1]? = some b := fun a b => by
    have h := @Array.getElem?_push_size _ (w.alloc a).heap b
    rwa [show (w.alloc a).heap.size = w.heap.size + 1 from Array.size_push _] at h
  refine bodyPost_ret (results_cell_row rfl _ _ _ _ _ _ _ rfl (hx _ _) Tryd.underlying91 rfl (by kernel_rfl)) rfl ?_
  exact ⟨rfl, HB.out⟩

end Go.Proofs.YtgioknppnfencaaDoor
