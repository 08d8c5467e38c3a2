/- The walks of the document's own answers: Put of tephraref02. -/
import Derived.Test.YtoanmbhnhofoiaaDoorQ
import Derived.Test.YtoanmbhnhofoiaaDoorBc
namespace Go.Proofs.YtoanmbhnhofoiaaDoor
open Go.RowKit Go.Shelf

set_option maxRecDepth 100000 in
set_option maxHeartbeats 400000 in
theorem rbput_any (t : List UInt8) (hbig : t.length ≤ 1073741824) (w : World) :
    Calls Tryd.prog 30 #[.string (tx t)] w fun e w' => e = .returned (.string (tx (blob t))) ∧ Below w.heap.size w w' := by
  obtain ⟨k, hk⟩ : ∃ k, k = t.length := ⟨_, rfl⟩
  have hv := vb_len k (by unfold top; omega)
  have hadd : ∀ W : World, (Op.stringOp .add (tx (vb k)) (tx t)).run Tryd.prog W = .ok (.string (tx (blob t))) W := fun W => by
    rw [blob, ← hk]
    exact add_tx W (vb k) t (by omega)
  have hput : Hid (∀ W, Calls Tryd.prog 37 #[.int .u64 (k : Int)] W fun e w' => e = .returned (.string (tx (vb k))) ∧ Below W.heap.size W w') := fun W => refput_any k (by unfold top; omega) W
  have hsz : (tx t).size = k := by rw [tx_size, hk]
  have hw1 : IntKind.u64.wrap (k : Int) = (k : Int) := by rw [IntKind.wrap_u64]; omega
  clear hv hk
  go_enter Tryd.func30, Tryd.ntmps30
  go_wp2_with (go_at_call 37; refine (hput.out _).mono ?_; rintro e w' ⟨rfl, hb⟩)
  go_ret
  exact ⟨rfl, hb⟩

end Go.Proofs.YtoanmbhnhofoiaaDoor
