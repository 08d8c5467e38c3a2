/- graph.Check. -/
import Derived.Test.YtpjmkinloldmjaaXi
namespace Go.Proofs.Ytpjmkinloldmjaa
open Go.RowKit Go.Sort

set_option maxRecDepth 100000 in
set_option maxHeartbeats 1000000 in
theorem check_any (A : Option Addr) (n c : Nat) (xs : List Nw) (hn : n ≤ 1000000) (hok : NOk xs) (w : World) (h : Nodes w w.heap.size A n xs) :
    Calls Try.prog 11 #[.slice A n c] w fun e w' => e = .returned (.int .i64 (chk (nds xs))) ∧ Below w.heap.size w w' := by
  have HO := Lib.hid (order_any A n c xs hn hok w h)
  obtain ⟨z, hz⟩ : ∃ z, z = chk (nds xs) := ⟨_, rfl⟩
  rw [← hz] at HO ⊢
  clear h hok hz
  go_enter Try.func11, Try.ntmps11
  go_wp2_with (go_at_call 9; refine HO.out.mono ?_; rintro e w2 ⟨⟨v, rfl, _⟩, hb2⟩; have HB2 := Lib.hid hb2; clear hb2)
  go_ret
  exact ⟨rfl, HB2.out⟩

end Go.Proofs.Ytpjmkinloldmjaa
