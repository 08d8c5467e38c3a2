/- CursorPlays at whichever arguments. -/
import Derived.Test.YtkpgnpiofhgcpaaJt
import Derived.Test.YtkpgnpiofhgcpaaJu
namespace Go.Proofs.Ytkpgnpiofhgcpaa
open Go.RowKit

theorem plays_any (A L : Option Addr) (n cap m d : Nat) (at_ : Int) (bs : List UInt8) (ts : List Tk) (hA : A = none → cap = 0) (hfit : ∀ t ∈ ts, t.fits) (w : World) (hr : Reads w w.heap.size 1 A n (bs.map bv)) (hl : Reads w w.heap.size 3 L m (tks ts)) :
    Calls Try.prog 3 #[.slice A n cap, .int .i64 at_, .slice L m d] w fun e w' => e = .returned (.bool true) ∧ Below w.heap.size w w' := by
  by_cases h : 500 < n ∨ 40 < m
  · exact plays_long A L n cap m d _ h w
  · exact plays_short A L n cap m d at_ bs ts (by omega) hA (by omega) w hr hl (fun t ht B b c W hc => ⟨_, step_all B b c t (hfit t ht) W hc⟩)

end Go.Proofs.Ytkpgnpiofhgcpaa
