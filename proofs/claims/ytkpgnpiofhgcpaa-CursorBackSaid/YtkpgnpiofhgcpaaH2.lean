/- A region that draws its order: from a place on a smaller class of worlds may be looked at. -/
import Derived.Test.YtkpgnpiofhgcpaaH
namespace Go.Proofs.Ytkpgnpiofhgcpaa
open Go.RowKit
variable {P : Program} {md : Region.Mode} {ops : Array Oper} {Q : Exit → Act → World → Prop}

theorem h_less {S S' : World → Prop} (hs : ∀ w, S' w → S w) : ∀ (fuel : Nat) (listed : Array Bool) (a : Act) (w : World), wpAnyH P md ops Q S' fuel listed a w → wpAnyH P md ops Q S fuel listed a w
  | 0, _, _, _, h => h
  | fuel + 1, _, _, _, h => ⟨h.1, fun i hi => wpOp_mono (fun a' w' h' => ⟨hs _ h'.1, h_less hs fuel _ a' w' h'.2⟩) (h.2 i hi)⟩

end Go.Proofs.Ytkpgnpiofhgcpaa
