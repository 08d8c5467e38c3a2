/- Slices of slices of bytes, of whatever length. -/
import Derived.Test.YtoanmbhnhofoiaaDoorK2
namespace Go.Proofs.YtoanmbhnhofoiaaDoor
open Go.RowKit

/-- A row of bytes of whatever length; and a row of such rows. -/
def WRow (w : World) (B : Nat) (v : Value) (bs : List UInt8) : Prop := ∃ A n c, v = .slice A n c ∧ n ≤ c ∧ Reads w B 1 A n (bs.map bv)
def WRows (w : World) (B : Nat) (vs : List Value) (ps : List (List UInt8)) : Prop := vs.length = ps.length ∧ ∀ (i : Nat) (v : Value), vs[i]? = some v → ∃ bs : List UInt8, ps[i]? = some bs ∧ WRow w B v bs
theorem WRow.below {w w' : World} {B : Nat} {v : Value} {bs : List UInt8} (h : WRow w B v bs) (hb : Below B w w') : WRow w' B v bs := by
  obtain ⟨A, n, c, h1, h2, h3⟩ := h
  exact ⟨A, n, c, h1, h2, h3.below hb⟩
theorem WRows.below {w w' : World} {B : Nat} {vs : List Value} {ps : List (List UInt8)} (h : WRows w B vs ps) (hb : Below B w w') : WRows w' B vs ps :=
  ⟨h.1, fun i v hv => by
    obtain ⟨bs, h1, h2⟩ := h.2 i v hv
    exact ⟨bs, h1, h2.below hb⟩⟩

end Go.Proofs.YtoanmbhnhofoiaaDoor
