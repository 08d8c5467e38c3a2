/- What is found, said at once. -/
import Derived.Test.YtbaokcigfgfoaaaGm
namespace Go.Proofs.Ytbaokcigfgfoaaa
open Go.RowKit

def zeroR : Rc := ⟨0, [], 0, 0, 0, []⟩
/-- What is found, said at once. -/
def FAns (xs : List Rw) (u : List UInt8) (r : Rc) (l : List Dp) (b : Bool) : Prop :=
  b = (lastOf xs u).isSome ∧ (r, l) = match lastOf xs u with | some x => x.say | none => (zeroR, [])
theorem fans_one {xs : List Rw} {u : List UInt8} {r r2 : Rc} {l l2 : List Dp} {b b2 : Bool} (h : FAns xs u r l b) (h2 : FAns xs u r2 l2 b2) : (r = r2 ∧ l = l2) ∧ b = b2 := by
  have e := h.2.trans h2.2.symm
  injection e with e1 e2
  exact ⟨⟨e1, e2⟩, h.1.trans h2.1.symm⟩
theorem lastOf_mem {xs : List Rw} {u : List UInt8} {x : Rw} (h : lastOf xs u = some x) : x ∈ xs := by
  have := List.mem_of_find?_eq_some h
  simpa using this
def FUni (xs : List Rw) (u : List UInt8) (w : World) (e : Ending) (w' : World) : Prop :=
  ∃ (r : Rc) (A : Option Addr) (n c : Nat) (l : List Dp) (b : Bool), FAns xs u r l b ∧ e = .returned (.tuple #[rcv r A n c, .bool b]) ∧ n ≤ 1000000 ∧ Reads w' w'.heap.size 3 A n (dps l) ∧ Below w.heap.size w w'
theorem FindPost.uni {own : Bool} {xs : List Rw} {u : List UInt8} {w w' : World} {e : Ending} (hf : ∀ x ∈ xs, x.n ≤ 1000000) (h : FindPost own xs u w e w') : FUni xs u w e w' := by
  rcases h with ⟨h1, rfl, hb⟩ | ⟨x, A, c, h1, rfl, _, h2, hb⟩
  · exact ⟨zeroR, none, 0, 0, [], false, ⟨by rw [h1]; rfl, by rw [h1]⟩, rfl, by omega, Reads.none_, hb⟩
  · refine ⟨x.r, A, x.n, c, x.l, true, ⟨by rw [h1]; rfl, by rw [h1]; rfl⟩, rfl, hf x (lastOf_mem h1), ?_, hb⟩
    cases own
    · exact Reads.more h2 hb.size
    · exact Reads.of_own h2.1

end Go.Proofs.Ytbaokcigfgfoaaa
