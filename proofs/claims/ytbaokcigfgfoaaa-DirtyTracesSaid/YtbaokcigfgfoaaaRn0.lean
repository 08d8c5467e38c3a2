/- What a call answers; records as cells; how long their texts may be. -/
import Derived.Test.YtbaokcigfgfoaaaRd
namespace Go.Proofs.Ytbaokcigfgfoaaa
open Go.RowKit

def rcells (r : Rc) (A : Option Addr) (n c : Nat) : Array Value := #[.int .i64 r.kind, .string (tx r.target), .int .u64 r.rule, .slice A n c, .int .u64 r.out, .int .u64 r.time, .string (tx r.tag)]
theorem wrap_small {z : Int} (h0 : -9223372036854775808 ≤ z) (h1 : z ≤ 9223372036854775807) : IntKind.i64.wrap z = z := by simp [IntKind.wrap, IntKind.signed, IntKind.bits]; omega

/-- A call answers whether P is so. -/
def Tells (P : Prop) (e : Ending) : Prop := ∃ q : Bool, (q = true ↔ P) ∧ e = .returned (.bool q)
theorem tells_true {P : Prop} (h : P) : Tells P (.returned (.bool true)) := ⟨true, by simp [h], rfl⟩
theorem tells_false {P : Prop} (h : ¬ P) : Tells P (.returned (.bool false)) := ⟨false, by simp [h], rfl⟩
/-- No text is longer than there can be one. -/
def Fits (r : Rc) (l : List Dp) : Prop := r.target.length ≤ maxLen ∧ r.tag.length ≤ maxLen ∧ ∀ d ∈ l, d.name.length ≤ maxLen
theorem Tells.iff {P Q : Prop} {e : Ending} (h : Tells P e) (hpq : P ↔ Q) : Tells Q e := by
  obtain ⟨q, h1, h2⟩ := h
  exact ⟨q, h1.trans hpq, h2⟩
theorem Tells.yes {P : Prop} {e : Ending} (h : Tells P e) (hp : P) : e = .returned (.bool true) := by
  obtain ⟨q, h1, h2⟩ := h
  rw [h2, h1.2 hp]
theorem Tells.no {P : Prop} {e : Ending} (h : Tells P e) (hp : ¬ P) : e = .returned (.bool false) := by
  obtain ⟨q, h1, h2⟩ := h
  rw [h2, show q = false from by rw [← Bool.not_eq_true, h1]; exact hp]

end Go.Proofs.Ytbaokcigfgfoaaa
