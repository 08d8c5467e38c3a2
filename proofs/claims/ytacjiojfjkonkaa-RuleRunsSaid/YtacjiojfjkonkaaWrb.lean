/- The example of layer 22: what comes of it. -/
import Derived.Test.YtacjiojfjkonkaaWr8
import Derived.Test.YtacjiojfjkonkaaWr9
namespace Go.Proofs.Ytacjiojfjkonkaa
open Go.RowKit Go.Sort

def exq (b : Nat) : List Nw := [⟨⟨[98], false, 1, [[97]]⟩, some ⟨b, 0, none⟩, 1, 1⟩, ⟨⟨[97], true, 0, []⟩, none, 0, 0⟩]
def exg : List Stp := [⟨[97], false, 5#64⟩]
theorem exq_chk (b : Nat) : chk (nds (exq b)) = 0 := by
  show chk [⟨[98], false, 1, [[97]]⟩, ⟨[97], true, 0, []⟩] = 0
  decide
theorem exq_ord (b : Nat) : ord (nds (exq b)) = [1, 0] := by
  show ord [⟨[98], false, 1, [[97]]⟩, ⟨[97], true, 0, []⟩] = [1, 0]
  decide
theorem exq_ok (b : Nat) : NOk (exq b) := fun x hx => by
  simp only [exq, List.mem_cons, List.not_mem_nil, or_false] at hx
  unfold NFits maxLen
  rcases hx with rfl | rfl <;> simp
theorem exq_rule (b : Nat) : ∀ x ∈ exq b, RuleOk x.d ∧ x.n ≤ 1000 := fun x hx => by
  simp only [exq, List.mem_cons, List.not_mem_nil, or_false] at hx
  unfold RuleOk
  rcases hx with rfl | rfl
  · exact ⟨rfl, by show 1 ≤ 1000; omega⟩
  · exact ⟨rfl, by show 0 ≤ 1000; omega⟩
theorem exq_clean (b : Nat) : clN (nds (exq b)) exg (ord (nds (exq b))) 2 = [⟨[97], false, 5#64⟩, ⟨[98], true, foq (dg 1#64) [5#64]⟩] := by
  rw [exq_ord]
  rfl

end Go.Proofs.Ytacjiojfjkonkaa
