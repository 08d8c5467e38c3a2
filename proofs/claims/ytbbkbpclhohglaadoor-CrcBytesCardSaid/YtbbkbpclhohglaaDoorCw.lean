/- The way down: a number of 32 bits as a sum. -/
import Derived.ProofKit
import Derived.Test.YtbbkbpclhohglaaDoorCa
namespace Go.Proofs.YtbbkbpclhohglaaDoor

theorem word_of {a : Int} (h : (Lit.int .u32 a).wf = true) : ∃ s : W32, a = (s.toNat : Int) := by
  have hx : 0 ≤ a ∧ a ≤ 4294967295 := by simpa [Lit.wf, IntKind.min, IntKind.max, IntKind.signed, IntKind.bits] using h
  refine ⟨BitVec.ofNat 32 a.toNat, ?_⟩
  rw [BitVec.toNat_ofNat, Nat.mod_eq_of_lt (by omega)]
  omega

end Go.Proofs.YtbbkbpclhohglaaDoor
