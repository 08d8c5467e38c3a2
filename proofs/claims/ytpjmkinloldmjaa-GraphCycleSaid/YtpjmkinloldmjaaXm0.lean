/- The document's Same. -/
import Derived.Test.YtpjmkinloldmjaaXl
namespace Go.Proofs.Ytpjmkinloldmjaa
open Go.RowKit Go.Sort

set_option maxRecDepth 100000 in
set_option maxHeartbeats 1000000 in
theorem rsame_ok (A : Option Addr) (n c : Nat) (A2 : Option Addr) (c2 : Nat) (o : List Nat) (hn : n ≤ 1000000) (w : World) (h : Reads w w.heap.size 1 A n (ivs o)) (h2 : Reads w w.heap.size 1 A2 n (ivs o)) :
    Calls Try.prog 12 #[.slice A n c, .slice A2 n c2] w fun e w' => e = .returned (.bool true) ∧ Below w.heap.size w w' := by
  have HL : Hid (o.length = n) := by have := h.1; rw [ivs_len] at this; show _ = _; omega
  have HR := Lib.hid h
  have HR2 := Lib.hid h2
  clear h h2
  go_enter Try.func12, Try.ntmps12
  go_wp2
  go_loopw [5] (fun idx wr => ∃ i : Nat, i ≤ n ∧ idx = .int .i64 (i : Int) ∧ Below w.heap.size w wr) (fun idx _ => n - (intOf idx).toNat)
  case atStart => exact ⟨0, by omega, rfl, Below.refl _ _⟩
  case round =>
    obtain ⟨i, hi, rfl, hb⟩ := hrel
    have HB := Lib.hid hb
    by_cases hlt : i < n
    · obtain ⟨j, hj⟩ : ∃ j, o[i]? = some j := ⟨_, List.getElem?_eq_getElem (by rw [HL.out]; exact hlt)⟩
      obtain ⟨ad, u, rfl, _, hu, hcell⟩ := (HR.out.below hb).at_ hlt
      obtain ⟨ad2, u2, rfl, _, hu2, hcell2⟩ := (HR2.out.below hb).at_ hlt
      obtain rfl : u = .int .i64 (j : Int) := by unfold ivs at hu; rw [List.getElem?_map, hj] at hu; simpa using hu.symm
      obtain rfl : u2 = .int .i64 (j : Int) := by unfold ivs at hu2; rw [List.getElem?_map, hj] at hu2; simpa using hu2.symm
      have hi0 : (0 : Int) ≤ (i : Int) := by omega
      have hi1 : (i : Int) < (n : Int) := by omega
      clear hu hu2 hb hj
      go_wp2
      go_quiet (fail)
      go_wp2
      exact ⟨⟨i + 1, by omega, by go_num, HB.out.trans (below_drewN _ _ _)⟩, by simp [intOf]; omega⟩
    · obtain rfl : n = i := by omega
      clear hb
      go_wp2
      go_ret
      exact ⟨rfl, HB.out⟩

end Go.Proofs.Ytpjmkinloldmjaa
