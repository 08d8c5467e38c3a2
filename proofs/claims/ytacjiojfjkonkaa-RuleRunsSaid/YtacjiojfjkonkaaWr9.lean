/- The document's Same of steps, where both rows are alike. -/
import Derived.Laws.StructEq
import Derived.BigQuiet
import Derived.Deep.QuietTactic
import Derived.Test.YtacjiojfjkonkaaWr0
import Derived.Test.YtacjiojfjkonkaaRn00
namespace Go.Proofs.Ytacjiojfjkonkaa
open Go.RowKit

theorem fields_step : Try.prog.underlying 44 = some (.struct (Try.prog.fieldsOf 44)) := by kernel_rfl
theorem held_step : Try.prog.stoodInHeld 44 = false := by kernel_rfl
set_option maxRecDepth 100000 in
theorem step_alike (t : List UInt8) (b : Bool) (z : Int) (w : World) : (binOp .neq 44 (.agg #[.string (tx t), .bool b, .int .u64 z]) (.agg #[.string (tx t), .bool b, .int .u64 z])).run Try.prog w = .ok (.bool false) w := by
  rw [run_neq_struct, show (10000 : Nat) = 9999 + 1 from rfl, run_equalIn_agg _ _ _ _ _ fields_step held_step]
  simp only [Program.fieldsOf, Try.underlying44]
  go_simp

set_option maxRecDepth 100000 in
set_option maxHeartbeats 1000000 in
theorem ssame_ok (A : Option Addr) (n c : Nat) (A2 : Option Addr) (c2 : Nat) (xs : List Stp) (hn : n ≤ 1000000) (w : World) (h : Steps w w.heap.size A n xs) (h2 : Steps w w.heap.size A2 n xs) :
    Calls Try.prog 11 #[.slice A n c, .slice A2 n c2] w fun e w' => e = .returned (.bool true) ∧ Below w.heap.size w w' := by
  have HL : Hid (xs.length = n) := h.len
  have HR := Lib.hid h
  have HR2 := Lib.hid h2
  clear h h2
  go_enter Try.func11, Try.ntmps11
  go_wp2
  go_loopw [5] (fun idx wr => ∃ i : Nat, i ≤ n ∧ idx = .int .i64 (i : Int) ∧ Below w.heap.size w wr) (fun idx _ => n - (intOf idx).toNat)
  case atStart => exact ⟨0, by omega, rfl, Below.refl _ _⟩
  case round =>
    obtain ⟨i, hi, rfl, hb⟩ := hrel
    have HB := Lib.hid hb
    by_cases hlt : i < n
    · obtain ⟨x, hx⟩ : ∃ x, xs[i]? = some x := ⟨_, List.getElem?_eq_getElem (by rw [HL.out]; exact hlt)⟩
      obtain ⟨ad, rfl, _, k0, k1, k2⟩ := steps_cells (HR.out.below hb) i x hx
      obtain ⟨ad2, rfl, _, l0, l1, l2⟩ := steps_cells (HR2.out.below hb) i x hx
      obtain ⟨nm, ra, co⟩ := x
      obtain ⟨z, hz⟩ : ∃ z : Int, qv co = .int .u64 z := ⟨_, rfl⟩
      simp only [hz] at k0 k1 k2 l0 l1 l2
      have hal := fun (q : Nat) => step_alike nm ra z (wr.drewN q)
      have hi0 : (0 : Int) ≤ (i : Int) := by omega
      have hi1 : (i : Int) < (n : Int) := by omega
      clear hb hx hz
      go_wp2
      go_quiet (fail)
      go_wp2
      exact ⟨⟨i + 1, by omega, by go_num, HB.out.trans (below_drewN _ _ _)⟩, by simp [intOf]; omega⟩
    · obtain rfl : n = i := by omega
      clear hb
      go_wp2
      go_ret
      exact ⟨rfl, HB.out⟩

end Go.Proofs.Ytacjiojfjkonkaa
