/- Proved: InternPlays answers true at any arguments, in any memory; nothing that was there is changed. No condition. -/
import Derived.Test.YtfdeafhmfmeafaaRows
import Derived.Test.YtfdeafhmfmeafaaIm
import Derived.Test.YtfdeafhmfmeafaaC
import Derived.Test.YtfdeafhmfmeafaaD
namespace Go.Proofs.Ytfdeafhmfmeafaa.plays
open Go.ChangeShapes Go.WideShapes Go.ChangeAt Go.RowKit

theorem own : ownKnob Try.prog.godebug = none := by kernel_rfl
theorem laidOut : laidOutB Try.prog = true := by kernel_rfl
theorem cells0 : Try.prog.cellsOf 9 = 1 := by kernel_rfl
theorem cells1 : Try.prog.cellsOf 30 = 3 := by kernel_rfl
theorem cells2 : Try.prog.cellsOf 3 = 1 := by kernel_rfl

set_option maxRecDepth 100000 in
theorem lifted (os : Os) (started : os.Started) (H : Type) (enc : TypeId × Value → H) :
    ReturnsInHanded {} Try.checked os 3 .any (Rows.internPlaysSpec.pre6 enc Try.prog Try.f3 Rows.internPlaysRow.domain false) (Rows.internPlaysSpec.post enc Try.prog Try.f3 false true false false) := by
  refine returnsInHanded_of_change (C := Try.checked) own started (by kernel_rfl) Try.func3
    (ChangeSpec.witness6 (enc := enc) (C := Try.checked) false ⟨#[], #[.slice none 0 0, .slice none 0 0], []⟩ 8 (by kernel_rfl) (by kernel_rfl) (by kernel_rfl) (by kernel_rfl)) ?_
  intro W base args ds gs before hval0 hW hcnd _
  have hval : ∀ (j : Nat) t v, Try.f3.params[j]? = some t → args[j]? = some v → Value.okWide Try.prog W .any base t v := hval0
  have hW' := hW
  obtain ⟨p, q, hA0, hV, rfl, hfz, hnd⟩ := hW
  have hA : DataW.TrodAll enc Try.prog W 0 (fun _ => true) true Try.f3.params.toList args.toList ds p := hA0
  rw [Try.params3] at hA hval
  obtain ⟨v0, v1, d0, d1, p0, p1, rfl, rfl, rfl, h0, h1⟩ := trodAll_two hA
  obtain ⟨rfl, rfl⟩ := trodVars_none hV
  obtain ⟨L, n, c, ts, rfl, hc, hr, hts⟩ := open_textsL Try.underlying22 Try.underlying9 cells0 (hval 0 22 v0 rfl rfl) h0
  obtain ⟨La, ma, da, acs, rfl, _, hfit, hra⟩ := open_acts Try.underlying23 Try.underlying30 cells1 Try.underlying3 Try.underlying9 Try.underlying3 cells2 cells0 cells2 rfl rfl rfl (hval 1 23 v1 rfl rfl) h1
  refine (plays_any L La n c ma da ts acs hts hfit W hr hra).mono fun e W' ⟨he, hb⟩ => ?_
  subst he
  exact ⟨_, rfl, law_post laidOut Try.underlying4 rfl (fun t ht => ⟨by revert t; decide +kernel, by revert t; decide +kernel⟩) rfl hW' hb rfl⟩

theorem proved : Rows.InternPlaysSaid :=
  OpenClaim.holds_of_wide 3 Try.f3 rfl rfl rfl rfl rfl rfl rfl ⟨rfl, rfl, rfl, rfl, rfl⟩ rfl rfl rfl rfl rfl (by kernel_rfl) Try.func3 (by kernel_rfl)
    (of_decide_eq_true (by kernel_rfl)) (by unfold Func.isWrapper; first | (rw [if_pos (by decide +kernel)]; kernel_rfl) | (rw [if_neg (by decide +kernel)]; exact ⟨rfl, rfl⟩))
    (fun os started H enc _ => lifted os started H enc)

end Go.Proofs.Ytfdeafhmfmeafaa.plays
