/- Proved: SchemaGets answers true at any arguments, in any memory; nothing that was there is changed. No condition. -/
import Derived.Test.YtidkahmjjknkmaaRows
import Derived.Test.YtidkahmjjknkmaaMh38
namespace Go.Proofs.Ytidkahmjjknkmaa.sgets
open Go.ChangeShapes Go.WideShapes Go.ChangeAt Go.RowKit

theorem own : ownKnob Try.prog.godebug = none := by kernel_rfl
theorem laidOut : laidOutB Try.prog = true := by kernel_rfl
theorem cells0 : Try.prog.cellsOf 9 = 1 := by kernel_rfl

set_option maxRecDepth 100000 in
theorem lifted (os : Os) (started : os.Started) (H : Type) (enc : TypeId × Value → H) :
    ReturnsInHanded {} Try.checked os 4 .any (Rows.schemaGetsSpec.pre6 enc Try.prog Try.f4 Rows.schemaGetsRow.domain false) (Rows.schemaGetsSpec.post enc Try.prog Try.f4 false true false false) := by
  refine returnsInHanded_of_change (C := Try.checked) own started (by kernel_rfl) Try.func4
    (ChangeSpec.witness6 (enc := enc) (C := Try.checked) false ⟨#[], #[.slice none 0 0, .slice none 0 0, .agg #[.int .i64 0, .int .i64 0]], []⟩ 8 (by kernel_rfl) (by kernel_rfl) (by kernel_rfl) (by kernel_rfl)) ?_
  intro W base args ds gs before hval0 hW hcnd _
  have hval : ∀ (j : Nat) t v, Try.f4.params[j]? = some t → args[j]? = some v → Value.okWide Try.prog W .any base t v := hval0
  have hW' := hW
  obtain ⟨p, q, hA0, hV, rfl, hfz, hnd⟩ := hW
  have hA : DataW.TrodAll enc Try.prog W 0 (fun _ => true) true Try.f4.params.toList args.toList ds p := hA0
  rw [Try.params4] at hA hval
  obtain ⟨v0, v1, v2, d0, d1, d2, p0, p1, p2, rfl, rfl, rfl, h0, h1, h2⟩ := trodAll_three hA
  obtain ⟨rfl, rfl⟩ := trodVars_none hV
  obtain ⟨L, m, d, ts, rfl, hc0, hm, hrt, hts⟩ := open_textsM Try.underlying22 Try.underlying9 cells0 (hval 0 22 v0 rfl rfl) h0
  obtain ⟨P, mp, dp, us, rfl, hcP, hmp, hrp, hps⟩ := open_textsM Try.underlying22 Try.underlying9 cells0 (hval 1 22 v1 rfl rfl) h1
  obtain ⟨x0, x1, rfl⟩ := open_twoints (hval 2 47 v2 rfl rfl) h2
  refine (sgets_any x0 x1 L P m d mp dp ts us hm hts hmp hcP hps W hrt hrp).mono fun e W' ⟨he, hb⟩ => ?_
  subst he
  exact ⟨_, rfl, law_post laidOut Try.underlying4 rfl (fun t ht => ⟨by revert t; decide +kernel, by revert t; decide +kernel⟩) rfl hW' hb rfl⟩

theorem proved : Rows.SchemaGetsSaid :=
  OpenClaim.holds_of_wide 4 Try.f4 rfl rfl rfl rfl rfl rfl rfl ⟨rfl, rfl, rfl, rfl, rfl⟩ rfl rfl rfl rfl rfl (by kernel_rfl) Try.func4 (by kernel_rfl)
    (of_decide_eq_true (by kernel_rfl)) (by unfold Func.isWrapper; first | (rw [if_pos (by decide +kernel)]; kernel_rfl) | (rw [if_neg (by decide +kernel)]; exact ⟨rfl, rfl⟩))
    (fun os started H enc _ => lifted os started H enc)

end Go.Proofs.Ytidkahmjjknkmaa.sgets
