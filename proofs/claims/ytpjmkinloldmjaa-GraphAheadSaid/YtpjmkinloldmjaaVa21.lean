/- Proved: GraphAhead answers true at any arguments, in any memory; nothing that was there is changed. No condition. -/
import Derived.Test.YtpjmkinloldmjaaRows
import Derived.Test.YtpjmkinloldmjaaXp
import Derived.Test.YtpjmkinloldmjaaXd
import Derived.Test.YtpjmkinloldmjaaC
import Derived.Test.YtpjmkinloldmjaaD
import Derived.Test.YtpjmkinloldmjaaK2
namespace Go.Proofs.Ytpjmkinloldmjaa.ahead
open Go.ChangeShapes Go.WideShapes Go.ChangeAt Go.RowKit

theorem own : ownKnob Try.prog.godebug = none := by kernel_rfl
theorem laidOut : laidOutB Try.prog = true := by kernel_rfl

set_option maxRecDepth 100000 in
theorem lifted (os : Os) (started : os.Started) (H : Type) (enc : TypeId × Value → H) :
    ReturnsInHanded {} Try.checked os 5 .any (Rows.graphAheadSpec.pre6 enc Try.prog Try.f5 Rows.graphAheadRow.domain false) (Rows.graphAheadSpec.post enc Try.prog Try.f5 false true false false) := by
  refine returnsInHanded_of_change (C := Try.checked) own started (by kernel_rfl) Try.func5
    (ChangeSpec.witness6 (enc := enc) (C := Try.checked) false ⟨#[], #[.slice none 0 0, .slice none 0 0], []⟩ 8 (by kernel_rfl) (by kernel_rfl) (by kernel_rfl) (by kernel_rfl)) ?_
  intro W base args ds gs before hval0 hW hcnd _
  have hval : ∀ (j : Nat) t v, Try.f5.params[j]? = some t → args[j]? = some v → Value.okWide Try.prog W .any base t v := hval0
  have hW' := hW
  obtain ⟨p, q, hA0, hV, rfl, hfz, hnd⟩ := hW
  have hA : DataW.TrodAll enc Try.prog W 0 (fun _ => true) true Try.f5.params.toList args.toList ds p := hA0
  rw [Try.params5] at hA hval
  obtain ⟨v0, v1, d0, d1, p0, p1, rfl, rfl, rfl, h0, h1⟩ := trodAll_two hA
  obtain ⟨rfl, rfl⟩ := trodVars_none hV
  obtain ⟨A, n, c, xs, rfl, hnc, hcm, hac, hg, hr⟩ := open_nodes (hval 0 22 v0 rfl rfl) h0
  obtain ⟨Aa, m, d, bs, rfl, hmd, hah, hb⟩ := open_bytes2 Try.underlying37 Try.underlying5 (by kernel_rfl) (hval 1 37 v1 rfl rfl) h1
  refine (gahead_any A n c xs hnc hcm hac Aa m d bs W hg hr hb).mono fun e W' ⟨he, hb⟩ => ?_
  subst he
  exact ⟨_, rfl, law_post laidOut Try.underlying4 rfl (fun t ht => ⟨by revert t; decide +kernel, by revert t; decide +kernel⟩) rfl hW' hb rfl⟩

theorem proved : Rows.GraphAheadSaid :=
  OpenClaim.holds_of_wide 5 Try.f5 rfl rfl rfl rfl rfl rfl rfl ⟨rfl, rfl, rfl, rfl, rfl⟩ rfl rfl rfl rfl rfl (by kernel_rfl) Try.func5 (by kernel_rfl)
    (of_decide_eq_true (by kernel_rfl)) (by unfold Func.isWrapper; first | (rw [if_pos (by decide +kernel)]; kernel_rfl) | (rw [if_neg (by decide +kernel)]; exact ⟨rfl, rfl⟩))
    (fun os started H enc _ => lifted os started H enc)

end Go.Proofs.Ytpjmkinloldmjaa.ahead
