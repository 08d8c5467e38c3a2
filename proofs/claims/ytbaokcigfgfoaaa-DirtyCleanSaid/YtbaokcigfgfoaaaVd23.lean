/- Proved: DirtyClean answers true at any arguments, in any memory; nothing that was there is changed. No condition. -/
import Derived.Test.YtbaokcigfgfoaaaRows
import Derived.Test.YtbaokcigfgfoaaaZo
import Derived.Test.YtbaokcigfgfoaaaZp
import Derived.Test.YtbaokcigfgfoaaaTz
import Derived.Test.YtbaokcigfgfoaaaRs
import Derived.Test.YtbaokcigfgfoaaaC
namespace Go.Proofs.Ytbaokcigfgfoaaa.cleanp
open Go.ChangeShapes Go.WideShapes Go.ChangeAt Go.RowKit

theorem own : ownKnob Try.prog.godebug = none := by kernel_rfl
theorem laidOut : laidOutB Try.prog = true := by kernel_rfl

set_option maxRecDepth 100000 in
theorem lifted (os : Os) (started : os.Started) (H : Type) (enc : TypeId × Value → H) :
    ReturnsInHanded {} Try.checked os 5 .any (Rows.dirtyCleanSpec.pre6 enc Try.prog Try.f5 Rows.dirtyCleanRow.domain false) (Rows.dirtyCleanSpec.post enc Try.prog Try.f5 false true false false) := by
  refine returnsInHanded_of_change (C := Try.checked) own started (by kernel_rfl) Try.func5
    (ChangeSpec.witness6 (enc := enc) (C := Try.checked) false ⟨#[], #[.agg #[.string { data := #[] }, .bool false, .int .u64 0, .slice none 0 0], .slice none 0 0, .agg #[.slice none 0 0, .slice none 0 0, .slice none 0 0]], []⟩ 8 (by kernel_rfl) (by kernel_rfl) (by kernel_rfl) (by kernel_rfl)) ?_
  intro W base args ds gs before hval0 hW hcnd _
  have hval : ∀ (j : Nat) t v, Try.f5.params[j]? = some t → args[j]? = some v → Value.okWide Try.prog W .any base t v := hval0
  have hW' := hW
  obtain ⟨p, q, hA0, hV, rfl, hfz, hnd⟩ := hW
  have hA : DataW.TrodAll enc Try.prog W 0 (fun _ => true) true Try.f5.params.toList args.toList ds p := hA0
  rw [Try.params5] at hA hval
  obtain ⟨v0, v1, v2, d0, d1, d2, p0, p1, p2, rfl, rfl, rfl, h0, h1, h2⟩ := trodAll_three hA
  obtain ⟨rfl, rfl⟩ := trodVars_none hV
  obtain ⟨x, rfl, hg, hru⟩ := open_nodeu (hval 0 25 v0 rfl rfl) h0
  obtain ⟨B, q, c0, xs, rfl, hq, hBn, hfit, hr⟩ := open_recs (hval 1 26 v1 rfl rfl) h1
  obtain ⟨H0, m0, d0, q0, H1, m1, d1, q1, H2, m2, d2, rfl, hm0, hm1, hr0, hr1⟩ := open_rows3 (hval 2 46 v2 rfl rfl) h2
  refine (dclean_any x B q c0 xs H0 m0 d0 q0 H1 m1 d1 q1 H2 m2 d2 W hg hru hq hfit hm0 hm1 hr hr0 hr1).mono fun e W' ⟨he, hb⟩ => ?_
  subst he
  exact ⟨_, rfl, law_post laidOut Try.underlying4 rfl (fun t ht => ⟨by revert t; decide +kernel, by revert t; decide +kernel⟩) rfl hW' hb rfl⟩

theorem proved : Rows.DirtyCleanSaid :=
  OpenClaim.holds_of_wide 5 Try.f5 rfl rfl rfl rfl rfl rfl rfl ⟨rfl, rfl, rfl, rfl, rfl⟩ rfl rfl rfl rfl rfl (by kernel_rfl) Try.func5 (by kernel_rfl)
    (of_decide_eq_true (by kernel_rfl)) (by unfold Func.isWrapper; first | (rw [if_pos (by decide +kernel)]; kernel_rfl) | (rw [if_neg (by decide +kernel)]; exact ⟨rfl, rfl⟩))
    (fun os started H enc _ => lifted os started H enc)

end Go.Proofs.Ytbaokcigfgfoaaa.cleanp
