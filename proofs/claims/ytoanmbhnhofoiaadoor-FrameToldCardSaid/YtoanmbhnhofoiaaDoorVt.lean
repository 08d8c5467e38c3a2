/- Proved: FrameTold answers true at any arguments, in any memory in which the table of half bytes reads as the program lays it (the card ties that to the program's text); nothing that was there is changed. No other condition. -/
import Derived.ProofKit
import Derived.LaidMore
import Derived.OpenShut
import Derived.SevenTiedAt
import Derived.Test.YtoanmbhnhofoiaaDoorRows
import Derived.Test.YtoanmbhnhofoiaaDoorCards
import Derived.Test.YtoanmbhnhofoiaaDoorTie
import Derived.Test.YtoanmbhnhofoiaaDoorFt
import Derived.Test.YtoanmbhnhofoiaaDoorC
import Derived.Test.YtoanmbhnhofoiaaDoorFw
import Derived.Test.YtoanmbhnhofoiaaDoorFx
namespace Go.Proofs.YtoanmbhnhofoiaaDoor.told
open Go.ChangeShapes Go.WideShapes Go.ChangeAt Go.RowKit

theorem cellsU16 : Tryd.prog.cellsOf 50 = 1 := by kernel_rfl
theorem cellsP2 : Tryd.prog.cellsOf 55 = 2 := by kernel_rfl
theorem own : ownKnob Tryd.prog.godebug = none := by kernel_rfl
theorem laidOut : laidOutB Tryd.prog = true := by kernel_rfl

/-- The door's own heap meets the condition. -/
theorem door_met (os : Os) (args : Array Value) : laidMetH Tryd.prog [("tephra/crc.halves", Rows.laid_tephra_crc_halves)] ((World.doorLaid Tryd.prog 400 os).forCall (fun _ _ => 0) ⟨#[], args, []⟩).memory :=
  laidMetH_of_parts3 (fuel := 8) (laidMet_of_run' 8 (by kernel_rfl) (by kernel_rfl)) (by kernel_rfl) (by kernel_rfl)

set_option maxRecDepth 100000 in
theorem lifted (os : Os) (started : os.Started) (H : Type) (enc : TypeId × Value → H) :
    ReturnsInHanded {} Tryd.checked os 7 .any (fun w args => (Rows.frameToldSpec.pre enc Tryd.prog Tryd.f7 [] false w args ∧ laidMetH Tryd.prog [("tephra/crc.halves", Rows.laid_tephra_crc_halves)] w) ∧ sizedMet enc Tryd.prog Tryd.f7 (OpenSpec.ofChange Rows.frameToldSpec) false w args)
      (Rows.frameToldSpec.post enc Tryd.prog Tryd.f7 false true false false) := by
  refine returnsInHanded_of_change_and (C := Tryd.checked) (X := fun w _ => laidMetH Tryd.prog [("tephra/crc.halves", Rows.laid_tephra_crc_halves)] w) (fun _ _ _ hh h => h.of_heap hh) own started (by kernel_rfl) Tryd.func7
    (ChangeSpec.witness_shaped (enc := enc) (C := Tryd.checked) (os := os) (X := fun w _ => laidMetH Tryd.prog [("tephra/crc.halves", Rows.laid_tephra_crc_halves)] w) false (World.doorLaid Tryd.prog 400 os) #[.slice none 0 0, .agg #[.int .u16 0, .int .u16 0], .int .u32 0] 8 rfl (World.shaped_of_RefB (by kernel_rfl) (by kernel_rfl)) (by kernel_rfl) (by kernel_rfl) (by kernel_rfl) (door_met os _)) ?_
  intro W base args ds gs before hval0 hW _ _ hL _
  have hval : ∀ (j : Nat) t v, Tryd.f7.params[j]? = some t → args[j]? = some v → Value.okWide Tryd.prog W .any base t v := hval0
  have hW' := hW
  obtain ⟨p, q, hA0, hV, rfl, hfz, hnd⟩ := hW
  have hA : DataW.TrodAll enc Tryd.prog W 0 (fun _ => true) true Tryd.f7.params.toList args.toList ds p := hA0
  rw [Tryd.params7] at hA hval
  obtain ⟨v0, v1, v2, d0, d1, d2, p0, p1, p2, rfl, rfl, rfl, h0, h1, h2⟩ := trodAll_three hA
  obtain ⟨rfl, rfl⟩ := trodVars_none hV
  have hl := of_laid hL
  obtain ⟨L, m, c, vs, rows, rfl, hr, hp⟩ := open_rows Tryd.underlying41 Tryd.underlying22 Tryd.underlying5 cells24 cells5 (hval 0 41 v0 rfl rfl) h0
  obtain ⟨x0, x1, rfl, hx0, hx1⟩ := open_pair Tryd.underlying55 Tryd.underlying50 cellsU16 cellsP2 (hval 1 55 v1 rfl rfl) h1
  obtain ⟨y, rfl, rfl, rfl, wy⟩ := open_int Tryd.underlying56 (hval 2 56 v2 rfl rfl) h2
  have hby : 0 ≤ y ∧ y ≤ 4294967295 := by simpa [Lit.wf, IntKind.min, IntKind.max, IntKind.signed, IntKind.bits] using wy
  obtain ⟨y, rfl⟩ := Int.eq_ofNat_of_zero_le hby.1
  refine (ftold_any L m c x0 x1 y vs rows hx0 hx1 (by omega) W hl hr hp).mono fun e W' ⟨he, hb⟩ => ?_
  subst he
  exact ⟨_, rfl, law_post laidOut Tryd.underlying4 rfl (fun t ht => ⟨by revert t; decide +kernel, by revert t; decide +kernel⟩) rfl hW' hb rfl⟩

theorem said : Rows.FrameToldSaid :=
  OpenClaim.holds_of_wide 7 Tryd.f7 rfl rfl rfl rfl rfl rfl rfl ⟨rfl, rfl, rfl, rfl, rfl⟩ rfl rfl rfl rfl rfl (by kernel_rfl) Tryd.func7 (by kernel_rfl)
    (of_decide_eq_true (by kernel_rfl)) (by unfold Func.isWrapper; first | (rw [if_pos (by decide +kernel)]; kernel_rfl) | (rw [if_neg (by decide +kernel)]; exact ⟨rfl, rfl⟩))
    (fun os started H enc _ => lifted os started H enc)

theorem proved : Rows.FrameToldCardSaid :=
  Claim7.holds_tied_plain_at .later [] [.data] true (true, "6e51ba42f3da4315aad1e659fbb4a1ad644520628379df5002b4435083ddfad9") false
    said (fun _ h => by cases h) (by kernel_rfl) (fun _ h => by cases h) frameTold_row_tie rfl ⟨rfl, rfl⟩ (by kernel_rfl) rfl
    (fun f fn hf hfn => by
      obtain rfl : f = 7 := Option.some.inj ((show Tryd.prog.funcNamed "tephra/tephralaw06.FrameTold" = some 7 by kernel_rfl).symm.trans hf) |>.symm
      obtain rfl : fn = Tryd.f7 := (Option.some.inj (Tryd.func7.symm.trans hfn)).symm
      exact ⟨by kernel_rfl, fun j t ht => by
        rw [Tryd.params7] at ht
        have hm : t ∈ [41, 55, 56] := by simpa using Array.mem_of_getElem? ht
        have hall : ([41, 55, 56].all fun u => !Tryd.prog.wantsStandIn u) = true := by kernel_rfl
        exact (show Tryd.prog.wantsStandIn t = false by simpa using List.all_eq_true.1 hall t hm)⟩)
    (by kernel_rfl)

end Go.Proofs.YtoanmbhnhofoiaaDoor.told
