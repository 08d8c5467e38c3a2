/- Texts of one proof. -/
import Derived.Lay
import Derived.SevenTiedAt
import Derived.Test.YtoclafdidjpndaaGreatDoorCards
import Derived.Test.YtoclafdidjpndaaGreatDoorTie
import Derived.Test.YtoclafdidjpndaaGreatDoorMx47
set_option maxRecDepth 100000
set_option maxHeartbeats 8000000
namespace Go.Proofs.YtoclafdidjpndaaGreatDoor.cgets
open Go.ChangeShapes Go.WideShapes Go.ChangeAt Go.RowKit
theorem own:ownKnob Tryz.prog.godebug=none:=by kernel_rfl
theorem laidOut:laidOutB Tryz.prog=true:=by kernel_rfl
theorem lifted (os:Os) (started:os.Started) (H:Type) (enc:TypeId×Value→H) :
  ReturnsInHanded {} Tryz.checked os 4 .any (fun w args =>(Rows.codecGetsSpec.pre enc Tryz.prog Tryz.f4 [] false w args∧laidMetH Tryz.prog [("tephra/crc.halves",Rows.laid_tephra_crc_halves)] w)∧sizedMet enc Tryz.prog Tryz.f4 (OpenSpec.ofChange Rows.codecGetsSpec) false w args)
   (Rows.codecGetsSpec.post enc Tryz.prog Tryz.f4 false true false false):=by
 refine returnsInHanded_of_change_and (C:=Tryz.checked) (X:=fun w _ =>laidMetH Tryz.prog [("tephra/crc.halves",Rows.laid_tephra_crc_halves)] w) (fun _ _ _ hh h =>h.of_heap hh) own started (by kernel_rfl) Tryz.func4
  (ChangeSpec.witness_shaped (enc:=enc) (C:=Tryz.checked) (os:=os) (X:=fun w _ =>laidMetH Tryz.prog [("tephra/crc.halves",Rows.laid_tephra_crc_halves)] w) false (World.laidAll Tryz.prog os [("tephra/crc.halves",Rows.laid_tephra_crc_halves)]) #[.slice none 0 0] 8 (World.laidAll_os _ _ _)
   (World.shaped_of_ZipB (by kernel_rfl) (by kernel_rfl)) (by kernel_rfl) (by kernel_rfl) (by kernel_rfl)
   (by rw [MakeChecks.laidMetH_plain _ _ _ (by kernel_rfl)];exact laidMet_laidAll _ (by kernel_rfl) (by kernel_rfl))) ?_
 intro W base args ds gs before hval0 hW _ _ hL _
 have hval:∀ (j:Nat) t v,Tryz.f4.params[j]? = some t→args[j]? = some v→Value.okWide Tryz.prog W .any base t v:=hval0
 have hW':=hW
 obtain ⟨p,q,hA0,hV,rfl,hfz,hnd⟩:=hW
 have hA:DataW.TrodAll enc Tryz.prog W 0 (fun _ =>true) true Tryz.f4.params.toList args.toList ds p:=hA0
 rw [Tryz.params4] at hA hval
 obtain ⟨v0,d0,rfl,rfl,h0⟩:=trodAll_one hA
 obtain ⟨rfl,rfl⟩:=trodVars_none hV
 obtain ⟨A,n,c,bs,rfl,hc,hAn,hr⟩:=zJI Tryz.underlying25 Tryz.underlying5 (by kernel_rfl) (hval 0 25 v0 rfl rfl) h0
 refine (zLS A n c bs hc hAn W (zJO hL) hr).mono fun e W' ⟨he,hb⟩ =>?_
 subst he
 exact ⟨_,rfl,zIr laidOut Tryz.underlying4 rfl (fun t ht =>⟨by revert t;decide +kernel,by revert t;decide +kernel⟩) rfl hW' hb rfl⟩
theorem said:Rows.CodecGetsSaid :=
 OpenClaim.holds_of_wide 4 Tryz.f4 rfl rfl rfl rfl rfl rfl rfl ⟨rfl,rfl,rfl,rfl,rfl⟩ rfl rfl rfl rfl rfl (by kernel_rfl) Tryz.func4 (by kernel_rfl)
  (of_decide_eq_true (by kernel_rfl)) (by unfold Func.isWrapper;first | (rw [if_pos (by decide +kernel)];kernel_rfl) | (rw [if_neg (by decide +kernel)];exact ⟨rfl,rfl⟩))
  (fun os started H enc _ =>lifted os started H enc)
theorem proved:Rows.CodecGetsCardSaid :=
 Claim7.holds_tied_plain_at .later [] [.data] true (true,"d27940c836487e0b75a2167ed7f1f557e406bb05c95cd36a81bff2c7866683d1") false
  said (fun _ h =>by cases h) (by kernel_rfl) (fun _ h =>by cases h) codecGets_row_tie rfl ⟨rfl,rfl⟩ (by kernel_rfl) rfl
  (fun f fn hf hfn =>by
   obtain rfl:f=4:=Option.some.inj ((show Tryz.prog.funcNamed "tephra/tephralaw10.CodecGets" = some 4 by kernel_rfl).symm.trans hf) |>.symm
   obtain rfl:fn=Tryz.f4:=(Option.some.inj (Tryz.func4.symm.trans hfn)).symm
   exact ⟨by kernel_rfl,fun j t ht =>by
    rw [Tryz.params4] at ht
    have hm:t ∈ [25]:=by simpa using Array.mem_of_getElem? ht
    have hall:([25].all fun u =>!Tryz.prog.wantsStandIn u)=true:=by kernel_rfl
    exact (show Tryz.prog.wantsStandIn t=false by simpa using List.all_eq_true.1 hall t hm)⟩)
  (by kernel_rfl)
end Go.Proofs.YtoclafdidjpndaaGreatDoor.cgets
