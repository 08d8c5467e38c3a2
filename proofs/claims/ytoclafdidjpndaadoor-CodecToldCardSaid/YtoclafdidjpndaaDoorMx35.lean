/- Texts of one proof. -/
import Derived.Lay
import Derived.SevenTiedAt
import Derived.Test.YtoclafdidjpndaaDoorCards
import Derived.Test.YtoclafdidjpndaaDoorTie
import Derived.Test.YtoclafdidjpndaaDoorMx33
set_option maxRecDepth 100000
set_option maxHeartbeats 8000000
namespace Go.Proofs.YtoclafdidjpndaaDoor.ctold
open Go.ChangeShapes Go.WideShapes Go.ChangeAt Go.RowKit
theorem cellsU16:Tryd.prog.cellsOf 23=1:=by kernel_rfl
theorem cellsP2:Tryd.prog.cellsOf 37=2:=by kernel_rfl
theorem own:ownKnob Tryd.prog.godebug=none:=by kernel_rfl
theorem laidOut:laidOutB Tryd.prog=true:=by kernel_rfl
theorem lifted (os:Os) (started:os.Started) (H:Type) (enc:TypeId×Value→H) :
  ReturnsInHanded {} Tryd.checked os 4 .any (fun w args =>(Rows.codecToldSpec.pre enc Tryd.prog Tryd.f4 [] false w args∧laidMetH Tryd.prog [("tephra/crc.halves",Rows.laid_tephra_crc_halves)] w)∧sizedMet enc Tryd.prog Tryd.f4 (OpenSpec.ofChange Rows.codecToldSpec) false w args)
   (Rows.codecToldSpec.post enc Tryd.prog Tryd.f4 false true false false):=by
 refine returnsInHanded_of_change_and (C:=Tryd.checked) (X:=fun w _ =>laidMetH Tryd.prog [("tephra/crc.halves",Rows.laid_tephra_crc_halves)] w) (fun _ _ _ hh h =>h.of_heap hh) own started (by kernel_rfl) Tryd.func4
  (ChangeSpec.witness_shaped (enc:=enc) (C:=Tryd.checked) (os:=os) (X:=fun w _ =>laidMetH Tryd.prog [("tephra/crc.halves",Rows.laid_tephra_crc_halves)] w) false (World.laidAll Tryd.prog os [("tephra/crc.halves",Rows.laid_tephra_crc_halves)]) #[.slice none 0 0,.agg #[.int .u16 0,.int .u16 0],.int .u32 0] 8 (World.laidAll_os _ _ _)
   (World.shaped_of_ZipB (by kernel_rfl) (by kernel_rfl)) (by kernel_rfl) (by kernel_rfl) (by kernel_rfl)
   (by rw [MakeChecks.laidMetH_plain _ _ _ (by kernel_rfl)];exact laidMet_laidAll _ (by kernel_rfl) (by kernel_rfl))) ?_
 intro W base args ds gs before hval0 hW _ _ hL _
 have hval:∀ (j:Nat) t v,Tryd.f4.params[j]? = some t→args[j]? = some v→Value.okWide Tryd.prog W .any base t v:=hval0
 have hW':=hW
 obtain ⟨p,q,hA0,hV,rfl,hfz,hnd⟩:=hW
 have hA:DataW.TrodAll enc Tryd.prog W 0 (fun _ =>true) true Tryd.f4.params.toList args.toList ds p:=hA0
 rw [Tryd.params4] at hA hval
 obtain ⟨v0,v1,v2,d0,d1,d2,p0,p1,p2,rfl,rfl,rfl,h0,h1,h2⟩:=trodAll_three hA
 obtain ⟨rfl,rfl⟩:=trodVars_none hV
 obtain ⟨A,n,c,xs,rfl,hc,hn,hAn,hf,hr⟩:=zFC (hval 0 22 v0 rfl rfl) h0
 obtain ⟨z0,z1,rfl,hz0,hz1⟩:=zJT Tryd.underlying37 Tryd.underlying23 cellsU16 cellsP2 (hval 1 37 v1 rfl rfl) h1
 obtain ⟨x2,rfl,rfl,rfl,w2⟩:=open_int Tryd.underlying38 (hval 2 38 v2 rfl rfl) h2
 have hb2:0≤x2∧x2≤4294967295:=by simpa [Lit.wf,IntKind.min,IntKind.max,IntKind.signed,IntKind.bits] using w2
 obtain ⟨y2,rfl⟩:=Int.eq_ofNat_of_zero_le hb2.1
 refine (zJi A n c z0 z1 y2 hz0 hz1 (by omega) hc hAn xs hn hf W (zHt hL) hr).mono fun e W' ⟨he,hb⟩ =>?_
 subst he
 exact ⟨_,rfl,zGx laidOut Tryd.underlying4 rfl (fun t ht =>⟨by revert t;decide +kernel,by revert t;decide +kernel⟩) rfl hW' hb rfl⟩
theorem said:Rows.CodecToldSaid :=
 OpenClaim.holds_of_wide 4 Tryd.f4 rfl rfl rfl rfl rfl rfl rfl ⟨rfl,rfl,rfl,rfl,rfl⟩ rfl rfl rfl rfl rfl (by kernel_rfl) Tryd.func4 (by kernel_rfl)
  (of_decide_eq_true (by kernel_rfl)) (by unfold Func.isWrapper;first | (rw [if_pos (by decide +kernel)];kernel_rfl) | (rw [if_neg (by decide +kernel)];exact ⟨rfl,rfl⟩))
  (fun os started H enc _ =>lifted os started H enc)
theorem proved:Rows.CodecToldCardSaid :=
 Claim7.holds_tied_plain_at .later [] [.data] true (true,"9a6016e1d1577e1f1abc9860b02ac065a6efdc7ca6aad217a3bc78b841d5b91b") false
  said (fun _ h =>by cases h) (by kernel_rfl) (fun _ h =>by cases h) codecTold_row_tie rfl ⟨rfl,rfl⟩ (by kernel_rfl) rfl
  (fun f fn hf hfn =>by
   obtain rfl:f=4:=Option.some.inj ((show Tryd.prog.funcNamed "tephra/tephralaw10.CodecTold" = some 4 by kernel_rfl).symm.trans hf) |>.symm
   obtain rfl:fn=Tryd.f4:=(Option.some.inj (Tryd.func4.symm.trans hfn)).symm
   exact ⟨by kernel_rfl,fun j t ht =>by
    rw [Tryd.params4] at ht
    have hm:t ∈ [22,37,38]:=by simpa using Array.mem_of_getElem? ht
    have hall:([22,37,38].all fun u =>!Tryd.prog.wantsStandIn u)=true:=by kernel_rfl
    exact (show Tryd.prog.wantsStandIn t=false by simpa using List.all_eq_true.1 hall t hm)⟩)
  (by kernel_rfl)
end Go.Proofs.YtoclafdidjpndaaDoor.ctold
