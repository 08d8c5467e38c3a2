/- Texts of one proof. -/
import Derived.Lay
import Derived.SevenTiedAt
import Derived.Test.YtekchkfjgofnkaaGreatDoorCards
import Derived.Test.YtekchkfjgofnkaaGreatDoorTie
import Derived.Test.YtekchkfjgofnkaaGreatDoorMy48
set_option maxRecDepth 100000
set_option maxHeartbeats 8000000
namespace Go.Proofs.YtekchkfjgofnkaaGreatDoor.stfails
open Go.ChangeShapes Go.WideShapes Go.ChangeAt Go.RowKit
theorem own:ownKnob Tryz.prog.godebug=none:=by kernel_rfl
theorem laidOut:laidOutB Tryz.prog=true:=by kernel_rfl
theorem lifted (os:Os) (started:os.Started) (H:Type) (enc:TypeId×Value→H) :
  ReturnsInHanded {} Tryz.checked os 4 .any (fun w args =>(Rows.storeFailsSpec.pre enc Tryz.prog Tryz.f4 [] false w args∧laidMetH Tryz.prog [("tephra/crc.halves",Rows.laid_tephra_crc_halves)] w)∧sizedMet enc Tryz.prog Tryz.f4 (OpenSpec.ofChange Rows.storeFailsSpec) false w args)
   (Rows.storeFailsSpec.post enc Tryz.prog Tryz.f4 false true false false):=by
 refine returnsInHanded_of_change_and (C:=Tryz.checked) (X:=fun w _ =>laidMetH Tryz.prog [("tephra/crc.halves",Rows.laid_tephra_crc_halves)] w) (fun _ _ _ hh h =>h.of_heap hh) own started (by kernel_rfl) Tryz.func4
  (ChangeSpec.witness_shaped (enc:=enc) (C:=Tryz.checked) (os:=os) (X:=fun w _ =>laidMetH Tryz.prog [("tephra/crc.halves",Rows.laid_tephra_crc_halves)] w) false (World.laidAll Tryz.prog os [("tephra/crc.halves",Rows.laid_tephra_crc_halves)]) #[.slice none 0 0,.agg #[.int .i64 0,.int .i64 0,.string (tx []),.int .u64 0,.slice none 0 0,.int .u64 0,.int .u64 0,.string (tx []),.string (tx []),.slice none 0 0,.int .i64 0,.int .i64 0],.int .u8 0] 8 (World.laidAll_os _ _ _)
   (World.shaped_of_ZipB (by kernel_rfl) (by kernel_rfl)) (by kernel_rfl) (by kernel_rfl) (by kernel_rfl)
   (by rw [MakeChecks.laidMetH_plain _ _ _ (by kernel_rfl)];exact laidMet_laidAll _ (by kernel_rfl) (by kernel_rfl))) ?_
 intro W base args ds gs before hval0 hW _ _ hL _
 have hval:∀ (j:Nat) t v,Tryz.f4.params[j]? = some t→args[j]? = some v→Value.okWide Tryz.prog W .any base t v:=hval0
 have hW':=hW
 obtain ⟨p,q,hA0,hV,rfl,hfz,hnd⟩:=hW
 have hA:DataW.TrodAll enc Tryz.prog W 0 (fun _ =>true) true Tryz.f4.params.toList args.toList ds p:=hA0
 rw [Tryz.params4] at hA hval
 obtain ⟨v0,v1,v2,d0,d1,d2,p0,p1,p2,rfl,rfl,rfl,h0,h1,h2⟩:=trodAll_three hA
 obtain ⟨rfl,rfl⟩:=trodVars_none hV
 obtain ⟨A,n,c,xs,rfl,hc,hn,hAn,hf,hr⟩:=zMA (hval 0 33 v0 rfl rfl) h0
 obtain ⟨o,rfl,ho⟩:=zRM (hval 1 43 v1 rfl rfl) h1
 obtain ⟨x5,rfl,rfl,rfl,w5⟩:=open_int Tryz.underlying5 (hval 2 5 v2 rfl rfl) h2
 have hb5:0≤x5∧x5≤255:=by simpa [Lit.wf,IntKind.min,IntKind.max,IntKind.signed,IntKind.bits] using w5
 obtain ⟨y5,rfl⟩:=Int.eq_ofNat_of_zero_le hb5.1
 refine (zKk A n c xs hn hf o y5 (by omega) W (zRK hL) hr ho).mono fun e W' ⟨he,hb⟩ =>?_
 subst he
 exact ⟨_,rfl,zPM laidOut Tryz.underlying4 rfl (fun t ht =>⟨by revert t;decide +kernel,by revert t;decide +kernel⟩) rfl hW' hb rfl⟩
theorem said:Rows.StoreFailsSaid :=
 OpenClaim.holds_of_wide 4 Tryz.f4 rfl rfl rfl rfl rfl rfl rfl ⟨rfl,rfl,rfl,rfl,rfl⟩ rfl rfl rfl rfl rfl (by kernel_rfl) Tryz.func4 (by kernel_rfl)
  (of_decide_eq_true (by kernel_rfl)) (by unfold Func.isWrapper;first | (rw [if_pos (by decide +kernel)];kernel_rfl) | (rw [if_neg (by decide +kernel)];exact ⟨rfl,rfl⟩))
  (fun os started H enc _ =>lifted os started H enc)
theorem proved:Rows.StoreFailsCardSaid :=
 Claim7.holds_tied_plain_at .later [] [.data] true (true,"271901522340dc163e3f5c64e613867a9ecee15f7c5645939750a5a6dd8fff2f") false
  said (fun _ h =>by cases h) (by kernel_rfl) (fun _ h =>by cases h) storeFails_row_tie rfl ⟨rfl,rfl⟩ (by kernel_rfl) rfl
  (fun f fn hf hfn =>by
   obtain rfl:f=4:=Option.some.inj ((show Tryz.prog.funcNamed "tephra/tephralaw15.StoreFails" = some 4 by kernel_rfl).symm.trans hf) |>.symm
   obtain rfl:fn=Tryz.f4:=(Option.some.inj (Tryz.func4.symm.trans hfn)).symm
   exact ⟨by kernel_rfl,fun j t ht =>by
    rw [Tryz.params4] at ht
    have hm:t ∈ [33,43,5]:=by simpa using Array.mem_of_getElem? ht
    have hall:([33,43,5].all fun u =>!Tryz.prog.wantsStandIn u)=true:=by kernel_rfl
    exact (show Tryz.prog.wantsStandIn t=false by simpa using List.all_eq_true.1 hall t hm)⟩)
  (by kernel_rfl)
end Go.Proofs.YtekchkfjgofnkaaGreatDoor.stfails
