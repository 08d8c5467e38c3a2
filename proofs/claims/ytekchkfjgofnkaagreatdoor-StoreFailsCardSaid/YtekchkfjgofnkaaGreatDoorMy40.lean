/- Texts of one proof. -/
import Derived.Test.YtekchkfjgofnkaaGreatDoorMy38
import Derived.Test.YtekchkfjgofnkaaGreatDoorMy39
set_option maxRecDepth 100000
set_option maxHeartbeats 8000000
namespace Go.Proofs.YtekchkfjgofnkaaGreatDoor
open Go.RowKit
def stQ (nm sd B:List UInt8) (M:Nat) (σ:FsSt) (i:Nat) (σi:FsSt):Prop:=(i<4∧StG sd B M i σ σi)∨(i=4∧StZ nm sd B M 0 σ σi)
theorem zKU (p b N base:Nat) (σ:FsSt) (F:List UInt8→Option Value) (hN:N≤50000) (M:Nat) (hM:M≤50000000) (hsz:SzS M σ) (hf:zAN σ.f) (hg:zAN σ.g) (hdn:σ.down=false) (nm sd B:List UInt8) (hne:nm≠sd) (hnm:nm.length≤1000) (hsd:sd.length≤1000) (ver:Int) (A:Option Addr) (n c K:Nat) (hK:B.length=K) (hKM:K≤M) (w:World) (hbase:base≤w.heap.size) (hx:FsAt w base p b N σ F)
  (HP:Hid (∀ W,Below w.heap.size w W→Calls Tryz.prog 68 #[.int .i64 ver,.slice A n c] W fun e w' =>(∃ A1 c1,e=.returned (.tuple #[.slice A1 K c1,.int .i64 0])∧(A1=none→c1=0)∧w'.ownsRow W.heap.size 5 1 (.slice A1 K c1) K (B.map bv))∧Below W.heap.size W w')) :
  Calls Tryz.prog 46 #[.pointer (some ⟨p,0,none⟩),.string (tx nm),.string (tx sd),.int .i64 ver,.slice A n c] w fun e w' =>∃ z:Int,e=.returned (.int .i64 z)∧stW base p b N F w (StZ nm sd B M z σ) 4 w':=by
 have hbw:∀ k,zAU p b F k→k<w.heap.size:=zHA hx.2 hx.1
 have z1:(w.alloc (.cells #[.pointer (some ⟨p,0,none⟩)] 27)).heap.size=w.heap.size+1:=by simp
 have z2:((w.alloc (.cells #[.pointer (some ⟨p,0,none⟩)] 27)).alloc (.cells #[.string (tx nm)] 9)).heap.size=w.heap.size+1+1:=by simp
 have z3:(((w.alloc (.cells #[.pointer (some ⟨p,0,none⟩)] 27)).alloc (.cells #[.string (tx nm)] 9)).alloc (.cells #[.string (tx sd)] 9)).heap.size=w.heap.size+3:=by simp
 have HA1:Below w.heap.size w (w.alloc (.cells #[.pointer (some ⟨p,0,none⟩)] 27)):=(Below.refl _ _).alloc (Nat.le_refl _) _
 have HA2:Below w.heap.size w ((w.alloc (.cells #[.pointer (some ⟨p,0,none⟩)] 27)).alloc (.cells #[.string (tx nm)] 9)):=HA1.alloc HA1.size _
 have HA3:Below w.heap.size w (((w.alloc (.cells #[.pointer (some ⟨p,0,none⟩)] 27)).alloc (.cells #[.string (tx nm)] 9)).alloc (.cells #[.string (tx sd)] 9)):=HA2.alloc HA2.size _
 have h1:=zAE w (.cells #[.pointer (some ⟨p,0,none⟩)] 27)
 have h2:=zAE (w.alloc (.cells #[.pointer (some ⟨p,0,none⟩)] 27)) (.cells #[.string (tx nm)] 9)
 have h3:=zAE ((w.alloc (.cells #[.pointer (some ⟨p,0,none⟩)] 27)).alloc (.cells #[.string (tx nm)] 9)) (.cells #[.string (tx sd)] 9)
 rw [z1] at h2
 rw [z2] at h3
 have e2:=(Below.heap_alloc ((w.alloc (.cells #[.pointer (some ⟨p,0,none⟩)] 27)).alloc (.cells #[.string (tx nm)] 9)) (.cells #[.string (tx sd)] 9) (w.heap.size+1) (by rw [z2];omega)).trans h2
 have e1:=(Below.heap_alloc ((w.alloc (.cells #[.pointer (some ⟨p,0,none⟩)] 27)).alloc (.cells #[.string (tx nm)] 9)) (.cells #[.string (tx sd)] 9) w.heap.size (by rw [z2];omega)).trans ((Below.heap_alloc (w.alloc (.cells #[.pointer (some ⟨p,0,none⟩)] 27)) (.cells #[.string (tx nm)] 9) w.heap.size (by rw [z1];omega)).trans h1)
 have q1:=zAA (i:=0) e1 rfl
 obtain ⟨w1,hw1⟩:∃ x,x=(((w.alloc (.cells #[.pointer (some ⟨p,0,none⟩)] 27)).alloc (.cells #[.string (tx nm)] 9)).alloc (.cells #[.string (tx sd)] 9)):=⟨_,rfl⟩
 rw [← hw1] at HA3 h3 e1 e2 z3
 have HPUT:=yh (HP.out w1 HA3)
 have HB1:=yh HA3
 have HE1:=yh e1
 have HE2:=yh e2
 have HE3:=yh h3
 have HZ3:=yh z3
 have HW1:=yh hw1
 have HX:=yh hx
 have HBW:=yh hbw
 have HSZ:=yh hsz
 have HF:=yh hf
 have HG:=yh hg
 have HDN:=yh hdn
 have HNE:=yh hne
 have hne2:((tx nm).toList == (tx sd).toList)=false:=by rw [beq_eq_false_iff_ne];exact fun e =>hne (by rwa [zBd,zBd] at e)
 have HK:=yh hK
 have HBASE:=yh hbase
 clear HA1 HA2 HA3 h1 h2 h3 e1 e2 z1 z2 z3 hw1 hx hbw hsz hf hg hne hK hbase hdn
 go_enter Tryz.func46,Tryz.ntmps46
 go_wp2_with fail
 rw [← HW1.out]
 refine HPUT.out.mono ?_
 rintro e w4 ⟨⟨A1,c1,rfl,hA1,ho⟩,hb4⟩
 have hb45:=(Below.refl w4.heap.size w4).alloc (Nat.le_refl _) (.cells #[.slice A1 K c1] 59)
 have hx5:=zAE w4 (.cells #[.slice A1 K c1] 59)
 have f1:=(Below.heap_alloc w4 (.cells #[.slice A1 K c1] 59) w.heap.size (by have:=HB1.out.size;have:=hb4.size;have:=HZ3.out;omega)).trans ((hb4.block w.heap.size (by have:=HZ3.out;omega)).trans HE1.out)
 have f2:=(Below.heap_alloc w4 (.cells #[.slice A1 K c1] 59) (w.heap.size+1) (by have:=HB1.out.size;have:=hb4.size;have:=HZ3.out;omega)).trans ((hb4.block (w.heap.size+1) (by have:=HZ3.out;omega)).trans HE2.out)
 have f3:=(Below.heap_alloc w4 (.cells #[.slice A1 K c1] 59) (w.heap.size+1+1) (by have:=HB1.out.size;have:=hb4.size;have:=HZ3.out;omega)).trans ((hb4.block (w.heap.size+1+1) (by have:=HZ3.out;omega)).trans HE3.out)
 have q2:=zAA (i:=0) f2 rfl
 have q3:=zAA (i:=0) f3 rfl
 have z5:(w4.alloc (.cells #[.slice A1 K c1] 59)).heap.size=w4.heap.size+1:=by simp
 obtain ⟨w5,hw5⟩:∃ x,x=w4.alloc (.cells #[.slice A1 K c1] 59):=⟨_,rfl⟩
 rw [← hw5] at hb45 hx5 f1 f2 f3 z5
 have HB5:=yh ((HB1.out.trans (hb4.mono HB1.out.size)).trans (hb45.mono (HB1.out.trans (hb4.mono HB1.out.size)).size))
 have HSZ4:Hid (w.heap.size+3≤w4.heap.size):=by have:=HZ3.out;have:=hb4.size;show _≤_;omega
 have HO5:Hid (w5.ownsRow (w.heap.size+3) 5 1 (.slice A1 K c1) K (B.map bv)):=zAT (zAK ho hb45) (by have:=HZ3.out;omega)
 have HA1:=yh hA1
 have HX5:=yh hx5
 have HF1:=yh f1
 have HF2:=yh f2
 have HF3:=yh f3
 have HZ5:=yh z5
 have HW5:=yh hw5
 clear hb4 hb45 hx5 f1 f2 f3 z5 hw5 ho hA1
 go_wp2_with fail
 rw [← HW5.out]
 have hb56:=(Below.refl w5.heap.size w5).alloc (Nat.le_refl _) (.cells #[.func (.func 70) #[] #[.pointer (some ⟨w.heap.size,0,none⟩),.pointer (some ⟨w.heap.size+1+1,0,none⟩)],.func (.func 72) #[] #[.pointer (some ⟨w.heap.size,0,none⟩),.pointer (some ⟨w.heap.size+1+1,0,none⟩),.pointer (some ⟨w4.heap.size,0,none⟩)],.func (.func 74) #[] #[.pointer (some ⟨w.heap.size,0,none⟩),.pointer (some ⟨w.heap.size+1+1,0,none⟩)],.func (.func 75) #[] #[.pointer (some ⟨w.heap.size,0,none⟩),.pointer (some ⟨w.heap.size+1+1,0,none⟩),.pointer (some ⟨w.heap.size+1,0,none⟩)]] 80)
 have hx6:=zAE w5 (.cells #[.func (.func 70) #[] #[.pointer (some ⟨w.heap.size,0,none⟩),.pointer (some ⟨w.heap.size+1+1,0,none⟩)],.func (.func 72) #[] #[.pointer (some ⟨w.heap.size,0,none⟩),.pointer (some ⟨w.heap.size+1+1,0,none⟩),.pointer (some ⟨w4.heap.size,0,none⟩)],.func (.func 74) #[] #[.pointer (some ⟨w.heap.size,0,none⟩),.pointer (some ⟨w.heap.size+1+1,0,none⟩)],.func (.func 75) #[] #[.pointer (some ⟨w.heap.size,0,none⟩),.pointer (some ⟨w.heap.size+1+1,0,none⟩),.pointer (some ⟨w.heap.size+1,0,none⟩)]] 80)
 rw [HZ5.out] at hx6
 obtain ⟨w6,hw6⟩:∃ x,x=w5.alloc (.cells #[.func (.func 70) #[] #[.pointer (some ⟨w.heap.size,0,none⟩),.pointer (some ⟨w.heap.size+1+1,0,none⟩)],.func (.func 72) #[] #[.pointer (some ⟨w.heap.size,0,none⟩),.pointer (some ⟨w.heap.size+1+1,0,none⟩),.pointer (some ⟨w4.heap.size,0,none⟩)],.func (.func 74) #[] #[.pointer (some ⟨w.heap.size,0,none⟩),.pointer (some ⟨w.heap.size+1+1,0,none⟩)],.func (.func 75) #[] #[.pointer (some ⟨w.heap.size,0,none⟩),.pointer (some ⟨w.heap.size+1+1,0,none⟩),.pointer (some ⟨w.heap.size+1,0,none⟩)]] 80):=⟨_,rfl⟩
 rw [← hw6] at hb56 hx6 ⊢
 have HB6:=yh (HB5.out.trans (hb56.mono HB5.out.size))
 have HX6:=yh hx6
 have HO6:=yh (zAK HO5.out hb56)
 have HF1:=yh ((hb56.block _ (zAJ HF1.out)).trans HF1.out)
 have HF2:=yh ((hb56.block _ (zAJ HF2.out)).trans HF2.out)
 have HF3:=yh ((hb56.block _ (zAJ HF3.out)).trans HF3.out)
 have HX5:=yh ((hb56.block _ (zAJ HX5.out)).trans HX5.out)
 clear hb56 hx6 hw6
 -- what is kept behind acts
 have hkeep:∀ W,Turn (zAU p b F) w6 W→∀ k o,w.heap.size≤k→w6.heap[k]? = some o→W.heap[k]? = some o:=fun W hT k o hk ho =>(hT.2.2.2.2 k (zAJ ho) (fun hs =>by have:=HBW.out k hs;omega)).trans ho
 have hmain:=zQK 4 4 (by omega) ⟨w4.heap.size+1,0,none⟩
  (fun i =>match i with | 0 =>70 | 1 =>72 | 2 =>74 | _ =>75) (fun i =>match i with | 0 =>#[.pointer (some ⟨w.heap.size,0,none⟩),.pointer (some ⟨w.heap.size+1+1,0,none⟩)] | 1 =>#[.pointer (some ⟨w.heap.size,0,none⟩),.pointer (some ⟨w.heap.size+1+1,0,none⟩),.pointer (some ⟨w4.heap.size,0,none⟩)] | 2 =>#[.pointer (some ⟨w.heap.size,0,none⟩),.pointer (some ⟨w.heap.size+1+1,0,none⟩)] | _ =>#[.pointer (some ⟨w.heap.size,0,none⟩),.pointer (some ⟨w.heap.size+1+1,0,none⟩),.pointer (some ⟨w.heap.size+1,0,none⟩)])
  (fun i _ =>match i with
   | 0 =>enters_of Tryz.func70 (by kernel_rfl) rfl
   | 1 =>enters_of Tryz.func72 (by kernel_rfl) rfl
   | 2 =>enters_of Tryz.func74 (by kernel_rfl) rfl
   | _+3 =>enters_of Tryz.func75 (by kernel_rfl) rfl)
  (fun i W =>stW base p b N F w6 (stQ nm sd B M σ i) i W) (fun z W =>stW base p b N F w6 (StZ nm sd B M z σ) 4 W)
  (fun i W hi ⟨σi,Ni,Fi,g1,g2,g3,g4,g5⟩ =>by
   have hrow:=hkeep W g3 _ _ (by have:=HSZ4.out;omega) HX6.out
   match i,hi with
   | 0,_ =>exact zAA (i:=0) hrow rfl
   | 1,_ =>exact zAA (i:=1) hrow rfl
   | 2,_ =>exact zAA (i:=2) hrow rfl
   | 3,_ =>exact zAA (i:=3) hrow rfl)
  (fun i W hi ⟨σi,Ni,Fi,g1,g2,g3,g4,g5⟩ =>by
   have k1:=hkeep W g3 _ _ (Nat.le_refl _) HF1.out
   have k2:=hkeep W g3 _ _ (Nat.le_add_right _ _) HF2.out
   have k3:=hkeep W g3 _ _ (Nat.le_add_right _ _) HF3.out
   have k4:=hkeep W g3 _ _ (by have:=HSZ4.out;omega) HX5.out
   have hbW:base≤W.heap.size:=Nat.le_trans HBASE.out (Nat.le_trans HB6.out.size g3.2.2.2.1)
   obtain ⟨g5a,hst⟩ | ⟨g5a,_⟩:=g5
   ·have hsm:=hst.sz.small (by omega:M≤100000000)
    match i,hi with
    | 0,_ =>
     refine clo1 _ _ p sd W k1 k3 _ ((zRX p b Ni base σi Fi (by omega) hst.hf hst.hg W g1 sd (Nat.le_trans hsd (by unfold maxLen;omega))).mono ?_)
     rintro e w' ⟨z,rfl,⟨hn,rfl,hb⟩ | ⟨hy,hd⟩⟩
     ·exact ⟨0,rfl,fun _ =>⟨σi,Ni,Fi,g1.below hb,by omega,g3.trans (Turn.of_below (S:=zAU p b F) hb) (fun _ _ h =>h),g4,.inl ⟨by omega,hst.none_ hn⟩⟩,fun h =>absurd rfl h⟩
     ·refine ⟨z,rfl,?_⟩
      have h:=zGP g2 g3 g4 hd (fun σ' ho =>zMN HNE.out hst hy ho)
      exact ⟨fun hz =>by obtain ⟨a,b',c',d1,d2,d3,d4,d5⟩:=h.1 hz;exact ⟨a,b',c',d1,d2,d3,d4,.inl ⟨by omega,d5⟩⟩,fun hz =>by obtain ⟨a,b',c',d1,d2,d3,d4,d5⟩:=h.2 hz;exact ⟨a,b',c',d1,by omega,d3,d4,d5⟩⟩
    | 1,_ =>
     have ho:W.ownsRow (w.heap.size+3) 5 1 (.slice A1 K c1) K (B.map bv):=zAR HO6.out (fun g hg =>g3.2.2.2.2 g (zAP HO6.out g hg) (fun hs =>by have:=HBW.out g hs;have:=zAG HO6.out g hg;omega))
     refine clo2 _ _ _ p sd A1 K c1 W k1 k3 k4 _ ((zKq p b Ni base σi Fi (by omega) hsm hst.hf hst.hg W hbW g1 sd (Nat.le_trans hsd (by unfold maxLen;omega)) W.heap.size (Nat.le_refl _) A1 K c1 B HA1.out (by omega) (zAD.of_own ho)).mono ?_)
     rintro e w' ⟨z,rfl,hd⟩
     refine ⟨z,rfl,?_⟩
     have h:=zGP g2 g3 g4 hd (fun σ' ho =>zMM HNE.out hst (by have:=HK.out;omega) hsd ho)
     exact ⟨fun hz =>by obtain ⟨a,b',c',d1,d2,d3,d4,d5⟩:=h.1 hz;exact ⟨a,b',c',d1,d2,d3,d4,.inl ⟨by omega,d5⟩⟩,fun hz =>by obtain ⟨a,b',c',d1,d2,d3,d4,d5⟩:=h.2 hz;exact ⟨a,b',c',d1,by omega,d3,d4,d5⟩⟩
    | 2,_ =>
     refine clo3 _ _ p sd W k1 k3 _ ((zKB p b Ni base σi Fi (by omega) hst.hf hst.hg W g1 sd (Nat.le_trans hsd (by unfold maxLen;omega))).mono ?_)
     rintro e w' ⟨z,rfl,hd⟩
     refine ⟨z,rfl,?_⟩
     have h:=zGP g2 g3 g4 hd (fun σ' ho =>zPv HNE.out hst (by have:=HK.out;omega) hsd ho)
     exact ⟨fun hz =>by obtain ⟨a,b',c',d1,d2,d3,d4,d5⟩:=h.1 hz;exact ⟨a,b',c',d1,d2,d3,d4,.inl ⟨by omega,d5⟩⟩,fun hz =>by obtain ⟨a,b',c',d1,d2,d3,d4,d5⟩:=h.2 hz;exact ⟨a,b',c',d1,by omega,d3,d4,d5⟩⟩
    | 3,_ =>
     refine clo4 _ _ _ p sd nm W k1 k3 k2 _ ((zMG p b Ni base σi Fi (by omega) hst.hf hst.hg W g1 sd (Nat.le_trans hsd (by unfold maxLen;omega)) nm (Nat.le_trans hnm (by unfold maxLen;omega))).mono ?_)
     rintro e w' ⟨z,rfl,hd⟩
     refine ⟨z,rfl,?_⟩
     have h:=zGP g2 g3 g4 hd (fun σ' ho =>zMO HNE.out hnm hst (by have:=HK.out;omega) ho)
     exact ⟨fun hz =>by obtain ⟨a,b',c',d1,d2,d3,d4,d5⟩:=h.1 hz;exact ⟨a,b',c',d1,d2,d3,d4,.inr ⟨rfl,d5⟩⟩,fun hz =>by obtain ⟨a,b',c',d1,d2,d3,d4,d5⟩:=h.2 hz;exact ⟨a,b',c',d1,by omega,d3,d4,d5⟩⟩
   ·omega)
  w6 ⟨σ,N,F,HX.out.below HB6.out,by omega,Turn.refl _ _,fun k hk =>.inl hk,.inl ⟨by omega,StG.start HF.out HG.out HSZ.out HDN.out⟩⟩
 refine hmain.mono ?_
 rintro e w7 ⟨z,rfl,hy,hn⟩
 have HY:=yh hy
 have HN:=yh hn
 clear hmain hy hn hkeep
 go_wp2
 go_ret
 by_cases hz:z=0
 ·subst hz
  obtain ⟨σi,Ni,Fi,g1,g2,g3,g4,g5⟩:=HY.out rfl
  rcases g5 with ⟨h,_⟩ | ⟨_,h⟩
  ·omega
  ·exact ⟨0,rfl,σi,Ni,Fi,g1,g2,(Turn.of_below HB6.out).trans g3 (fun _ _ h =>h),fun k hk =>(g4 k hk).imp id (fun h =>Nat.le_trans HB6.out.size h),h⟩
 ·obtain ⟨σi,Ni,Fi,g1,g2,g3,g4,g5⟩:=HN.out hz
  exact ⟨z,rfl,σi,Ni,Fi,g1,g2,(Turn.of_below HB6.out).trans g3 (fun _ _ h =>h),fun k hk =>(g4 k hk).imp id (fun h =>Nat.le_trans HB6.out.size h),g5⟩
theorem JT.pick {w W:World} {base p b m:Nat} {T:Nat→Prop} {P:FsSt→Prop} (h:JT w base p b T P m W):∃ τ,P τ∧JT w base p b T (fun x =>x=τ) m W:=by
 obtain ⟨σ,N,F,h1,h2,h3,h4,hT,h5,h6⟩:=h
 exact ⟨σ,h6,σ,N,F,h1,h2,h3,h4,hT,h5,rfl⟩
theorem JT.at_ {w W:World} {base p b m:Nat} {T:Nat→Prop} {σ:FsSt} (h:JT w base p b T (fun x =>x=σ) m W):∃ N F,FsAt W base p b N σ F∧N≤m:=by
 obtain ⟨σ',N,F,h1,h2,_,_,_,_,rfl⟩:=h
 exact ⟨N,F,h1,h2⟩
section
variable {w W:World} {base p b m:Nat} {T:Nat→Prop} {σ:FsSt}
theorem zNM (nm body:List UInt8) (hnm:nm.length≤1000) (hs:SzS 50000000 σ) (hf:zAN σ.f) (hg:zAN σ.g) (h:JT w base p b T (fun x =>x=σ) m W) (hm:m≤100000) (w1:World) (hb:Below W.heap.size W w1) (A:Option Addr) (k c:Nat) (hA:A=none→c=0) (hk:k≤50000000) (hr:zAD w1 w1.heap.size 1 A k (body.map bv)) :
  Calls Tryz.prog 73 #[.pointer (some ⟨p,0,none⟩),.string (tx nm),.slice A k c] w1 fun e w' =>∃ (z:Int) (τ:FsSt),e=.returned (.int .i64 z)∧Past T w1 w'∧Outs σ ⟨0,nm,[],body,0,[]⟩ τ z∧JT w base p b T (fun x =>x=τ) (m+2) w':=by
 obtain ⟨σ',N,F,h1,h2,h3,h4,hT,h5,h6⟩:=h.below hb
 subst h6
 refine (zKq p b N base _ F (by omega) (hs.small (by omega)) hf hg w1 h4 h1 nm (Nat.le_trans hnm (by unfold maxLen;omega)) w1.heap.size (Nat.le_refl _) A k c body hA (by omega) hr).mono ?_
 rintro e w' ⟨z,rfl,τ,N',F',a1,a2,a3,a4,a5⟩
 have hj:=zED (P:=fun x =>x=τ) (m:=m+2) h3 h4 hT h5 a1 (by omega) a3 a4 rfl
 exact ⟨z,τ,rfl,hj.2,a5,hj.1⟩
theorem zRF (nm:List UInt8) (hnm:nm.length≤1000) (hf:zAN σ.f) (hg:zAN σ.g) (h:JT w base p b T (fun x =>x=σ) m W) (hm:m≤100000) :
  Calls Tryz.prog 52 #[.pointer (some ⟨p,0,none⟩),.string (tx nm)] W fun e w' =>∃ (z:Int) (τ:FsSt),e=.returned (.int .i64 z)∧Past T W w'∧Outs σ ⟨2,nm,[],[],0,[]⟩ τ z∧JT w base p b T (fun x =>x=τ) (m+2) w':=by
 obtain ⟨σ',N,F,h1,h2,h3,h4,hT,h5,h6⟩:=h
 subst h6
 refine (zKB p b N base _ F (by omega) hf hg W h1 nm (Nat.le_trans hnm (by unfold maxLen;omega))).mono ?_
 rintro e w' ⟨z,rfl,τ,N',F',a1,a2,a3,a4,a5⟩
 have hj:=zED (P:=fun x =>x=τ) (m:=m+2) h3 h4 hT h5 a1 (by omega) a3 a4 rfl
 exact ⟨z,τ,rfl,hj.2,a5,hj.1⟩
theorem zRD (h:JT w base p b T (fun x =>x=σ) m W) (n:Int) :
  Calls Tryz.prog 10 #[.pointer (some ⟨p,0,none⟩),.int .i64 n] W fun e w' =>e=.returned (.tuple #[])∧Past T W w'∧JT w base p b T (fun x =>x=⟨σ.fl,σ.down,zCn n,σ.g⟩) m w':=by
 obtain ⟨σ',N,F,h1,h2,h3,h4,hT,h5,h6⟩:=h
 subst h6
 refine (zOU p b _ _ _ n W h1.1).mono ?_
 rintro e w' ⟨rfl,hx,ht⟩
 have ht2:Turn (zAU p b F) W w':=⟨ht.1,ht.2.1,ht.2.2.1,ht.2.2.2.1,fun k hk hs =>ht.2.2.2.2 k hk (fun e =>hs (.inl e))⟩
 have hj:=zED (P:=fun x =>x=⟨_,_,zCn n,_⟩) (m:=m) h3 h4 hT h5 (⟨hx,zKP h1.2 h1.1 ht⟩:FsAt w' base p b N ⟨_,_,zCn n,_⟩ F) h2 ht2 (fun k hk =>.inl hk) rfl
 exact ⟨rfl,hj.2,hj.1⟩
theorem zJZ (hs:SzS 40000000 σ) (hf:zAN σ.f) (hg:zAN σ.g) (hdn:σ.down=false) (h:JT w base p b T (fun x =>x=σ) m W) (hm:m≤50000) (nm sd B:List UInt8) (hne:nm≠sd) (hnm:nm.length≤1000) (hsd:sd.length≤1000) (hB:B.length≤40000000) (ver:Int) (A:Option Addr) (n c:Nat)
  (HP:Hid (∀ W1,Below W.heap.size W W1→Calls Tryz.prog 68 #[.int .i64 ver,.slice A n c] W1 fun e w' =>(∃ A1 c1,e=.returned (.tuple #[.slice A1 B.length c1,.int .i64 0])∧(A1=none→c1=0)∧w'.ownsRow W1.heap.size 5 1 (.slice A1 B.length c1) B.length (B.map bv))∧Below W1.heap.size W1 w')) :
  Calls Tryz.prog 46 #[.pointer (some ⟨p,0,none⟩),.string (tx nm),.string (tx sd),.int .i64 ver,.slice A n c] W fun e w' =>∃ (z:Int) (τ:FsSt),e=.returned (.int .i64 z)∧Past T W w'∧StZ nm sd B 40000000 z σ τ∧JT w base p b T (fun x =>x=τ) (m+8) w'∧W.heap.size≤w'.heap.size:=by
 obtain ⟨σ',N,F,h1,h2,h3,h4,hT,h5,h6⟩:=h
 subst h6
 refine (zKU p b N base _ F (by omega) 40000000 (by omega) hs hf hg hdn nm sd B hne hnm hsd ver A n c _ rfl hB W h4 h1 HP).mono ?_
 rintro e w' ⟨z,rfl,τ,N',F',g1,g2,g3,g4,g5⟩
 have hj:=zED (P:=fun x =>x=τ) (m:=m+8) h3 h4 hT h5 g1 (by omega) g3 g4 rfl
 exact ⟨z,τ,rfl,hj.2,g5,hj.1,g3.2.2.2.1⟩
theorem zRE (h:JT w base p b T (fun x =>x=σ) m W) (v n:Nat) (hv:1≤v∧v≤3) (xs:List Rw) (hnx:xs.length=n) (hm:zAe (v:Int) xs) (hf:∀ x ∈ xs,Fits x.r x.l) (hl60:∀ x ∈ xs,x.l.length≤1000000) (h30:xs.length≤1000) (s:Nat) (hlog:σ.fl [108,111,103]=some ⟨zAS v (v:Int) xs,s⟩) (hl:Laid W) :
  Calls Tryz.prog 27 #[.pointer (some ⟨p,0,none⟩),.string (tx [108,111,103])] W (zDO v xs n W):=by
 obtain ⟨N,F,h1,_⟩:=h.at_
 exact zKT p b N base σ F [108,111,103] (by unfold maxLen;simp) v n hv xs hnx hm hf hl60 h30 _ hlog W hl h1
end
def zKo (w:World) (base p b m:Nat) (T:Nat→Prop) (σ:FsSt) (v n:Nat) (G:Nat) (D:List UInt8) (zs:List Rw) (x:Rw) (es:List Value) (W:World) (e:Ending) (w':World):Prop :=
 Past T W w'∧∃ (z:Int) (τ:FsSt),Outs σ ⟨0,[108,111,103],[],D,0,[]⟩ τ z∧((z=0∧∃ A' c' E' d' zs' lo,e=.returned (.tuple #[.agg #[.int .i64 (v:Int),.slice A' (n+1) c',.slice E' (n+1) d',.int .i64 ((G+D.length:Nat):Int)],.int .i64 0])∧zs'.map Rw.say=(zs++[x]).map Rw.say∧zAj w' lo (n+1) (.slice A' (n+1) c') (.slice E' (n+1) d') zs' (es++[.int .i64 ((G+D.length:Nat):Int)])∧W.heap.size≤lo∧JT w base p b (fun k =>T k∨(lo≤k∧k<w'.heap.size)) (fun y =>y=τ) (m+2) w') ∨
  (z≠0∧e=.returned (.tuple #[.agg #[.int .i64 0,.slice none 0 0,.slice none 0 0,.int .i64 0],.int .i64 z])∧JT w base p b T (fun y =>y=τ) (m+2) w'))
theorem zJX {w W:World} {base p b m:Nat} {T:Nat→Prop} {σ:FsSt} (v:Nat) (zs:List Rw) (A E:Option Addr) (n c d lo G:Nat) (D:List UInt8) (es:List Value) (hn:n≤1000) (hok:∀ x ∈ zs,Fits x.r x.l∧Nums x.r x.l∧x.n≤1000) (hmz:zAe (v:Int) zs) (r:Rc) (xA:Option Addr) (xn xc:Nat) (l:List Dp) (hmr:MayP (v:Int) r l) (hfr:Fits r l) (hnr:Nums r l) (hxn:xn≤1000000) (hxA:xA=none→xc=0) (hone:∀ u ∈ es,u.oneCell'=true)
  (hl:Laid W) (hro:zAj W lo n (.slice A n c) (.slice E n d) zs es) (hit:InT T (.slice A n c) (.slice E n d) zs) (hr:∀ W',Past T W W'→Below base w W'→zAD W' W'.heap.size 3 xA xn (dps l)) (hs:SzS 50000000 σ) (hf0:zAN σ.f) (hg0:zAN σ.g) (hj:JT w base p b T (fun y =>y=σ) m W) (hm:m≤50000) (hD:D=frs (payL (v:Int) (zAV (v:Int) [] zs) r l)) (hC:D.length≤40000000) (hG:G+D.length≤1000000000) :
  Calls Tryz.prog 61 #[.pointer (some ⟨p,0,none⟩),.string (tx [108,111,103]),.agg #[.int .i64 (v:Int),.slice A n c,.slice E n d,.int .i64 (G:Int)],.agg #[.int .i64 r.kind,.string (tx r.target),.int .u64 r.rule,.slice xA xn xc,.int .u64 r.out,.int .u64 r.time,.string (tx r.tag)]] W (zKo w base p b m T σ v n G D zs ⟨r,xA,xn,xc,l⟩ es W):=by
 have z1:(W.alloc (.cells #[.int .i64 (v:Int),.slice A n c,.slice E n d,.int .i64 (G:Int)] 48)).heap.size=W.heap.size+1:=by simp
 have z2:((W.alloc (.cells #[.int .i64 (v:Int),.slice A n c,.slice E n d,.int .i64 (G:Int)] 48)).alloc (.cells #[.int .i64 r.kind,.string (tx r.target),.int .u64 r.rule,.slice xA xn xc,.int .u64 r.out,.int .u64 r.time,.string (tx r.tag)] 41)).heap.size=W.heap.size+2:=by simp
 have b1:Below W.heap.size W (W.alloc (.cells #[.int .i64 (v:Int),.slice A n c,.slice E n d,.int .i64 (G:Int)] 48)):=(Below.refl _ _).alloc (Nat.le_refl _) _
 have b2:Below W.heap.size W ((W.alloc (.cells #[.int .i64 (v:Int),.slice A n c,.slice E n d,.int .i64 (G:Int)] 48)).alloc (.cells #[.int .i64 r.kind,.string (tx r.target),.int .u64 r.rule,.slice xA xn xc,.int .u64 r.out,.int .u64 r.time,.string (tx r.tag)] 41)):=b1.alloc b1.size _
 have b3:Below W.heap.size W (((W.alloc (.cells #[.int .i64 (v:Int),.slice A n c,.slice E n d,.int .i64 (G:Int)] 48)).alloc (.cells #[.int .i64 r.kind,.string (tx r.target),.int .u64 r.rule,.slice xA xn xc,.int .u64 r.out,.int .u64 r.time,.string (tx r.tag)] 41)).alloc (.cells #[.int .i64 0,.slice none 0 0,.slice none 0 0,.int .i64 0] 48)):=b2.alloc b2.size _
 have e2:=zAE (W.alloc (.cells #[.int .i64 (v:Int),.slice A n c,.slice E n d,.int .i64 (G:Int)] 48)) (.cells #[.int .i64 r.kind,.string (tx r.target),.int .u64 r.rule,.slice xA xn xc,.int .u64 r.out,.int .u64 r.time,.string (tx r.tag)] 41)
 rw [z1] at e2
 have e1:=(Below.heap_alloc (W.alloc (.cells #[.int .i64 (v:Int),.slice A n c,.slice E n d,.int .i64 (G:Int)] 48)) (.cells #[.int .i64 r.kind,.string (tx r.target),.int .u64 r.rule,.slice xA xn xc,.int .u64 r.out,.int .u64 r.time,.string (tx r.tag)] 41) W.heap.size (by rw [z1];omega)).trans (zAE W (.cells #[.int .i64 (v:Int),.slice A n c,.slice E n d,.int .i64 (G:Int)] 48))
 have e3:=zAE ((W.alloc (.cells #[.int .i64 (v:Int),.slice A n c,.slice E n d,.int .i64 (G:Int)] 48)).alloc (.cells #[.int .i64 r.kind,.string (tx r.target),.int .u64 r.rule,.slice xA xn xc,.int .u64 r.out,.int .u64 r.time,.string (tx r.tag)] 41)) (.cells #[.int .i64 0,.slice none 0 0,.slice none 0 0,.int .i64 0] 48)
 rw [z2] at e3
 have z3:(((W.alloc (.cells #[.int .i64 (v:Int),.slice A n c,.slice E n d,.int .i64 (G:Int)] 48)).alloc (.cells #[.int .i64 r.kind,.string (tx r.target),.int .u64 r.rule,.slice xA xn xc,.int .u64 r.out,.int .u64 r.time,.string (tx r.tag)] 41)).alloc (.cells #[.int .i64 0,.slice none 0 0,.slice none 0 0,.int .i64 0] 48)).heap.size=W.heap.size+3:=by simp
 have hz3:=Below.heap_alloc ((W.alloc (.cells #[.int .i64 (v:Int),.slice A n c,.slice E n d,.int .i64 (G:Int)] 48)).alloc (.cells #[.int .i64 r.kind,.string (tx r.target),.int .u64 r.rule,.slice xA xn xc,.int .u64 r.out,.int .u64 r.time,.string (tx r.tag)] 41)) (.cells #[.int .i64 0,.slice none 0 0,.slice none 0 0,.int .i64 0] 48)
 replace e1:=(hz3 W.heap.size (by rw [z2];omega)).trans e1
 replace e2:=(hz3 (W.heap.size+1) (by rw [z2];omega)).trans e2
 obtain ⟨W1,hW1⟩:∃ x,x=((W.alloc (.cells #[.int .i64 (v:Int),.slice A n c,.slice E n d,.int .i64 (G:Int)] 48)).alloc (.cells #[.int .i64 r.kind,.string (tx r.target),.int .u64 r.rule,.slice xA xn xc,.int .u64 r.out,.int .u64 r.time,.string (tx r.tag)] 41)).alloc (.cells #[.int .i64 0,.slice none 0 0,.slice none 0 0,.int .i64 0] 48):=⟨_,rfl⟩
 rw [← hW1] at b3 e1 e2 e3 z3
 obtain ⟨K,hK⟩:∃ K,K=D.length:=⟨_,rfl⟩
 have hub:=hj.under
 have HFRM:Hid (Calls Tryz.prog 88 #[.agg #[.int .i64 (v:Int),.slice A n c,.slice E n d,.int .i64 (G:Int)],.agg #[.int .i64 r.kind,.string (tx r.target),.int .u64 r.rule,.slice xA xn xc,.int .u64 r.out,.int .u64 r.time,.string (tx r.tag)]] W1 fun e w' =>(∃ A1 c1,e=.returned (.tuple #[.slice A1 K c1,.int .i64 0])∧(A1=none→c1=0)∧w'.ownsRow W1.heap.size 5 1 (.slice A1 K c1) K (D.map bv))∧Below W1.heap.size W1 w'):=by
  refine (zLr (v:Int) zs A E n c n d (G:Int) hn hok hmz r xA xn xc l hmr hfr hnr W1 (hl.below b3) ((hro.below b3).read.1) (hr W1 (Past.of_below b3 hj.lt) (hub.1.trans (b3.mono hub.2)))).mono ?_
  rintro e w' ⟨⟨u,rfl,ho⟩,hb⟩
  rw [← hD,← hK] at ho
  obtain ⟨A1,c1,rfl,hA⟩:=zAL ho
  exact ⟨⟨A1,c1,rfl,hA,ho⟩,hb⟩
 have HJ:=yh hj
 have HRO:=yh hro
 have HIT:=yh hit
 have HRR:=yh hr
 have HB3:=yh b3
 have HE1:=yh e1
 have HE2:=yh e2
 have HE3:=yh e3
 have HZ3:=yh z3
 have HUB:=yh hub
 have HW1:=yh hW1
 have HK:=yh hK
 have HCC:=yh hC
 have HSS:=yh hs
 have HF0:=yh hf0
 have HG0:=yh hg0
 have HGG:=yh hG
 have HOKN:Hid (∀ x ∈ zs,x.n≤1000000):=fun x hx =>Nat.le_trans (hok x hx).2.2 (by omega)
 clear hj hro hit hr b1 b2 b3 e1 e2 e3 z1 z2 z3 hz3 hub hW1 hK hok hmz hmr hfr hnr hl hD hC hG hs hf0 hg0
 go_enter Tryz.func61,Tryz.ntmps61
 have k0:=zAA (i:=0) HE1.out rfl;have k1:=zAA (i:=1) HE1.out rfl;have k2:=zAA (i:=2) HE1.out rfl;have k3:=zAA (i:=3) HE1.out rfl
 have l0:=zAA (i:=0) HE2.out rfl;have l1:=zAA (i:=1) HE2.out rfl;have l2:=zAA (i:=2) HE2.out rfl;have l3:=zAA (i:=3) HE2.out rfl;have l4:=zAA (i:=4) HE2.out rfl;have l5:=zAA (i:=5) HE2.out rfl;have l6:=zAA (i:=6) HE2.out rfl
 rw [HW1.out] at k0 k1 k2 k3 l0 l1 l2 l3 l4 l5 l6
 go_wp2_with fail
 rw [← HW1.out]
 clear k0 k1 k2 k3 l0 l1 l2 l3 l4 l5 l6
 refine HFRM.out.mono ?_
 rintro e w2 ⟨⟨A1,c1,rfl,hA1,ho2⟩,hb2⟩
 have hB2:=HB3.out.trans (hb2.mono HB3.out.size)
 have HJ2:=yh (HJ.out.wide hB2)
 have hlt2:W1.heap.size≤w2.heap.size:=hb2.size
 have hf2:=(hb2.block W.heap.size (by have:=HZ3.out;omega)).trans HE1.out
 have hg2:=(hb2.block (W.heap.size+1) (by have:=HZ3.out;omega)).trans HE2.out
 have hh2:=(hb2.block (W.heap.size+1+1) (by have:=HZ3.out;omega)).trans HE3.out
 have HF2:=yh hf2
 have HG2:=yh hg2
 have HH2:=yh hh2
 have HB2:=yh hB2
 have HLT2:=yh hlt2
 have HA1:=yh hA1
 have HO2:=yh ho2
 clear hb2 hB2 hlt2 hf2 hg2 hh2 hA1 ho2 HFRM
 go_wp2_with fail
 refine (zNM [108,111,103] D (by simp) HSS.out HF0.out HG0.out HJ2.out (by omega) w2 (Below.refl _ _) A1 K c1 HA1.out (by have:=HCC.out;have:=HK.out;omega) (zAD.of_own HO2.out)).mono ?_
 rintro e w3 ⟨z,τ,rfl,hp3,houts,hj3⟩
 have HOUTS:=yh houts
 clear houts
 have HP3:=yh hp3
 have hT2:∀ k,W.heap.size≤k→k<w2.heap.size→w3.heap[k]? = w2.heap[k]?:=fun k h1 h2 =>hp3 k (.inr ⟨h1,h2⟩)
 have hz:=HZ3.out
 have hz2:=HLT2.out
 have HF3:=yh ((hT2 W.heap.size (Nat.le_refl _) (by omega)).trans HF2.out)
 have HG3:=yh ((hT2 (W.heap.size+1) (by omega) (by omega)).trans HG2.out)
 have HH3:=yh ((hT2 (W.heap.size+1+1) (by omega) (by omega)).trans HH2.out)
 have HPW:Hid (Past T W w3):=fun k hk =>(hp3 k (.inl hk)).trans (HB2.out.block k (HJ.out.lt k hk))
 have HLT3:Hid (W.heap.size+1+1<w3.heap.size):=zAJ HH3.out
 clear hp3 hT2 hz hz2
 by_cases hz0:z=0
 ·subst hz0
  have HJ3:=yh hj3
  clear hj3
  have k0:=zAA (i:=0) HF3.out rfl;have k1:=zAA (i:=1) HF3.out rfl;have k2:=zAA (i:=2) HF3.out rfl;have k3:=zAA (i:=3) HF3.out rfl
  have l0:=zAA (i:=0) HG3.out rfl;have l1:=zAA (i:=1) HG3.out rfl;have l2:=zAA (i:=2) HG3.out rfl;have l3:=zAA (i:=3) HG3.out rfl;have l4:=zAA (i:=4) HG3.out rfl;have l5:=zAA (i:=5) HG3.out rfl;have l6:=zAA (i:=6) HG3.out rfl
  have HRO3:=yh ((HRO.out.past HIT.out HPW.out))
  have hub3:=HJ3.out.under
  have HGRN:=yh (zNI (v:Int) zs A E n c d (G:Int) (K:Int) (by have:=HGG.out;have:=HK.out;omega) es hn HOKN.out r xA xn xc l hxn hxA (by
   obtain ⟨_,_,e2,h3⟩:=zAL HRO3.out.ends
   simp only [Value.slice.injEq] at e2
   intro e;rw [e2.2.2];exact h3 (e2.1▸e)) hone w3 HRO3.out.read.1 HRO3.out.read.2 (HRR.out w3 HPW.out hub3.1))
  clear hub3
  go_wp2_with fail
  refine HGRN.out.mono ?_
  rintro e w4 ⟨⟨A',c',E',d',zs',rfl,hsay,hro4⟩,hb4⟩
  have hx4:=(hb4.block (W.heap.size+1+1) HLT3.out).trans HH3.out
  have HX4:=yh hx4
  have HB4:=yh hb4
  have HRO4:=yh hro4
  have HSAY:=yh hsay
  have r0:=zAA (i:=0) hx4 rfl;have r1:=zAA (i:=1) hx4 rfl;have r2:=zAA (i:=2) hx4 rfl;have r3:=zAA (i:=3) hx4 rfl
  have y0:=zAC (i:=0) hx4;have y1:=zAC (i:=1) hx4;have y2:=zAC (i:=2) hx4;have y3:=zAC (i:=3) hx4
  clear hx4 hb4 hro4 hsay k0 k1 k2 k3 l0 l1 l2 l3 l4 l5 l6 HGRN
  go_wp2
  have g0:=zBg (W:=w4) (b:=W.heap.size+1+1) (.int .i64 (v:Int)) (.slice A' (n+1) c') (.slice E' (n+1) d') (.int .i64 ((G:Int)+(K:Int)))
  have hx5:=zAF (zAF (zAF (zAF HX4.out 0 (.int .i64 (v:Int))) 1 (.slice A' (n+1) c')) 2 (.slice E' (n+1) d')) 3 (.int .i64 ((G:Int)+(K:Int)))
  refine bodyPost_ret (zBl Tryz.results61 _ _ (W.heap.size+1+1) _ _ (0,0) _ rfl hx5 Tryz.underlying48 rfl (by kernel_rfl)) rfl ?_
  have hcast:((G:Int)+(K:Int))=((G+D.length:Nat):Int):=by rw [← HK.out];omega
  rw [hcast] at g0 ⊢
  have hbig:=g0.size
  have hb5:Below W.heap.size w3 ((((w4.setCell ⟨W.heap.size+1+1,0,none⟩ (.int .i64 (v:Int))).setCell ⟨W.heap.size+1+1,1,none⟩ (.slice A' (n+1) c')).setCell ⟨W.heap.size+1+1,2,none⟩ (.slice E' (n+1) d')).setCell ⟨W.heap.size+1+1,3,none⟩ (.int .i64 ((G+D.length:Nat):Int))):=(HB4.out.mono (by have:=HLT3.out;omega)).grown g0 (by have:=HLT3.out;have:=HB4.out.size;omega) (fun k e =>by have:=Option.some.inj e;omega)
  refine ⟨fun k hk =>(hb5.block k (HJ.out.lt k hk)).trans (HPW.out k hk),0,τ,HOUTS.out,.inl ⟨rfl,A',c',E',d',zs',w3.heap.size,rfl,HSAY.out,?_,(by have:=HLT3.out;omega),?_⟩⟩
  ·have q:=HRO4.out
   rw [hcast] at q
   exact q.kept g0 HLT3.out
  ·have q:JT w base p b (fun k =>(T k∨(W.heap.size≤k∧k<w2.heap.size))∨(w3.heap.size≤k∧k<w4.heap.size)) (fun y =>y=τ) (m+2) w4:=HJ3.out.wide HB4.out
   have ht:Turn (fun k =>k=W.heap.size+1+1) w4 _:=(Turn.refl _ _).grown g0 (fun i e _ =>(Option.some.inj e).symm)
   refine (q.kept ht (fun k e =>?_)).less (fun k hk =>?_)
   ·subst e
    exact ⟨.inl (.inr ⟨by omega,by have:=HZ3.out;have:=HLT2.out;omega⟩),by have:=HUB.out.2;omega⟩
   ·rcases hk with hk | hk
    ·exact .inl (.inl hk)
    ·exact .inr (by simpa using hk)
 ·have HJ3:=yh hj3
  have HZ0:=yh hz0
  have hze:(z == 0)=false:=by simpa using hz0
  have hzn:(z != 0)=true:=by simpa using hz0
  clear hj3 hz0
  have hx4:=HH3.out
  have r0:=zAA (i:=0) hx4 rfl;have r1:=zAA (i:=1) hx4 rfl;have r2:=zAA (i:=2) hx4 rfl;have r3:=zAA (i:=3) hx4 rfl
  have y0:=zAC (i:=0) hx4;have y1:=zAC (i:=1) hx4;have y2:=zAC (i:=2) hx4;have y3:=zAC (i:=3) hx4
  clear hx4
  go_wp2
  have g0:=zBg (W:=w3) (b:=W.heap.size+1+1) (.int .i64 0) (.slice none 0 0) (.slice none 0 0) (.int .i64 0)
  have hx5:=zAF (zAF (zAF (zAF HH3.out 0 (.int .i64 0)) 1 (.slice none 0 0)) 2 (.slice none 0 0)) 3 (.int .i64 0)
  refine bodyPost_ret (zBl Tryz.results61 _ _ (W.heap.size+1+1) _ _ (0,0) _ rfl hx5 Tryz.underlying48 rfl (by kernel_rfl)) rfl ?_
  have ht:Turn (fun k =>k=W.heap.size+1+1) w3 _:=(Turn.refl _ _).grown g0 (fun i e _ =>(Option.some.inj e).symm)
  refine ⟨fun k hk =>(g0.block k (by have:=HJ.out.lt k hk;have:=HLT3.out;omega) (fun e =>by have:=HJ.out.lt k hk;have:=Option.some.inj e;omega)).trans (HPW.out k hk),z,τ,HOUTS.out,.inr ⟨HZ0.out,rfl,?_⟩⟩
  refine (HJ3.out.kept ht (fun k e =>?_)).less (fun k hk =>.inl hk)
  subst e
  exact ⟨.inr ⟨by omega,by have:=HZ3.out;have:=HLT2.out;omega⟩,by have:=HUB.out.2;omega⟩
end Go.Proofs.YtekchkfjgofnkaaGreatDoor
