/- Texts of one proof. -/
import Derived.Carry
import Derived.Test.YtekchkfjgofnkaaGreatDoorMy26
import Derived.Test.YtekchkfjgofnkaaGreatDoorMy37
set_option maxRecDepth 100000
set_option maxHeartbeats 8000000
namespace Go.Proofs.YtekchkfjgofnkaaGreatDoor
open Go.RowKit
structure FrSt (w:World) (bt:Nat) (tl:List (List UInt8)) (M:Nat) (S:Nat→Prop) (wr:World):Prop where
 tab:∃ N,N≤M∧Tab wr S bt N tl
 lo:∀ k,S k→w.heap.size≤k∧k<wr.heap.size
 b:Below w.heap.size w wr
theorem zLr (vi:Int) (xs:List Rw) (A E:Option Addr) (n c m d:Nat) (G:Int) (hn:n≤1000) (hok:∀ x ∈ xs,Fits x.r x.l∧Nums x.r x.l∧x.n≤1000) (hm:zAe vi xs) (r:Rc) (xA:Option Addr) (xn xc:Nat) (l:List Dp) (hmr:MayP vi r l) (hfr:Fits r l) (hnr:Nums r l) (w:World) (hl:Laid w) (h:Recs w w.heap.size A n xs) (hr:zAD w w.heap.size 3 xA xn (dps l)) :
  Calls Tryz.prog 88 #[.agg #[.int .i64 vi,.slice A n c,.slice E m d,.int .i64 G],.agg #[.int .i64 r.kind,.string (tx r.target),.int .u64 r.rule,.slice xA xn xc,.int .u64 r.out,.int .u64 r.time,.string (tx r.tag)]] w fun e w' =>(∃ u,e=.returned (.tuple #[u,.int .i64 0])∧w'.ownsRow w.heap.size 5 1 u (frs (payL vi (zAV vi [] xs) r l)).length ((frs (payL vi (zAV vi [] xs) r l)).map bv))∧Below w.heap.size w w':=by
 have z1:(w.alloc (.cells #[.int .i64 vi,.slice A n c,.slice E m d,.int .i64 G] 48)).heap.size=w.heap.size+1:=by simp
 have z2:((w.alloc (.cells #[.int .i64 vi,.slice A n c,.slice E m d,.int .i64 G] 48)).alloc (.cells #[.int .i64 r.kind,.string (tx r.target),.int .u64 r.rule,.slice xA xn xc,.int .u64 r.out,.int .u64 r.time,.string (tx r.tag)] 41)).heap.size=w.heap.size+2:=by simp
 have b1:Below w.heap.size w (w.alloc (.cells #[.int .i64 vi,.slice A n c,.slice E m d,.int .i64 G] 48)):=(Below.refl _ _).alloc (Nat.le_refl _) _
 have b2:Below w.heap.size w ((w.alloc (.cells #[.int .i64 vi,.slice A n c,.slice E m d,.int .i64 G] 48)).alloc (.cells #[.int .i64 r.kind,.string (tx r.target),.int .u64 r.rule,.slice xA xn xc,.int .u64 r.out,.int .u64 r.time,.string (tx r.tag)] 41)):=b1.alloc b1.size _
 have e2:=zAE (w.alloc (.cells #[.int .i64 vi,.slice A n c,.slice E m d,.int .i64 G] 48)) (.cells #[.int .i64 r.kind,.string (tx r.target),.int .u64 r.rule,.slice xA xn xc,.int .u64 r.out,.int .u64 r.time,.string (tx r.tag)] 41)
 rw [z1] at e2
 have e1:=(Below.heap_alloc (w.alloc (.cells #[.int .i64 vi,.slice A n c,.slice E m d,.int .i64 G] 48)) (.cells #[.int .i64 r.kind,.string (tx r.target),.int .u64 r.rule,.slice xA xn xc,.int .u64 r.out,.int .u64 r.time,.string (tx r.tag)] 41) w.heap.size (by rw [z1];omega)).trans (zAE w (.cells #[.int .i64 vi,.slice A n c,.slice E m d,.int .i64 G] 48))
 obtain ⟨w1,hw1⟩:∃ x,x=(w.alloc (.cells #[.int .i64 vi,.slice A n c,.slice E m d,.int .i64 G] 48)).alloc (.cells #[.int .i64 r.kind,.string (tx r.target),.int .u64 r.rule,.slice xA xn xc,.int .u64 r.out,.int .u64 r.time,.string (tx r.tag)] 41):=⟨_,rfl⟩
 rw [← hw1] at z2 b2 e1 e2
 have HL:Hid (xs.length=n):=h.len
 have HR:=yh h
 have HOK:=yh hok
 have HM:=yh hm
 have HLD:=yh hl
 have HB1:=yh b2
 have HE1:=yh e1
 have HE2:=yh e2
 have HZ:=yh z2
 have HW1:=yh hw1
 have HMR:=yh hmr
 have HFR:=yh hfr
 have HNR:=yh hnr
 have HRR:=yh hr
 have hlm:=zGf hm (by have:=HL.out;omega)
 have HLM:=yh hlm
 clear h hok hm hl z1 z2 b1 b2 e1 e2 hw1 hmr hfr hnr hr hlm
 go_enter Tryz.func88,Tryz.ntmps88
 go_wp2_with fail
 rw [← HW1.out]
 refine (zGD none 0 0 w1.heap.size [] (by omega) (by simp) w1 (Nat.le_refl _) ⟨by simp,fun h =>absurd h (by omega)⟩).mono ?_
 rintro e w2 ⟨rfl,ht2,hb2⟩
 obtain ⟨bt,hbt⟩:∃ bt,bt=w1.heap.size:=⟨_,rfl⟩
 rw [← hbt]
 have HST:Hid (FrSt w1 bt [] 0 (fun k =>w1.heap.size≤k∧k<w2.heap.size) w2):=by
  refine ⟨⟨0,Nat.le_refl _,?_⟩,fun k hk =>⟨hk.1,hk.2⟩,hb2⟩
  rw [hbt];exact ht2.wide (fun k h1 h2 =>⟨h1,h2⟩)
 have hf2:=(hb2.block w.heap.size (by have:=HZ.out;omega)).trans HE1.out
 have f1:=zAA (i:=1) hf2 rfl
 clear ht2 hb2 hbt hf2
 go_wp2
 go_loopw [20] (fun v20 wr =>∃ (i:Nat) (S:Nat→Prop),i≤n∧v20=.int .i64 (i:Int)∧FrSt w1 bt (zAV vi [] (xs.take i)) (18 * i) S wr) (fun v20 _ =>n - (intOf v20).toNat)
 case atStart =>exact ⟨0,_,Nat.zero_le _,rfl,by simpa [zAV] using HST.out⟩
 case round =>
  obtain ⟨i,S,hin,rfl,hst⟩:=hrel
  have HST:=yh hst
  have htl:=(zGf (HM.out.take i) (by rw [List.length_take];have:=HL.out;omega)).2.1
  have HTL:=yh htl
  have HBW:Hid (Below w.heap.size w wr):=HB1.out.trans (hst.b.mono HB1.out.size)
  clear hst htl f1
  by_cases hlt:i<n
  ·obtain ⟨x,hx⟩:∃ x,xs[i]? = some x:=⟨_,List.getElem?_eq_getElem (by rw [HL.out];exact hlt)⟩
   have hxm:=List.mem_of_getElem? hx
   obtain ⟨hfit,hnu,hxn⟩:=HOK.out x hxm
   have hmy:=HM.out x hxm
   obtain ⟨ad,rfl,_,c0,c1,c2,c3,c4,c5,c6⟩:=zBX (HR.out.below HBW.out).1 i x hx
   have hrd0:=(HR.out.2 x hxm).1
   have HX:=yh hx
   have hix0:(0:Int)≤(i:Int):=by omega
   have hix1:(i:Int)<(n:Int):=by omega
   have HI:Hid (i<n):=hlt
   obtain ⟨q,qA,qn,qc,ql⟩:=x
   simp only at c0 c1 c2 c3 c4 c5 c6 hfit hnu hxn hrd0 hmy
   have hbx:=zAE wr (.cells #[.int .i64 q.kind,.string (tx q.target),.int .u64 q.rule,.slice qA qn qc,.int .u64 q.out,.int .u64 q.time,.string (tx q.tag)] 41)
   have p0:=zAA (i:=0) hbx rfl;have p1:=zAA (i:=1) hbx rfl;have p2:=zAA (i:=2) hbx rfl;have p3:=zAA (i:=3) hbx rfl;have p4:=zAA (i:=4) hbx rfl;have p5:=zAA (i:=5) hbx rfl;have p6:=zAA (i:=6) hbx rfl
   have hb4:=(Below.refl wr.heap.size wr).alloc (Nat.le_refl _) (.cells #[.int .i64 q.kind,.string (tx q.target),.int .u64 q.rule,.slice qA qn qc,.int .u64 q.out,.int .u64 q.time,.string (tx q.tag)] 41)
   have hf4:=(hb4.block w.heap.size (by have:=HZ.out;have:=HST.out.b.size;omega)).trans ((HST.out.b.block w.heap.size (by have:=HZ.out;omega)).trans HE1.out)
   have f0:=zAA (i:=0) hf4 rfl
   obtain ⟨w4,hw4⟩:∃ w4,w4=wr.alloc (.cells #[.int .i64 q.kind,.string (tx q.target),.int .u64 q.rule,.slice qA qn qc,.int .u64 q.out,.int .u64 q.time,.string (tx q.tag)] 41):=⟨_,rfl⟩
   rw [← hw4] at hb4
   have HB4:=yh hb4
   have HBW4:=yh (HBW.out.trans (hb4.mono HBW.out.size))
   have HB14:=yh (HST.out.b.trans (hb4.mono HST.out.b.size))
   obtain ⟨N,hN,htab⟩:=HST.out.tab
   have HTAB4:Hid (Tab w4 S bt N (zAV vi [] (xs.take i))):=htab.keep (fun k _ hk =>hb4.block k hk)
   have HN:Hid (N≤18 * i):=hN
   have HPUT:=yh (zFm S bt N qn qc vi (zAV vi [] (xs.take i)) q qA ql hmy.1 hfit hnu (by have:=HTL.out;omega) (by omega) w4 HTAB4.out (fun ad2 e h0 hs =>by
      obtain ⟨ad3,e3,h3,_⟩:=hrd0.2 h0
      obtain rfl:ad2=ad3:=Option.some.inj (e.symm.trans e3)
      have:=(HST.out.lo _ hs).1
      have:=HB1.out.size
      omega) ((hrd0.below HBW4.out).more HBW4.out.size))
   have HW4:=yh hw4
   clear hx hxm hfit hnu hxn hmy hrd0 hbx hb4 hf4 hlt htab hN hw4
   go_wp2_with fail
   rw [← HW4.out]
   refine HPUT.out.mono ?_
   rintro e w5 ⟨va,S5,rfl,ht5,hs5,_,htu5⟩
   have hst5:FrSt w1 bt (zAV vi [] (xs.take (i+1))) (18 * (i+1)) S5 w5:=by
    refine ⟨⟨N+18,by have:=HN.out;omega,?_⟩,fun k hk =>⟨(hs5 k hk).2.elim (fun h1 =>(HST.out.lo k h1).1) (fun h1 =>Nat.le_trans HB14.out.size h1),(hs5 k hk).1⟩,HB14.out.trans (htu5.below (fun k hk =>(HST.out.lo k hk).1) HB14.out.size)⟩
    rw [(zFf (ver:=vi) HX.out).2]
    exact ht5
   have HST5:=yh hst5
   clear ht5 hs5 htu5 hst5 HPUT c0 c1 c2 c3 c4 c5 c6 p0 p1 p2 p3 p4 p5 p6 f0
   go_wp2
   exact ⟨⟨i+1,S5,by have:=HI.out;omega,by go_num,HST5.out⟩,by simp [intOf];have:=HI.out;omega⟩
  ·obtain rfl:n=i:=by omega
   have HTK:Hid (xs.take n=xs):=List.take_of_length_le (by rw [HL.out];exact Nat.le_refl _)
   have hf4:=(HST.out.b.block w.heap.size (by have:=HZ.out;omega)).trans HE1.out
   have hr4:=(HST.out.b.block (w.heap.size+1) (by have:=HZ.out;omega)).trans HE2.out
   have f0:=zAA (i:=0) hf4 rfl
   have p0:=zAA (i:=0) hr4 rfl;have p1:=zAA (i:=1) hr4 rfl;have p2:=zAA (i:=2) hr4 rfl;have p3:=zAA (i:=3) hr4 rfl;have p4:=zAA (i:=4) hr4 rfl;have p5:=zAA (i:=5) hr4 rfl;have p6:=zAA (i:=6) hr4 rfl
   obtain ⟨N,hN,htab⟩:=HST.out.tab
   rw [HTK.out] at htab
   have HPUT:=yh (zFm S bt N xn xc vi (zAV vi [] xs) r xA l HMR.out HFR.out HNR.out (by have:=HLM.out.2.1;omega) (by omega) wr htab (fun ad2 e h0 hs =>by
      obtain ⟨ad3,e3,h3,_⟩:=HRR.out.2 h0
      obtain rfl:ad2=ad3:=Option.some.inj (e.symm.trans e3)
      have:=(HST.out.lo _ hs).1
      have:=HB1.out.size
      omega) ((HRR.out.below HBW.out).more HBW.out.size))
   have hpp:=zFO HMR.out HNR.out (by have:=HLM.out.2.1;omega:(zAV vi [] xs).length≤1000000)
   have hpn:=zCr (tl:=zAV vi [] xs) HMR.out
   obtain ⟨pl,hpl⟩:∃ pl,pl=payL vi (zAV vi [] xs) r l:=⟨_,rfl⟩
   rw [← hpl] at HPUT hpp hpn
   have HPL:=yh hpl
   have HPP:=yh hpp
   obtain ⟨m5,hmm⟩:∃ m5,m5=pl.length:=⟨_,rfl⟩
   rw [← hmm] at hpn
   have HMM:=yh hmm
   clear hf4 hr4 hN htab hpp hpl hmm
   go_wp2_with fail
   refine HPUT.out.mono ?_
   rintro e w5 ⟨va,S2,rfl,ht2,hs2,⟨vs,hrw⟩,htu⟩
   obtain ⟨P1,pc,rfl,_⟩:=zAL hrw.1
   have HB15:=yh (HST.out.b.trans (htu.below (fun k hk =>(HST.out.lo k hk).1) HST.out.b.size))
   have HB5:Hid (Below w.heap.size w w5):=HB1.out.trans (HB15.out.mono HB1.out.size)
   have hrd:=zAD.of_own hrw.1
   rw [← HMM.out] at hrd ⊢
   have HRD:=yh hrd
   have HRW:=yh hrw
   clear ht2 hs2 hrw htu hrd HPUT f0 p0 p1 p2 p3 p4 p5 p6
   go_wp2
   go_loopw [13,49] (fun v13 v49 wq =>∃ (k:Nat) (vb:Value),vb=v13∧k≤m5∧v49=.int .i64 (k:Int)∧wq.ownsRow w5.heap.size 5 1 vb (frs (pl.take k)).length ((frs (pl.take k)).map bv)∧Below w5.heap.size w5 wq) (fun v13 v49 _ =>m5 - (intOf v49).toNat)
   case atStart =>exact ⟨0,_,rfl,Nat.zero_le _,rfl,(by show World.ownsRow _ _ _ _ _ 0 [];exact World.ownsRow_nil _ _ _ _),Below.refl _ _⟩
   case round =>
    obtain ⟨k,vb,rfl,hkm,rfl,ho,hb⟩:=hrel
    have HO:=yh ho
    have HB:=yh hb
    have hfl:(frs (pl.take k)).length≤2062 * 19:=by
     have h1:=zEC (pl.take k) (fun q hq =>HPP.out q (List.mem_of_mem_take hq))
     rw [List.length_take] at h1
     have:2062 * min k pl.length≤2062 * 19:=Nat.mul_le_mul_left _ (by have:=HMM.out;omega)
     omega
    obtain ⟨Ab,cb,rfl,hAb⟩:=zAL ho
    obtain ⟨_,_,heq,hcb,hrb⟩:=zBF ho
    cases heq
    by_cases hk:k<m5
    ·obtain ⟨p,hp⟩:∃ p,pl[k]? = some p:=⟨_,List.getElem?_eq_getElem (by rw [← HMM.out];exact hk)⟩
     have hpay:=HPP.out p (List.mem_of_getElem? hp)
     obtain ⟨v,hv5,hv6,hv7⟩:=HRW.out.2.2.2 k p hp
     obtain ⟨A6,c6,rfl,hA6⟩:=zAL hv6
     obtain ⟨ad1,u1,rfl,_,hu1,hcell1⟩:=(HRD.out.below hb).at_ (k:=k) hk
     obtain rfl:u1=.slice A6 p.length c6:=by rw [hv5] at hu1;exact (Option.some.inj hu1).symm
     have hq:zAD wr wr.heap.size 1 A6 p.length (p.map bv):=((zAD.of_own hv6).below hb).more hb.size
     have hlw:Laid wr:=HLD.out.below (HB5.out.trans (hb.mono HB5.out.size))
     have HPT:=yh (zJQ Ab A6 (frs (pl.take k)).length cb p.length c6 (frs (pl.take k)) p hpay (by omega) hcb hAb wr hlw hrb hq)
     have HFS:Hid (frs (pl.take k)++fr p=frs (pl.take (k+1))):=(zEK hp).symm
     have HK:Hid (k<m5):=hk
     have hk0:(0:Int)≤(k:Int):=by omega
     have hk1:(k:Int)<(m5:Int):=by omega
     obtain ⟨pn,hpn2⟩:∃ pn,pn=p.length:=⟨_,rfl⟩
     rw [← hpn2] at hcell1 HPT
     rw [HFS.out] at HPT
     obtain ⟨K,hK⟩:∃ K,K=(frs (pl.take k)).length:=⟨_,rfl⟩
     rw [← hK] at HPT ⊢
     clear hp hpay hv5 hv6 hv7 hA6 hu1 hq hlw hb ho hk hpn2 hcb hrb hAb hK HO HFS
     go_wp2_with fail
     refine HPT.out.mono ?_
     rintro e w6 ⟨v6,rfl,ho6,hb6⟩
     have HO6:=yh (zAT ho6 HB.out.size)
     have HB6:=yh (HB.out.trans (hb6.mono HB.out.size))
     clear ho6 hb6 HPT
     go_wp2
     exact ⟨⟨k+1,_,rfl,by have:=HK.out;omega,by go_num,HO6.out,HB6.out⟩,by simp [intOf];have:=HK.out;omega⟩
    ·obtain rfl:m5=k:=by omega
     have HTK2:Hid (pl.take m5=pl):=List.take_of_length_le (by rw [HMM.out];exact Nat.le_refl _)
     rw [HTK2.out] at HO ⊢
     clear ho hb hcb hrb hAb hfl
     go_wp2
     go_ret2
     rw [← HPL.out]
     exact ⟨⟨_,rfl,zAT HO.out HB5.out.size⟩,HB5.out.trans (HB.out.mono HB5.out.size)⟩
structure InT (T:Nat→Prop) (va ve:Value) (zs:List Rw):Prop where
 a:∀ k,va.ownBlock=some k→T k
 e:∀ k,ve.ownBlock=some k→T k
 d:∀ z ∈ zs,∀ k,(Value.slice z.A z.n z.c).ownBlock=some k→T k
theorem InT.wide {T T':Nat→Prop} {va ve:Value} {zs:List Rw} (h:InT T va ve zs) (hT:∀ k,T k→T' k):InT T' va ve zs:=⟨fun k hk =>hT k (h.a k hk),fun k hk =>hT k (h.e k hk),fun z hz k hk =>hT k (h.d z hz k hk)⟩
theorem zAj.past {W w':World} {T:Nat→Prop} {lo m:Nat} {va ve:Value} {zs:List Rw} {es:List Value} (h:zAj W lo m va ve zs es) (hi:InT T va ve zs) (hp:Past T W w'):zAj w' lo m va ve zs es :=
 ⟨hp.row h.recs hi.a,fun z hz =>hp.row (h.deps z hz) (hi.d z hz),hp.row h.ends hi.e⟩
theorem zAj.inT {w':World} {T:Nat→Prop} {lo m:Nat} {va ve:Value} {zs:List Rw} {es:List Value} (h:zAj w' lo m va ve zs es):InT (fun k =>T k∨(lo≤k∧k<w'.heap.size)) va ve zs :=
 ⟨fun k hk =>.inr ⟨zAG h.recs k hk,zAP h.recs k hk⟩,fun k hk =>.inr ⟨zAG h.ends k hk,zAP h.ends k hk⟩,fun z hz k hk =>.inr ⟨zAG (h.deps z hz) k hk,zAP (h.deps z hz) k hk⟩⟩
theorem zOp (v:Nat) (xs:List Rw) (k:Nat):(zAS v (v:Int) xs).take (eo (v:Int) xs k)=zAS v (v:Int) (xs.take k):=by
 have h2:=zCg (v:Int) [] (xs.take k) (xs.drop k)
 rw [List.take_append_drop] at h2
 have h3:zAS v (v:Int) xs=zAS v (v:Int) (xs.take k)++frs (zAH (v:Int) (zAV (v:Int) [] (xs.take k)) (xs.drop k)):=by
  unfold zAS
  rw [h2,zDH,List.append_assoc]
 have h4:(zAS v (v:Int) (xs.take k)).length=eo (v:Int) xs k:=by
  rw [zEJ]
  unfold eo
  rw [List.take_of_length_le (Nat.le_refl _)]
 rw [h3,← h4,List.take_left]
section
variable {w W:World} {base p b m:Nat} {T:Nat→Prop}
theorem zPI {C:List UInt8} (h:JT w base p b T (Jz C) m W) (hm:m≤1000) (z:Nat) (hz:z≤C.length) :
  Calls Tryz.prog 48 #[.pointer (some ⟨p,0,none⟩),.string (tx [108,111,103]),.int .i64 (z:Int)] W fun e w' =>e=.returned (.int .i64 0)∧JT w base p b T (Jz (C.take z)) (m+2) w'∧Past T W w':=by
 obtain ⟨σ,N,F,h1,h2,h3,h4,hT,h5,hj⟩:=h
 have hja:=hj.ja
 refine (zOS p b N base σ F (by omega) (hj.sz.small (by omega)) hja.hf hja.hg W h4 h1 [108,111,103] (by unfold maxLen;simp) (z:Int)).mono ?_
 rintro e w' ⟨e0,rfl,σ',N',F',a1,a2,a3,a4,a5⟩
 have hr:refC σ ⟨1,[108,111,103],[],[],(z:Int),[]⟩=0:=by
  unfold refC
  simp only [hj.log,hj.q.1]
  simp
  omega
 have hnw:zBW σ ⟨1,[108,111,103],[],[],(z:Int),[]⟩=zAb σ.fl [108,111,103] (some ⟨C.take z,(C.take z).length⟩):=by
  simp [zBW,zAi,hj.log,List.length_take,Nat.min_comm]
 have hgn:=(zDp hj.q.2.2)
 have hfn:=(zDp hj.q.2.1)
 rcases a5 with ⟨h0,_,_⟩ | ⟨_,rfl,rfl⟩
 ·exact absurd hr h0
 ·have hfl:(actS σ ⟨1,[108,111,103],[],[],(z:Int),[]⟩).fl=zAb σ.fl [108,111,103] (some ⟨C.take z,(C.take z).length⟩):=by
   rw [← hnw];simp [actS,zAs,hgn.2,hfn.2,zDE]
  have hle:=hja.le
  refine ⟨by simp [zAx,hgn.2,hfn.2],zED h3 h4 hT h5 a1 (by omega) a3 a4 ⟨by rw [hfl,zDn],⟨?_,?_,?_⟩,?_⟩⟩
  ·simp [actS,hgn.2]
  ·show (zAI σ.f).1=false;rw [hfn.1];exact hj.q.2.1
  ·show (zAI σ.g).1=false;rw [hgn.1];exact hj.q.2.2
  ·exact zDL hj.sz hfl (fun y h =>by obtain rfl:=Option.some.inj h;exact ⟨by simp;omega,Nat.le_refl _,by simp⟩)
end
open Go.ChangeShapes Go.WideShapes Go.ChangeAt Go.RowKit
theorem zFZ {H:Type} {enc:TypeId×Value→H} {P:Program} (hl:laidOutB P=true) {W W':World} (hb:Below W.heap.size W W') :
  ∀ {ts:List TypeId} {vs:List Value} {ds:List (DataW H)} {ps:List MemPlace},(∀ t ∈ ts,P.readableRec t=true∧t<P.types.size) →
   DataW.TrodAll enc P W 0 (fun _ =>true) true ts vs ds ps→(∀ x ∈ ps,x.block<W.heap.size)→DataW.TrodAll enc P W' 0 (fun b =>decide (b<W.heap.size)) true ts vs ds ps
 | [],vs,ds,ps,_,h,_ =>by
  obtain ⟨rfl,rfl,rfl⟩:=trodAll_nil h
  exact trodAll_mk0
 | t :: ts,vs,ds,ps,hr,h,hlt =>by
  obtain ⟨v,vs1,d,ds1,a,b,rfl,rfl,rfl,h1,h2⟩:=trodAll_cons h
  have ht:=hr t (by simp)
  exact trodAll_cons_mk (Below.trod hl ht.1 ht.2 h1 hb (fun x hx =>hlt x (by simp [hx])))
   (zFZ hl hb (fun t' h' =>hr t' (by simp [h'])) h2 (fun x hx =>hlt x (by simp [hx])))
theorem zPM {H:Type} {enc:TypeId×Value→H} {P:Program} {f:Func} {s:ChangeSpec} {tb:TypeId} (hl:laidOutB P=true) (htb:P.underlying tb=some .bool)
  (hres:f.resultTypes=#[tb]) (hpar:∀ t ∈ f.params.toList,P.readableRec t=true∧t<P.types.size) (hvars:s.vars=[])
  {W W':World} {args:Array Value} {ds gs:List (DataW H)} {before:List MemPlace}
  (hW:DataW.Whole enc P f.params.toList s.vars false W args.toList ds gs before) (hb:Below W.heap.size W W')
  (hfn:s.fn H (ds++gs)={ results:=[.lit (.bool true)],args:=ds,vars:=[] }) :
  s.post enc P f false true false false W args (.bool true) W':=by
 have hW':=hW
 obtain ⟨p,q,hA,hV,rfl,_,_⟩:=hW
 rw [hvars] at hV
 obtain ⟨rfl,rfl⟩:=trodVars_none hV
 refine ⟨ds,[],p++[],[],p,[],hW',?_,?_,?_,hb.frame _,fun h =>by cases h⟩
 ·rw [hfn,hres]
  exact trodAll_mk1 (shut_bool htb true)
 ·rw [hfn]
  exact zFZ hl hb hpar hA (fun x hx =>by simpa using hW'.lt x (by simpa using hx))
 ·rw [hfn,hvars]
  exact rfl
def Aq (σ σ':FsSt):Prop:=(σ.f.1=false→σ'.f.1=false)∧(σ.g.1=false→σ'.g.1=false)
theorem Aq.refl (σ:FsSt):Aq σ σ:=⟨id,id⟩
theorem Aq.trans {a b c:FsSt} (h:Aq a b) (k:Aq b c):Aq a c:=⟨fun x =>k.1 (h.1 x),fun x =>k.2 (h.2 x)⟩
theorem zQk {σ σ':FsSt} (h:σ'.f=zAI σ.f) (k:σ'.g=zAI σ.g):Aq σ σ' :=
 ⟨fun e =>by rw [h,(zDp e).1];exact e,fun e =>by rw [k,(zDp e).1];exact e⟩
theorem zFc {a:Bool×Int} (h:zAW a=true):a.1=true∧(zAI a).1=false:=by
 obtain ⟨b,z⟩:=a
 unfold zAW at h
 unfold zAI
 simp only [Bool.and_eq_true,beq_iff_eq] at h
 obtain ⟨rfl,rfl⟩:=h
 exact ⟨rfl,rfl⟩
def Outs (σ:FsSt) (a:Ac) (σ':FsSt) (c:Int):Prop:=(refC σ a≠0∧σ'=σ∧c=refC σ a)∨(refC σ a=0∧σ'=actS σ a∧c=zAx σ.f σ.g)
theorem zCp {σ σ':FsSt} {a:Ac} {c:Int} (hf:zAN σ.f) (hg:zAN σ.g) (hr:refC σ a=0) (h:Outs σ a σ' c) :
    zAN σ'.f∧zAN σ'.g∧Aq σ σ' ∧
    ((c=0∧σ'.fl=zBW σ a∧σ'.down=false)∨(c=8∧σ'.fl=σ.fl∧σ'.down=false∧σ'.f.1=false∧σ.f.1=true) ∨
     (c=7∧σ'.down=true∧(σ'.fl=σ.fl∨(a.kind=0∧σ'.fl=zBW σ a))∧σ.g.1=true)):=by
  rcases h with ⟨h1,_⟩ | ⟨_,rfl,rfl⟩
  · exact absurd hr h1
  refine ⟨zJA hf,zJA hg,zQk rfl rfl,?_⟩
  cases hgn:zAW σ.g with
  | true =>
    refine .inr (.inr ⟨by simp [zAx,hgn],by simp [actS,hgn],?_,(zFc hgn).1⟩)
    by_cases hk:a.kind=0
    · exact .inr ⟨hk,by simp [actS,zAs,hgn,hk,zDE]⟩
    · exact .inl (by simp [actS,zAs,hgn,hk,zDE])
  | false =>
    cases hfn:zAW σ.f with
    | true =>exact .inr (.inl ⟨by simp [zAx,hgn,hfn],by simp [actS,zAs,hgn,hfn,zDE],by simp [actS,hgn],(zFc hfn).2,(zFc hfn).1⟩)
    | false =>exact .inl ⟨by simp [zAx,hgn,hfn],by simp [actS,zAs,hgn,hfn,zDE],by simp [actS,hgn]⟩
structure StG (sd B:List UInt8) (M k:Nat) (σ0 σ:FsSt):Prop where
 other:∀ u,u≠sd→σ.fl u=σ0.fl u
 at_:asK sd B k σ0 σ
 hf:zAN σ.f
 hg:zAN σ.g
 sz:SzS M σ
 down:σ.down=false
 aq:Aq σ0 σ
structure StZ (nm sd B:List UInt8) (M:Nat) (z:Int) (σ0 σ:FsSt):Prop where
 other:∀ u,u≠sd→u≠nm→σ.fl u=σ0.fl u
 hf:zAN σ.f
 hg:zAN σ.g
 sz:SzS M σ
 aq:Aq σ0 σ
 out:(z=0∧σ.fl nm=some ⟨B,B.length⟩∧σ.fl sd=none∧σ.down=false)∨(z=8∧σ.fl nm=σ0.fl nm∧σ.down=false∧σ.f.1=false∧σ0.f.1=true)∨(z=7∧σ.fl nm=σ0.fl nm∧σ.down=true∧σ0.g.1=true)
theorem StG.start {sd B:List UInt8} {M:Nat} {σ:FsSt} (hf:zAN σ.f) (hg:zAN σ.g) (hs:SzS M σ) (hd:σ.down=false):StG sd B M 0 σ σ:=⟨fun _ _ =>rfl,rfl,hf,hg,hs,hd,Aq.refl _⟩
theorem StG.none_ {sd B:List UInt8} {M:Nat} {σ0 σ:FsSt} (h:StG sd B M 0 σ0 σ) (hn:σ.fl sd=none):StG sd B M 1 σ0 σ:=⟨h.other,hn,h.hf,h.hg,h.sz,h.down,h.aq⟩
theorem zFk {b c:Bool} (h:c=false→b=false) (hb:b=true):c=true:=by
 cases c with
 | true =>rfl
 | false =>rw [h rfl] at hb;cases hb
section
variable {nm sd B:List UInt8} {M:Nat} {σ0 σ σ':FsSt} {c:Int}
theorem zDK {k:Nat} (h:StG sd B M k σ0 σ) (hne:nm≠sd) (hf:zAN σ'.f) (hg:zAN σ'.g) (ha:Aq σ σ') (e:∀ u,u≠sd→σ'.fl u=σ.fl u) (hs:SzS M σ')
  (ho:(c=8∧σ'.down=false∧σ'.f.1=false∧σ.f.1=true)∨(c=7∧σ'.down=true∧σ.g.1=true)):c≠0∧StZ nm sd B M c σ0 σ':=by
 have hn:σ'.fl nm=σ0.fl nm:=(e nm hne).trans (h.other nm hne)
 refine ⟨by rcases ho with ⟨h,_⟩ | ⟨h,_⟩ <;> omega,fun u hu _ =>(e u hu).trans (h.other u hu),hf,hg,hs,h.aq.trans ha,?_⟩
 rcases ho with ⟨h1,h2,h3,h4⟩ | ⟨h1,h2,h3⟩
 ·exact .inr (.inl ⟨h1,hn,h2,h3,zFk h.aq.1 h4⟩)
 ·exact .inr (.inr ⟨h1,hn,h2,zFk h.aq.2 h3⟩)
theorem zBp {m:Nat} (h:SzS m σ) (e:σ'.fl=σ.fl):SzS m σ':=fun u y hu =>h u y (by rw [← e];exact hu)
theorem zMN (hne:nm≠sd) (h:StG sd B M 0 σ0 σ) (hy:(σ.fl sd).isSome=true) (ho:Outs σ ⟨4,sd,[],[],0,[]⟩ σ' c):(c=0∧StG sd B M 1 σ0 σ')∨(c≠0∧StZ nm sd B M c σ0 σ'):=by
 obtain ⟨y,hy⟩:=Option.isSome_iff_exists.1 hy
 obtain ⟨h1,h2,h3,h4⟩:=zCp h.hf h.hg (by simp [refC,h.down,hy]) ho
 rcases h4 with ⟨a,b,d⟩ | ⟨a,b,d⟩ | ⟨a,b,d,e⟩
 ·have e:σ'.fl=zAb σ.fl sd none:=by rw [b];simp [zBW]
  exact .inl ⟨a,fun u hu =>by rw [e,zBj hu];exact h.other u hu,show σ'.fl sd=none by rw [e,zDn],h1,h2,zDL h.sz e (fun _ h =>by cases h),d,h.aq.trans h3⟩
 ·exact .inr (zDK h hne h1 h2 h3 (fun u _ =>by rw [b]) (zBp h.sz b) (.inl ⟨a,d⟩))
 ·rcases d with d | ⟨d,_⟩
  ·exact .inr (zDK h hne h1 h2 h3 (fun u _ =>by rw [d]) (zBp h.sz d) (.inr ⟨a,b,e⟩))
  ·exact absurd d (by simp)
theorem zMM (hne:nm≠sd) (h:StG sd B M 1 σ0 σ) (hB:B.length≤M) (hsd:sd.length≤1000) (ho:Outs σ ⟨0,sd,[],B,0,[]⟩ σ' c):(c=0∧StG sd B M 2 σ0 σ')∨(c≠0∧StZ nm sd B M c σ0 σ'):=by
 have ha:σ.fl sd=none:=h.at_
 have hn:zBW σ ⟨0,sd,[],B,0,[]⟩=zAb σ.fl sd (some ⟨B,0⟩):=by simp [zBW,zAi,ha]
 obtain ⟨h1,h2,h3,h4⟩:=zCp h.hf h.hg (by simp [refC,h.down]) ho
 have hz:∀ e:σ'.fl=zAb σ.fl sd (some ⟨B,0⟩),SzS M σ':=fun e =>zDL h.sz e (fun y h =>by obtain rfl:=Option.some.inj h;exact ⟨hB,Nat.zero_le _,hsd⟩)
 rcases h4 with ⟨a,b,d⟩ | ⟨a,b,d⟩ | ⟨a,b,d,e⟩
 ·have e:σ'.fl=zAb σ.fl sd (some ⟨B,0⟩):=by rw [b,hn]
  exact .inl ⟨a,fun u hu =>by rw [e,zBj hu];exact h.other u hu,show σ'.fl sd=some ⟨B,0⟩ by rw [e,zDn],h1,h2,hz e,d,h.aq.trans h3⟩
 ·exact .inr (zDK h hne h1 h2 h3 (fun u _ =>by rw [b]) (zBp h.sz b) (.inl ⟨a,d⟩))
 ·rcases d with d | ⟨_,d⟩
  ·exact .inr (zDK h hne h1 h2 h3 (fun u _ =>by rw [d]) (zBp h.sz d) (.inr ⟨a,b,e⟩))
  ·have e2:σ'.fl=zAb σ.fl sd (some ⟨B,0⟩):=by rw [d,hn]
   exact .inr (zDK h hne h1 h2 h3 (fun u hu =>by rw [e2,zBj hu]) (hz e2) (.inr ⟨a,b,e⟩))
theorem zPv (hne:nm≠sd) (h:StG sd B M 2 σ0 σ) (hB:B.length≤M) (hsd:sd.length≤1000) (ho:Outs σ ⟨2,sd,[],[],0,[]⟩ σ' c):(c=0∧StG sd B M 3 σ0 σ')∨(c≠0∧StZ nm sd B M c σ0 σ'):=by
 have ha:σ.fl sd=some ⟨B,0⟩:=h.at_
 obtain ⟨h1,h2,h3,h4⟩:=zCp h.hf h.hg (by simp [refC,h.down,ha]) ho
 rcases h4 with ⟨a,b,d⟩ | ⟨a,b,d⟩ | ⟨a,b,d,e⟩
 ·have e:σ'.fl=zAb σ.fl sd (some ⟨B,B.length⟩):=by rw [b];simp [zBW,zAi,ha]
  exact .inl ⟨a,fun u hu =>by rw [e,zBj hu];exact h.other u hu,show σ'.fl sd=some ⟨B,B.length⟩ by rw [e,zDn],h1,h2,zDL h.sz e (fun y h =>by obtain rfl:=Option.some.inj h;exact ⟨hB,Nat.le_refl _,hsd⟩),d,h.aq.trans h3⟩
 ·exact .inr (zDK h hne h1 h2 h3 (fun u _ =>by rw [b]) (zBp h.sz b) (.inl ⟨a,d⟩))
 ·rcases d with d | ⟨d,_⟩
  ·exact .inr (zDK h hne h1 h2 h3 (fun u _ =>by rw [d]) (zBp h.sz d) (.inr ⟨a,b,e⟩))
  ·exact absurd d (by simp)
theorem zMO (hne:nm≠sd) (hnm:nm.length≤1000) (h:StG sd B M 3 σ0 σ) (hB:B.length≤M) (ho:Outs σ ⟨3,sd,nm,[],0,[]⟩ σ' c):(c=0∧StZ nm sd B M 0 σ0 σ')∨(c≠0∧StZ nm sd B M c σ0 σ'):=by
 have ha:σ.fl sd=some ⟨B,B.length⟩:=h.at_
 obtain ⟨h1,h2,h3,h4⟩:=zCp h.hf h.hg (by simp [refC,h.down,ha]) ho
 rcases h4 with ⟨a,b,d⟩ | ⟨a,b,d⟩ | ⟨a,b,d,e⟩
 ·have e:σ'.fl=zAb (zAb σ.fl sd none) nm (some ⟨B,B.length⟩):=by rw [b];simp [zBW,zAi,ha]
  have h6:SzS M ⟨zAb σ.fl sd none,σ.down,σ.f,σ.g⟩:=zDL h.sz rfl (fun _ h =>by cases h)
  exact .inl ⟨a,fun u hu hu2 =>by rw [e,zBj hu2,zBj hu];exact h.other u hu,h1,h2,zDL h6 e (fun y h =>by obtain rfl:=Option.some.inj h;exact ⟨hB,Nat.le_refl _,hnm⟩),h.aq.trans h3,.inl ⟨rfl,by rw [e,zDn],by rw [e,zBj (fun e2 =>hne e2.symm),zDn],d⟩⟩
 ·exact .inr (zDK h hne h1 h2 h3 (fun u _ =>by rw [b]) (zBp h.sz b) (.inl ⟨a,d⟩))
 ·rcases d with d | ⟨d,_⟩
  ·exact .inr (zDK h hne h1 h2 h3 (fun u _ =>by rw [d]) (zBp h.sz d) (.inr ⟨a,b,e⟩))
  ·exact absurd d (by simp)
end
end Go.Proofs.YtekchkfjgofnkaaGreatDoor
