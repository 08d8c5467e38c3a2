/- Texts of one proof. -/
import Derived.Test.YtfbgmehicmpdiaaGreatDoorMx44
set_option maxRecDepth 100000
set_option maxHeartbeats 8000000
namespace Go.Proofs.YtfbgmehicmpdiaaGreatDoor
open Go.RowKit
structure FrSt (w:World) (bt:Nat) (tl:List (List UInt8)) (M:Nat) (S:Nat→Prop) (wr:World):Prop where
 tab:∃ N,N≤M∧Tab wr S bt N tl
 lo:∀ k,S k→w.heap.size≤k∧k<wr.heap.size
 b:Below w.heap.size w wr
theorem zKc (vi:Int) (xs:List Rw) (A E:Option Addr) (n c m d:Nat) (G:Int) (hn:n≤1000) (hok:∀ x ∈ xs,Fits x.r x.l∧Nums x.r x.l∧x.n≤1000) (hm:zAj vi xs) (r:Rc) (xA:Option Addr) (xn xc:Nat) (l:List Dp) (hmr:MayP vi r l) (hfr:Fits r l) (hnr:Nums r l) (w:World) (hl:Laid w) (h:Recs w w.heap.size A n xs) (hr:zAE w w.heap.size 3 xA xn (dps l)) :
  Calls Tryz.prog 39 #[.agg #[.int .i64 vi,.slice A n c,.slice E m d,.int .i64 G],.agg #[.int .i64 r.kind,.string (tx r.target),.int .u64 r.rule,.slice xA xn xc,.int .u64 r.out,.int .u64 r.time,.string (tx r.tag)]] w fun e w' =>(∃ u,e=.returned (.tuple #[u,.int .i64 0])∧w'.ownsRow w.heap.size 5 1 u (frs (payL vi (zAW vi [] xs) r l)).length ((frs (payL vi (zAW vi [] xs) r l)).map bv))∧Below w.heap.size w w':=by
 have z1:(w.alloc (.cells #[.int .i64 vi,.slice A n c,.slice E m d,.int .i64 G] 37)).heap.size=w.heap.size+1:=by simp
 have z2:((w.alloc (.cells #[.int .i64 vi,.slice A n c,.slice E m d,.int .i64 G] 37)).alloc (.cells #[.int .i64 r.kind,.string (tx r.target),.int .u64 r.rule,.slice xA xn xc,.int .u64 r.out,.int .u64 r.time,.string (tx r.tag)] 46)).heap.size=w.heap.size+2:=by simp
 have b1:Below w.heap.size w (w.alloc (.cells #[.int .i64 vi,.slice A n c,.slice E m d,.int .i64 G] 37)):=(Below.refl _ _).alloc (Nat.le_refl _) _
 have b2:Below w.heap.size w ((w.alloc (.cells #[.int .i64 vi,.slice A n c,.slice E m d,.int .i64 G] 37)).alloc (.cells #[.int .i64 r.kind,.string (tx r.target),.int .u64 r.rule,.slice xA xn xc,.int .u64 r.out,.int .u64 r.time,.string (tx r.tag)] 46)):=b1.alloc b1.size _
 have e2:=zAD (w.alloc (.cells #[.int .i64 vi,.slice A n c,.slice E m d,.int .i64 G] 37)) (.cells #[.int .i64 r.kind,.string (tx r.target),.int .u64 r.rule,.slice xA xn xc,.int .u64 r.out,.int .u64 r.time,.string (tx r.tag)] 46)
 rw [z1] at e2
 have e1:=(Below.heap_alloc (w.alloc (.cells #[.int .i64 vi,.slice A n c,.slice E m d,.int .i64 G] 37)) (.cells #[.int .i64 r.kind,.string (tx r.target),.int .u64 r.rule,.slice xA xn xc,.int .u64 r.out,.int .u64 r.time,.string (tx r.tag)] 46) w.heap.size (by rw [z1];omega)).trans (zAD w (.cells #[.int .i64 vi,.slice A n c,.slice E m d,.int .i64 G] 37))
 obtain ⟨w1,hw1⟩:∃ x,x=(w.alloc (.cells #[.int .i64 vi,.slice A n c,.slice E m d,.int .i64 G] 37)).alloc (.cells #[.int .i64 r.kind,.string (tx r.target),.int .u64 r.rule,.slice xA xn xc,.int .u64 r.out,.int .u64 r.time,.string (tx r.tag)] 46):=⟨_,rfl⟩
 rw [← hw1] at z2 b2 e1 e2
 have HL:Hid (xs.length=n):=h.len
 have HR:=yh h
 have HOK:=yh hok
 have HM:=yh hm
 have HLD:=yh hl
 have HB1:=yh b2
 have HE1:=yh e1
 have HE2:=yh e2
 have HZ:=yh z2
 have HW1:=yh hw1
 have HMR:=yh hmr
 have HFR:=yh hfr
 have HNR:=yh hnr
 have HRR:=yh hr
 have hlm:=zGF hm (by have:=HL.out;omega)
 have HLM:=yh hlm
 clear h hok hm hl z1 z2 b1 b2 e1 e2 hw1 hmr hfr hnr hr hlm
 go_enter Tryz.func39,Tryz.ntmps39
 go_wp2_with fail
 rw [← HW1.out]
 refine (zFd none 0 0 w1.heap.size [] (by omega) (by simp) w1 (Nat.le_refl _) ⟨by simp,fun h =>absurd h (by omega)⟩).mono ?_
 rintro e w2 ⟨rfl,ht2,hb2⟩
 obtain ⟨bt,hbt⟩:∃ bt,bt=w1.heap.size:=⟨_,rfl⟩
 rw [← hbt]
 have HST:Hid (FrSt w1 bt [] 0 (fun k =>w1.heap.size≤k∧k<w2.heap.size) w2):=by
  refine ⟨⟨0,Nat.le_refl _,?_⟩,fun k hk =>⟨hk.1,hk.2⟩,hb2⟩
  rw [hbt];exact ht2.wide (fun k h1 h2 =>⟨h1,h2⟩)
 have hf2:=(hb2.block w.heap.size (by have:=HZ.out;omega)).trans HE1.out
 have f1:=zAA (i:=1) hf2 rfl
 clear ht2 hb2 hbt hf2
 go_wp2
 go_loopw [20] (fun v20 wr =>∃ (i:Nat) (S:Nat→Prop),i≤n∧v20=.int .i64 (i:Int)∧FrSt w1 bt (zAW vi [] (xs.take i)) (18 * i) S wr) (fun v20 _ =>n - (intOf v20).toNat)
 case atStart =>exact ⟨0,_,Nat.zero_le _,rfl,by simpa [zAW] using HST.out⟩
 case round =>
  obtain ⟨i,S,hin,rfl,hst⟩:=hrel
  have HST:=yh hst
  have htl:=(zGF (HM.out.take i) (by rw [List.length_take];have:=HL.out;omega)).2.1
  have HTL:=yh htl
  have HBW:Hid (Below w.heap.size w wr):=HB1.out.trans (hst.b.mono HB1.out.size)
  clear hst htl f1
  by_cases hlt:i<n
  ·obtain ⟨x,hx⟩:∃ x,xs[i]? = some x:=⟨_,List.getElem?_eq_getElem (by rw [HL.out];exact hlt)⟩
   have hxm:=List.mem_of_getElem? hx
   obtain ⟨hfit,hnu,hxn⟩:=HOK.out x hxm
   have hmy:=HM.out x hxm
   obtain ⟨ad,rfl,_,c0,c1,c2,c3,c4,c5,c6⟩:=zCA (HR.out.below HBW.out).1 i x hx
   have hrd0:=(HR.out.2 x hxm).1
   have HX:=yh hx
   have hix0:(0:Int)≤(i:Int):=by omega
   have hix1:(i:Int)<(n:Int):=by omega
   have HI:Hid (i<n):=hlt
   obtain ⟨q,qA,qn,qc,ql⟩:=x
   simp only at c0 c1 c2 c3 c4 c5 c6 hfit hnu hxn hrd0 hmy
   have hbx:=zAD wr (.cells #[.int .i64 q.kind,.string (tx q.target),.int .u64 q.rule,.slice qA qn qc,.int .u64 q.out,.int .u64 q.time,.string (tx q.tag)] 46)
   have p0:=zAA (i:=0) hbx rfl;have p1:=zAA (i:=1) hbx rfl;have p2:=zAA (i:=2) hbx rfl;have p3:=zAA (i:=3) hbx rfl;have p4:=zAA (i:=4) hbx rfl;have p5:=zAA (i:=5) hbx rfl;have p6:=zAA (i:=6) hbx rfl
   have hb4:=(Below.refl wr.heap.size wr).alloc (Nat.le_refl _) (.cells #[.int .i64 q.kind,.string (tx q.target),.int .u64 q.rule,.slice qA qn qc,.int .u64 q.out,.int .u64 q.time,.string (tx q.tag)] 46)
   have hf4:=(hb4.block w.heap.size (by have:=HZ.out;have:=HST.out.b.size;omega)).trans ((HST.out.b.block w.heap.size (by have:=HZ.out;omega)).trans HE1.out)
   have f0:=zAA (i:=0) hf4 rfl
   obtain ⟨w4,hw4⟩:∃ w4,w4=wr.alloc (.cells #[.int .i64 q.kind,.string (tx q.target),.int .u64 q.rule,.slice qA qn qc,.int .u64 q.out,.int .u64 q.time,.string (tx q.tag)] 46):=⟨_,rfl⟩
   rw [← hw4] at hb4
   have HB4:=yh hb4
   have HBW4:=yh (HBW.out.trans (hb4.mono HBW.out.size))
   have HB14:=yh (HST.out.b.trans (hb4.mono HST.out.b.size))
   obtain ⟨N,hN,htab⟩:=HST.out.tab
   have HTAB4:Hid (Tab w4 S bt N (zAW vi [] (xs.take i))):=htab.keep (fun k _ hk =>hb4.block k hk)
   have HN:Hid (N≤18 * i):=hN
   have HPUT:=yh (zFP S bt N qn qc vi (zAW vi [] (xs.take i)) q qA ql hmy.1 hfit hnu (by have:=HTL.out;omega) (by omega) w4 HTAB4.out (fun ad2 e h0 hs =>by
      obtain ⟨ad3,e3,h3,_⟩:=hrd0.2 h0
      obtain rfl:ad2=ad3:=Option.some.inj (e.symm.trans e3)
      have:=(HST.out.lo _ hs).1
      have:=HB1.out.size
      omega) ((hrd0.below HBW4.out).more HBW4.out.size))
   have HW4:=yh hw4
   clear hx hxm hfit hnu hxn hmy hrd0 hbx hb4 hf4 hlt htab hN hw4
   go_wp2_with fail
   rw [← HW4.out]
   refine HPUT.out.mono ?_
   rintro e w5 ⟨va,S5,rfl,ht5,hs5,_,htu5⟩
   have hst5:FrSt w1 bt (zAW vi [] (xs.take (i+1))) (18 * (i+1)) S5 w5:=by
    refine ⟨⟨N+18,by have:=HN.out;omega,?_⟩,fun k hk =>⟨(hs5 k hk).2.elim (fun h1 =>(HST.out.lo k h1).1) (fun h1 =>Nat.le_trans HB14.out.size h1),(hs5 k hk).1⟩,HB14.out.trans (htu5.below (fun k hk =>(HST.out.lo k hk).1) HB14.out.size)⟩
    rw [(zFH (ver:=vi) HX.out).2]
    exact ht5
   have HST5:=yh hst5
   clear ht5 hs5 htu5 hst5 HPUT c0 c1 c2 c3 c4 c5 c6 p0 p1 p2 p3 p4 p5 p6 f0
   go_wp2
   exact ⟨⟨i+1,S5,by have:=HI.out;omega,by go_num,HST5.out⟩,by simp [intOf];have:=HI.out;omega⟩
  ·obtain rfl:n=i:=by omega
   have HTK:Hid (xs.take n=xs):=List.take_of_length_le (by rw [HL.out];exact Nat.le_refl _)
   have hf4:=(HST.out.b.block w.heap.size (by have:=HZ.out;omega)).trans HE1.out
   have hr4:=(HST.out.b.block (w.heap.size+1) (by have:=HZ.out;omega)).trans HE2.out
   have f0:=zAA (i:=0) hf4 rfl
   have p0:=zAA (i:=0) hr4 rfl;have p1:=zAA (i:=1) hr4 rfl;have p2:=zAA (i:=2) hr4 rfl;have p3:=zAA (i:=3) hr4 rfl;have p4:=zAA (i:=4) hr4 rfl;have p5:=zAA (i:=5) hr4 rfl;have p6:=zAA (i:=6) hr4 rfl
   obtain ⟨N,hN,htab⟩:=HST.out.tab
   rw [HTK.out] at htab
   have HPUT:=yh (zFP S bt N xn xc vi (zAW vi [] xs) r xA l HMR.out HFR.out HNR.out (by have:=HLM.out.2.1;omega) (by omega) wr htab (fun ad2 e h0 hs =>by
      obtain ⟨ad3,e3,h3,_⟩:=HRR.out.2 h0
      obtain rfl:ad2=ad3:=Option.some.inj (e.symm.trans e3)
      have:=(HST.out.lo _ hs).1
      have:=HB1.out.size
      omega) ((HRR.out.below HBW.out).more HBW.out.size))
   have hpp:=zEq HMR.out HNR.out (by have:=HLM.out.2.1;omega:(zAW vi [] xs).length≤1000000)
   have hpn:=zCl (tl:=zAW vi [] xs) HMR.out
   obtain ⟨pl,hpl⟩:∃ pl,pl=payL vi (zAW vi [] xs) r l:=⟨_,rfl⟩
   rw [← hpl] at HPUT hpp hpn
   have HPL:=yh hpl
   have HPP:=yh hpp
   obtain ⟨m5,hmm⟩:∃ m5,m5=pl.length:=⟨_,rfl⟩
   rw [← hmm] at hpn
   have HMM:=yh hmm
   clear hf4 hr4 hN htab hpp hpl hmm
   go_wp2_with fail
   refine HPUT.out.mono ?_
   rintro e w5 ⟨va,S2,rfl,ht2,hs2,⟨vs,hrw⟩,htu⟩
   obtain ⟨P1,pc,rfl,_⟩:=zAM hrw.1
   have HB15:=yh (HST.out.b.trans (htu.below (fun k hk =>(HST.out.lo k hk).1) HST.out.b.size))
   have HB5:Hid (Below w.heap.size w w5):=HB1.out.trans (HB15.out.mono HB1.out.size)
   have hrd:=zAE.of_own hrw.1
   rw [← HMM.out] at hrd ⊢
   have HRD:=yh hrd
   have HRW:=yh hrw
   clear ht2 hs2 hrw htu hrd HPUT f0 p0 p1 p2 p3 p4 p5 p6
   go_wp2
   go_loopw [13,49] (fun v13 v49 wq =>∃ (k:Nat) (vb:Value),vb=v13∧k≤m5∧v49=.int .i64 (k:Int)∧wq.ownsRow w5.heap.size 5 1 vb (frs (pl.take k)).length ((frs (pl.take k)).map bv)∧Below w5.heap.size w5 wq) (fun v13 v49 _ =>m5 - (intOf v49).toNat)
   case atStart =>exact ⟨0,_,rfl,Nat.zero_le _,rfl,(by show World.ownsRow _ _ _ _ _ 0 [];exact World.ownsRow_nil _ _ _ _),Below.refl _ _⟩
   case round =>
    obtain ⟨k,vb,rfl,hkm,rfl,ho,hb⟩:=hrel
    have HO:=yh ho
    have HB:=yh hb
    have hfl:(frs (pl.take k)).length≤2062 * 19:=by
     have h1:=zDl (pl.take k) (fun q hq =>HPP.out q (List.mem_of_mem_take hq))
     rw [List.length_take] at h1
     have:2062 * min k pl.length≤2062 * 19:=Nat.mul_le_mul_left _ (by have:=HMM.out;omega)
     omega
    obtain ⟨Ab,cb,rfl,hAb⟩:=zAM ho
    obtain ⟨_,_,heq,hcb,hrb⟩:=zBL ho
    cases heq
    by_cases hk:k<m5
    ·obtain ⟨p,hp⟩:∃ p,pl[k]? = some p:=⟨_,List.getElem?_eq_getElem (by rw [← HMM.out];exact hk)⟩
     have hpay:=HPP.out p (List.mem_of_getElem? hp)
     obtain ⟨v,hv5,hv6,hv7⟩:=HRW.out.2.2.2 k p hp
     obtain ⟨A6,c6,rfl,hA6⟩:=zAM hv6
     obtain ⟨ad1,u1,rfl,_,hu1,hcell1⟩:=(HRD.out.below hb).at_ (k:=k) hk
     obtain rfl:u1=.slice A6 p.length c6:=by rw [hv5] at hu1;exact (Option.some.inj hu1).symm
     have hq:zAE wr wr.heap.size 1 A6 p.length (p.map bv):=((zAE.of_own hv6).below hb).more hb.size
     have hlw:Laid wr:=HLD.out.below (HB5.out.trans (hb.mono HB5.out.size))
     have HPT:=yh (zIU Ab A6 (frs (pl.take k)).length cb p.length c6 (frs (pl.take k)) p hpay (by omega) hcb hAb wr hlw hrb hq)
     have HFS:Hid (frs (pl.take k)++fr p=frs (pl.take (k+1))):=(zDr hp).symm
     have HK:Hid (k<m5):=hk
     have hk0:(0:Int)≤(k:Int):=by omega
     have hk1:(k:Int)<(m5:Int):=by omega
     obtain ⟨pn,hpn2⟩:∃ pn,pn=p.length:=⟨_,rfl⟩
     rw [← hpn2] at hcell1 HPT
     rw [HFS.out] at HPT
     obtain ⟨K,hK⟩:∃ K,K=(frs (pl.take k)).length:=⟨_,rfl⟩
     rw [← hK] at HPT ⊢
     clear hp hpay hv5 hv6 hv7 hA6 hu1 hq hlw hb ho hk hpn2 hcb hrb hAb hK HO HFS
     go_wp2_with fail
     refine HPT.out.mono ?_
     rintro e w6 ⟨v6,rfl,ho6,hb6⟩
     have HO6:=yh (zAV ho6 HB.out.size)
     have HB6:=yh (HB.out.trans (hb6.mono HB.out.size))
     clear ho6 hb6 HPT
     go_wp2
     exact ⟨⟨k+1,_,rfl,by have:=HK.out;omega,by go_num,HO6.out,HB6.out⟩,by simp [intOf];have:=HK.out;omega⟩
    ·obtain rfl:m5=k:=by omega
     have HTK2:Hid (pl.take m5=pl):=List.take_of_length_le (by rw [HMM.out];exact Nat.le_refl _)
     rw [HTK2.out] at HO ⊢
     clear ho hb hcb hrb hAb hfl
     go_wp2
     go_ret2
     rw [← HPL.out]
     exact ⟨⟨_,rfl,zAV HO.out HB5.out.size⟩,HB5.out.trans (HB.out.mono HB5.out.size)⟩
structure InT (T:Nat→Prop) (va ve:Value) (zs:List Rw):Prop where
 a:∀ k,va.ownBlock=some k→T k
 e:∀ k,ve.ownBlock=some k→T k
 d:∀ z ∈ zs,∀ k,(Value.slice z.A z.n z.c).ownBlock=some k→T k
theorem InT.wide {T T':Nat→Prop} {va ve:Value} {zs:List Rw} (h:InT T va ve zs) (hT:∀ k,T k→T' k):InT T' va ve zs:=⟨fun k hk =>hT k (h.a k hk),fun k hk =>hT k (h.e k hk),fun z hz k hk =>hT k (h.d z hz k hk)⟩
theorem zAo.past {W w':World} {T:Nat→Prop} {lo m:Nat} {va ve:Value} {zs:List Rw} {es:List Value} (h:zAo W lo m va ve zs es) (hi:InT T va ve zs) (hp:Past T W w'):zAo w' lo m va ve zs es :=
 ⟨hp.row h.recs hi.a,fun z hz =>hp.row (h.deps z hz) (hi.d z hz),hp.row h.ends hi.e⟩
theorem zAo.inT {w':World} {T:Nat→Prop} {lo m:Nat} {va ve:Value} {zs:List Rw} {es:List Value} (h:zAo w' lo m va ve zs es):InT (fun k =>T k∨(lo≤k∧k<w'.heap.size)) va ve zs :=
 ⟨fun k hk =>.inr ⟨zAG h.recs k hk,zAO h.recs k hk⟩,fun k hk =>.inr ⟨zAG h.ends k hk,zAO h.ends k hk⟩,fun z hz k hk =>.inr ⟨zAG (h.deps z hz) k hk,zAO (h.deps z hz) k hk⟩⟩
def zOj (w:World) (base p b m:Nat) (T:Nat→Prop) (v n:Nat) (G:Nat) (C D:List UInt8) (s:Nat) (zs:List Rw) (x:Rw) (es:List Value) (W:World) (e:Ending) (w':World):Prop :=
 Past T W w'∧((∃ A' c' E' d' zs' lo,e=.returned (.tuple #[.agg #[.int .i64 (v:Int),.slice A' (n+1) c',.slice E' (n+1) d',.int .i64 ((G+D.length:Nat):Int)],.int .i64 0])∧zs'.map Rw.say=(zs++[x]).map Rw.say∧zAo w' lo (n+1) (.slice A' (n+1) c') (.slice E' (n+1) d') zs' (es++[.int .i64 ((G+D.length:Nat):Int)])∧W.heap.size≤lo∧JT w base p b (fun k =>T k∨(lo≤k∧k<w'.heap.size)) (Ja (C++D) s) (m+2) w') ∨
  (e=.returned (.tuple #[.agg #[.int .i64 0,.slice none 0 0,.slice none 0 0,.int .i64 0],.int .i64 7])∧JT w base p b T (fun σ =>Ja C s σ∨Ja (C++D) s σ) (m+2) w'))
theorem zJG {w W:World} {base p b m:Nat} {T:Nat→Prop} (v:Nat) (zs:List Rw) (A E:Option Addr) (n c d lo G s:Nat) (C D:List UInt8) (es:List Value) (hn:n≤1000) (hok:∀ x ∈ zs,Fits x.r x.l∧Nums x.r x.l∧x.n≤1000) (hmz:zAj (v:Int) zs) (r:Rc) (xA:Option Addr) (xn xc:Nat) (l:List Dp) (hmr:MayP (v:Int) r l) (hfr:Fits r l) (hnr:Nums r l) (hxn:xn≤1000000) (hxA:xA=none→xc=0) (hone:∀ u ∈ es,u.oneCell'=true)
  (hl:Laid W) (hro:zAo W lo n (.slice A n c) (.slice E n d) zs es) (hit:InT T (.slice A n c) (.slice E n d) zs) (hr:zAE w base 3 xA xn (dps l)) (hj:JT w base p b T (Ja C s) m W) (hm:m≤1000) (hD:D=frs (payL (v:Int) (zAW (v:Int) [] zs) r l)) (hC:C.length+D.length≤4000000) (hG:G+D.length≤1000000000) :
  Calls Tryz.prog 17 #[.pointer (some ⟨p,0,none⟩),.string (tx [108,111,103]),.agg #[.int .i64 (v:Int),.slice A n c,.slice E n d,.int .i64 (G:Int)],.agg #[.int .i64 r.kind,.string (tx r.target),.int .u64 r.rule,.slice xA xn xc,.int .u64 r.out,.int .u64 r.time,.string (tx r.tag)]] W (zOj w base p b m T v n G C D s zs ⟨r,xA,xn,xc,l⟩ es W):=by
 have z1:(W.alloc (.cells #[.int .i64 (v:Int),.slice A n c,.slice E n d,.int .i64 (G:Int)] 37)).heap.size=W.heap.size+1:=by simp
 have z2:((W.alloc (.cells #[.int .i64 (v:Int),.slice A n c,.slice E n d,.int .i64 (G:Int)] 37)).alloc (.cells #[.int .i64 r.kind,.string (tx r.target),.int .u64 r.rule,.slice xA xn xc,.int .u64 r.out,.int .u64 r.time,.string (tx r.tag)] 46)).heap.size=W.heap.size+2:=by simp
 have b1:Below W.heap.size W (W.alloc (.cells #[.int .i64 (v:Int),.slice A n c,.slice E n d,.int .i64 (G:Int)] 37)):=(Below.refl _ _).alloc (Nat.le_refl _) _
 have b2:Below W.heap.size W ((W.alloc (.cells #[.int .i64 (v:Int),.slice A n c,.slice E n d,.int .i64 (G:Int)] 37)).alloc (.cells #[.int .i64 r.kind,.string (tx r.target),.int .u64 r.rule,.slice xA xn xc,.int .u64 r.out,.int .u64 r.time,.string (tx r.tag)] 46)):=b1.alloc b1.size _
 have b3:Below W.heap.size W (((W.alloc (.cells #[.int .i64 (v:Int),.slice A n c,.slice E n d,.int .i64 (G:Int)] 37)).alloc (.cells #[.int .i64 r.kind,.string (tx r.target),.int .u64 r.rule,.slice xA xn xc,.int .u64 r.out,.int .u64 r.time,.string (tx r.tag)] 46)).alloc (.cells #[.int .i64 0,.slice none 0 0,.slice none 0 0,.int .i64 0] 37)):=b2.alloc b2.size _
 have e2:=zAD (W.alloc (.cells #[.int .i64 (v:Int),.slice A n c,.slice E n d,.int .i64 (G:Int)] 37)) (.cells #[.int .i64 r.kind,.string (tx r.target),.int .u64 r.rule,.slice xA xn xc,.int .u64 r.out,.int .u64 r.time,.string (tx r.tag)] 46)
 rw [z1] at e2
 have e1:=(Below.heap_alloc (W.alloc (.cells #[.int .i64 (v:Int),.slice A n c,.slice E n d,.int .i64 (G:Int)] 37)) (.cells #[.int .i64 r.kind,.string (tx r.target),.int .u64 r.rule,.slice xA xn xc,.int .u64 r.out,.int .u64 r.time,.string (tx r.tag)] 46) W.heap.size (by rw [z1];omega)).trans (zAD W (.cells #[.int .i64 (v:Int),.slice A n c,.slice E n d,.int .i64 (G:Int)] 37))
 have e3:=zAD ((W.alloc (.cells #[.int .i64 (v:Int),.slice A n c,.slice E n d,.int .i64 (G:Int)] 37)).alloc (.cells #[.int .i64 r.kind,.string (tx r.target),.int .u64 r.rule,.slice xA xn xc,.int .u64 r.out,.int .u64 r.time,.string (tx r.tag)] 46)) (.cells #[.int .i64 0,.slice none 0 0,.slice none 0 0,.int .i64 0] 37)
 rw [z2] at e3
 have z3:(((W.alloc (.cells #[.int .i64 (v:Int),.slice A n c,.slice E n d,.int .i64 (G:Int)] 37)).alloc (.cells #[.int .i64 r.kind,.string (tx r.target),.int .u64 r.rule,.slice xA xn xc,.int .u64 r.out,.int .u64 r.time,.string (tx r.tag)] 46)).alloc (.cells #[.int .i64 0,.slice none 0 0,.slice none 0 0,.int .i64 0] 37)).heap.size=W.heap.size+3:=by simp
 have hz3:=Below.heap_alloc ((W.alloc (.cells #[.int .i64 (v:Int),.slice A n c,.slice E n d,.int .i64 (G:Int)] 37)).alloc (.cells #[.int .i64 r.kind,.string (tx r.target),.int .u64 r.rule,.slice xA xn xc,.int .u64 r.out,.int .u64 r.time,.string (tx r.tag)] 46)) (.cells #[.int .i64 0,.slice none 0 0,.slice none 0 0,.int .i64 0] 37)
 replace e1:=(hz3 W.heap.size (by rw [z2];omega)).trans e1
 replace e2:=(hz3 (W.heap.size+1) (by rw [z2];omega)).trans e2
 obtain ⟨W1,hW1⟩:∃ x,x=((W.alloc (.cells #[.int .i64 (v:Int),.slice A n c,.slice E n d,.int .i64 (G:Int)] 37)).alloc (.cells #[.int .i64 r.kind,.string (tx r.target),.int .u64 r.rule,.slice xA xn xc,.int .u64 r.out,.int .u64 r.time,.string (tx r.tag)] 46)).alloc (.cells #[.int .i64 0,.slice none 0 0,.slice none 0 0,.int .i64 0] 37):=⟨_,rfl⟩
 rw [← hW1] at b3 e1 e2 e3 z3
 obtain ⟨K,hK⟩:∃ K,K=D.length:=⟨_,rfl⟩
 have hub:=hj.under
 have HFRM:Hid (Calls Tryz.prog 39 #[.agg #[.int .i64 (v:Int),.slice A n c,.slice E n d,.int .i64 (G:Int)],.agg #[.int .i64 r.kind,.string (tx r.target),.int .u64 r.rule,.slice xA xn xc,.int .u64 r.out,.int .u64 r.time,.string (tx r.tag)]] W1 fun e w' =>(∃ A1 c1,e=.returned (.tuple #[.slice A1 K c1,.int .i64 0])∧(A1=none→c1=0)∧w'.ownsRow W1.heap.size 5 1 (.slice A1 K c1) K (D.map bv))∧Below W1.heap.size W1 w'):=by
  refine (zKc (v:Int) zs A E n c n d (G:Int) hn hok hmz r xA xn xc l hmr hfr hnr W1 (hl.below b3) ((hro.below b3).read.1) ((hr.below (hub.1.trans (b3.mono hub.2))).more (Nat.le_trans hub.2 b3.size))).mono ?_
  rintro e w' ⟨⟨u,rfl,ho⟩,hb⟩
  rw [← hD,← hK] at ho
  obtain ⟨A1,c1,rfl,hA⟩:=zAM ho
  exact ⟨⟨A1,c1,rfl,hA,ho⟩,hb⟩
 have HJ:=yh hj
 have HRO:=yh hro
 have HIT:=yh hit
 have HRR:=yh hr
 have HB3:=yh b3
 have HE1:=yh e1
 have HE2:=yh e2
 have HE3:=yh e3
 have HZ3:=yh z3
 have HUB:=yh hub
 have HW1:=yh hW1
 have HK:=yh hK
 have HCC:=yh hC
 have HGG:=yh hG
 have HOKN:Hid (∀ x ∈ zs,x.n≤1000000):=fun x hx =>Nat.le_trans (hok x hx).2.2 (by omega)
 clear hj hro hit hr b1 b2 b3 e1 e2 e3 z1 z2 z3 hz3 hub hW1 hK hok hmz hmr hfr hnr hl hD hC hG
 go_enter Tryz.func17,Tryz.ntmps17
 have k0:=zAA (i:=0) HE1.out rfl;have k1:=zAA (i:=1) HE1.out rfl;have k2:=zAA (i:=2) HE1.out rfl;have k3:=zAA (i:=3) HE1.out rfl
 have l0:=zAA (i:=0) HE2.out rfl;have l1:=zAA (i:=1) HE2.out rfl;have l2:=zAA (i:=2) HE2.out rfl;have l3:=zAA (i:=3) HE2.out rfl;have l4:=zAA (i:=4) HE2.out rfl;have l5:=zAA (i:=5) HE2.out rfl;have l6:=zAA (i:=6) HE2.out rfl
 rw [HW1.out] at k0 k1 k2 k3 l0 l1 l2 l3 l4 l5 l6
 go_wp2_with fail
 rw [← HW1.out]
 clear k0 k1 k2 k3 l0 l1 l2 l3 l4 l5 l6
 refine HFRM.out.mono ?_
 rintro e w2 ⟨⟨A1,c1,rfl,hA1,ho2⟩,hb2⟩
 have hB2:=HB3.out.trans (hb2.mono HB3.out.size)
 have HJ2:=yh (HJ.out.wide hB2)
 have hlt2:W1.heap.size≤w2.heap.size:=hb2.size
 have hf2:=(hb2.block W.heap.size (by have:=HZ3.out;omega)).trans HE1.out
 have hg2:=(hb2.block (W.heap.size+1) (by have:=HZ3.out;omega)).trans HE2.out
 have hh2:=(hb2.block (W.heap.size+1+1) (by have:=HZ3.out;omega)).trans HE3.out
 have HF2:=yh hf2
 have HG2:=yh hg2
 have HH2:=yh hh2
 have HB2:=yh hB2
 have HLT2:=yh hlt2
 have HA1:=yh hA1
 have HO2:=yh ho2
 clear hb2 hB2 hlt2 hf2 hg2 hh2 hA1 ho2 HFRM
 go_wp2_with fail
 refine (zNb D HCC.out HJ2.out hm w2 (Below.refl _ _) A1 K c1 HA1.out (zAE.of_own HO2.out)).mono ?_
 rintro e w3 ⟨e0,rfl,hp3,hj3⟩
 have HP3:=yh hp3
 have hT2:∀ k,W.heap.size≤k→k<w2.heap.size→w3.heap[k]? = w2.heap[k]?:=fun k h1 h2 =>hp3 k (.inr ⟨h1,h2⟩)
 have hz:=HZ3.out
 have hz2:=HLT2.out
 have HF3:=yh ((hT2 W.heap.size (Nat.le_refl _) (by omega)).trans HF2.out)
 have HG3:=yh ((hT2 (W.heap.size+1) (by omega) (by omega)).trans HG2.out)
 have HH3:=yh ((hT2 (W.heap.size+1+1) (by omega) (by omega)).trans HH2.out)
 have HPW:Hid (Past T W w3):=fun k hk =>(hp3 k (.inl hk)).trans (HB2.out.block k (HJ.out.lt k hk))
 have HLT3:Hid (W.heap.size+1+1<w3.heap.size):=zAJ HH3.out
 clear hp3 hT2 hz hz2
 rcases hj3 with ⟨rfl,hj3⟩ | ⟨rfl,hj3⟩
 ·have HJ3:=yh hj3
  clear hj3
  have k0:=zAA (i:=0) HF3.out rfl;have k1:=zAA (i:=1) HF3.out rfl;have k2:=zAA (i:=2) HF3.out rfl;have k3:=zAA (i:=3) HF3.out rfl
  have l0:=zAA (i:=0) HG3.out rfl;have l1:=zAA (i:=1) HG3.out rfl;have l2:=zAA (i:=2) HG3.out rfl;have l3:=zAA (i:=3) HG3.out rfl;have l4:=zAA (i:=4) HG3.out rfl;have l5:=zAA (i:=5) HG3.out rfl;have l6:=zAA (i:=6) HG3.out rfl
  have HRO3:=yh ((HRO.out.past HIT.out HPW.out))
  have hub3:=HJ3.out.under
  have HGRN:=yh (zLl (v:Int) zs A E n c d (G:Int) (K:Int) (by have:=HGG.out;have:=HK.out;omega) es hn HOKN.out r xA xn xc l hxn hxA (by
   obtain ⟨_,_,e2,h3⟩:=zAM HRO3.out.ends
   simp only [Value.slice.injEq] at e2
   intro e;rw [e2.2.2];exact h3 (e2.1▸e)) hone w3 HRO3.out.read.1 HRO3.out.read.2 ((HRR.out.below hub3.1).more hub3.2))
  clear hub3
  go_wp2_with fail
  refine HGRN.out.mono ?_
  rintro e w4 ⟨⟨A',c',E',d',zs',rfl,hsay,hro4⟩,hb4⟩
  have hx4:=(hb4.block (W.heap.size+1+1) HLT3.out).trans HH3.out
  have HX4:=yh hx4
  have HB4:=yh hb4
  have HRO4:=yh hro4
  have HSAY:=yh hsay
  have r0:=zAA (i:=0) hx4 rfl;have r1:=zAA (i:=1) hx4 rfl;have r2:=zAA (i:=2) hx4 rfl;have r3:=zAA (i:=3) hx4 rfl
  have y0:=zAC (i:=0) hx4;have y1:=zAC (i:=1) hx4;have y2:=zAC (i:=2) hx4;have y3:=zAC (i:=3) hx4
  clear hx4 hb4 hro4 hsay k0 k1 k2 k3 l0 l1 l2 l3 l4 l5 l6 HGRN
  go_wp2
  have g0:=zBb (W:=w4) (b:=W.heap.size+1+1) (.int .i64 (v:Int)) (.slice A' (n+1) c') (.slice E' (n+1) d') (.int .i64 ((G:Int)+(K:Int)))
  have hx5:=zAF (zAF (zAF (zAF HX4.out 0 (.int .i64 (v:Int))) 1 (.slice A' (n+1) c')) 2 (.slice E' (n+1) d')) 3 (.int .i64 ((G:Int)+(K:Int)))
  refine bodyPost_ret (zBn Tryz.results17 _ _ (W.heap.size+1+1) _ _ (0,0) _ rfl hx5 Tryz.underlying37 rfl (by kernel_rfl)) rfl ?_
  have hcast:((G:Int)+(K:Int))=((G+D.length:Nat):Int):=by rw [← HK.out];omega
  rw [hcast] at g0 ⊢
  have hbig:=g0.size
  have hb5:Below W.heap.size w3 ((((w4.setCell ⟨W.heap.size+1+1,0,none⟩ (.int .i64 (v:Int))).setCell ⟨W.heap.size+1+1,1,none⟩ (.slice A' (n+1) c')).setCell ⟨W.heap.size+1+1,2,none⟩ (.slice E' (n+1) d')).setCell ⟨W.heap.size+1+1,3,none⟩ (.int .i64 ((G+D.length:Nat):Int))):=(HB4.out.mono (by have:=HLT3.out;omega)).grown g0 (by have:=HLT3.out;have:=HB4.out.size;omega) (fun k e =>by have:=Option.some.inj e;omega)
  refine ⟨fun k hk =>(hb5.block k (HJ.out.lt k hk)).trans (HPW.out k hk),.inl ⟨A',c',E',d',zs',w3.heap.size,rfl,HSAY.out,?_,(by have:=HLT3.out;omega),?_⟩⟩
  ·have q:=HRO4.out
   rw [hcast] at q
   exact q.kept g0 HLT3.out
  ·have q:JT w base p b (fun k =>(T k∨(W.heap.size≤k∧k<w2.heap.size))∨(w3.heap.size≤k∧k<w4.heap.size)) (Ja (C++D) s) (m+2) w4:=HJ3.out.wide HB4.out
   have ht:Turn (fun k =>k=W.heap.size+1+1) w4 _:=(Turn.refl _ _).grown g0 (fun i e _ =>(Option.some.inj e).symm)
   refine (q.kept ht (fun k e =>?_)).less (fun k hk =>?_)
   ·subst e
    exact ⟨.inl (.inr ⟨by omega,by have:=HZ3.out;have:=HLT2.out;omega⟩),by have:=HUB.out.2;omega⟩
   ·rcases hk with hk | hk
    ·exact .inl (.inl hk)
    ·exact .inr (by simpa using hk)
 ·have HJ3:=yh hj3
  clear hj3
  have hx4:=HH3.out
  have r0:=zAA (i:=0) hx4 rfl;have r1:=zAA (i:=1) hx4 rfl;have r2:=zAA (i:=2) hx4 rfl;have r3:=zAA (i:=3) hx4 rfl
  have y0:=zAC (i:=0) hx4;have y1:=zAC (i:=1) hx4;have y2:=zAC (i:=2) hx4;have y3:=zAC (i:=3) hx4
  clear hx4
  go_wp2
  have g0:=zBb (W:=w3) (b:=W.heap.size+1+1) (.int .i64 0) (.slice none 0 0) (.slice none 0 0) (.int .i64 0)
  have hx5:=zAF (zAF (zAF (zAF HH3.out 0 (.int .i64 0)) 1 (.slice none 0 0)) 2 (.slice none 0 0)) 3 (.int .i64 0)
  refine bodyPost_ret (zBn Tryz.results17 _ _ (W.heap.size+1+1) _ _ (0,0) _ rfl hx5 Tryz.underlying37 rfl (by kernel_rfl)) rfl ?_
  have ht:Turn (fun k =>k=W.heap.size+1+1) w3 _:=(Turn.refl _ _).grown g0 (fun i e _ =>(Option.some.inj e).symm)
  refine ⟨fun k hk =>(g0.block k (by have:=HJ.out.lt k hk;have:=HLT3.out;omega) (fun e =>by have:=HJ.out.lt k hk;have:=Option.some.inj e;omega)).trans (HPW.out k hk),.inr ⟨rfl,?_⟩⟩
  refine (HJ3.out.kept ht (fun k e =>?_)).less (fun k hk =>.inl hk)
  subst e
  exact ⟨.inr ⟨by omega,by have:=HZ3.out;have:=HLT2.out;omega⟩,by have:=HUB.out.2;omega⟩
end Go.Proofs.YtfbgmehicmpdiaaGreatDoor
