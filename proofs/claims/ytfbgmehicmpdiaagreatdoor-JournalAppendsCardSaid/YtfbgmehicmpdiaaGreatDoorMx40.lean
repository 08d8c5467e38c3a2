/- Texts of one proof. -/
import Derived.Test.YtfbgmehicmpdiaaGreatDoorMx39
set_option maxRecDepth 100000
set_option maxHeartbeats 8000000
namespace Go.Proofs.YtfbgmehicmpdiaaGreatDoor
open Go.RowKit Go.Maps Go.ChangeMaps Go.WideMaps Go.Sort
def kv (k:Int):Value:=.int .i64 k
theorem zEN {w:World} {base b p N:Nat} {down:Bool} {f g:Bool×Int} {fl:List UInt8→Option Fl} {F:List UInt8→Option Value} (h:zAa w base b N fl F) (hx:zAL w p b down f g):∀ k,zAS p b F k→k<w.heap.size:=fun k hk =>by
 rcases hk with rfl | rfl | ⟨u,A,n,c,s,e,hb⟩
 ·exact hx.lt
 ·exact h.1.lt
 ·exact zGC h e k hb
theorem zEJ {w w':World} {B n:Nat} {A:Option Addr} {xs:List Value} {S:Nat→Prop} (h:zAE w B 1 A n xs) (ht:Turn S w w') (hB:B≤w.heap.size) (hs:0<n→∀ ad,A=some ad→ad.block<B→¬ S ad.block):zAE w' B 1 A n xs:=by
 refine ⟨h.1,fun hn =>?_⟩
 obtain ⟨ad,e,hb,hc⟩:=h.2 hn
 exact ⟨ad,e,hb,fun j u hu =>(World.cell?_of_block (by rw [zAQ];exact ht.2.2.2.2 ad.block (by omega) (hs hn ad e hb))).trans (hc j u hu)⟩
theorem zLN (p b N base:Nat) (down:Bool) (f g:Bool×Int) (fl:List UInt8→Option Fl) (F:List UInt8→Option Value) (KA:Option Addr) (kn kc:Nat) (ks:List Int) (hN:N≤100000) (hsz:∀ u x,fl u=some x→x.body.length≤1000000000∧x.safe≤x.body.length∧u.length≤maxLen) (hkc:kn≤kc) (hkm:kc≤maxLen) (hKA:KA=none→kc=0) (w:World) (hbase:base≤w.heap.size)
  (hx:zAL w p b down f g) (hf:zAa w base b N fl F) (hKB:0<kn→∀ ad,KA=some ad→¬ zAS p b F ad.block) (hr:zAE w w.heap.size 1 KA kn (ks.map kv)) :
  Calls Tryz.prog 13 #[.pointer (some ⟨p,0,none⟩),.slice KA kn kc] w fun e w' =>e=.returned (.tuple #[]) ∧
   ∃ F' ns,zDB fl ns∧ns.length≤N∧zAa w' base b (N+ns.length) (crN ns (fl,ks)).1 F'∧zAL w' p b false (false,0) (false,0)∧Turn (zAS p b F) w w'∧∀ k,zAS p b F' k→zAS p b F k∨w.heap.size≤k:=by
 obtain ⟨B,hB0⟩:∃ B,B=w.heap.size:=⟨_,rfl⟩
 have hBw:B≤w.heap.size:=by omega
 have HBE:=yh hB0
 rw [← hB0] at hr
 clear hB0
 have HNM:=yh (zGu p b N base down f g fl F (by omega) w hx hf)
 have HBL:=yh (zEN hf hx)
 have HX:=yh hx
 have HF:=yh hf
 have HR:=yh hr
 have HSZ:=yh hsz
 have HKB:=yh hKB
 have hln:ks.length=kn:=by have:=hr.1;simpa using this
 have HLN:=yh hln
 clear hx hf hr hsz hKB hln
 go_enter Tryz.func13,Tryz.ntmps13
 go_wp2_with fail
 refine HNM.out.mono ?_
 rintro e w1 ⟨⟨NA,nc,ns,hns,hnl,rfl,hNA,hno⟩,hb1⟩
 have HNS:=yh hns
 have HNO:=yh hno
 have HB1:=yh hb1
 obtain ⟨m,hm⟩:∃ m,m=ns.length:=⟨_,rfl⟩
 rw [← hm] at HNO hnl ⊢
 have HML:=yh hm
 have HF1:=yh (HF.out.below hb1)
 have HX1:=yh (HX.out.below hb1)
 have HR1:=yh (HR.out.below (hb1.mono hBw))
 clear hns hno hb1 hm HNM
 go_wp2
 go_loopw [11,1] (fun v11 v1 wr =>∃ (i:Nat) (Fi:List UInt8→Option Value) (kr:Nat) (KR:Option Addr) (kcr:Nat),i≤m∧v11=.int .i64 (i:Int)∧v1=.slice KR kr kcr∧kr≤kcr∧kcr≤maxLen∧(KR=none→kcr=0)∧(0<kr→∀ ad,KR=some ad→¬ zAS p b F ad.block)∧zAE wr B 1 KR kr ((crN (ns.take i) (fl,ks)).2.map kv)∧zAa wr base b (N+i) (crN (ns.take i) (fl,ks)).1 Fi∧zAL wr p b down f g∧Turn (zAS p b F) w1 wr∧∀ k,zAS p b Fi k→zAS p b F k∨w1.heap.size≤k) (fun v11 _ _ =>m - (intOf v11).toNat)
 case atStart =>exact ⟨0,F,kn,KA,kc,by omega,rfl,rfl,hkc,hkm,hKA,HKB.out,HR1.out,HF1.out,HX1.out,Turn.refl _ _,fun k hk =>.inl hk⟩
 case round =>
  obtain ⟨i,Fi,kr,KR,kcr,hi,rfl,rfl,hkr,hkm2,hKR,hkbr,hrr,hfi,hxi,ht,hbl⟩:=hrel
  obtain ⟨w7,hw7⟩:∃ x,x=wr:=⟨_,rfl⟩
  subst hw7
  obtain ⟨st,hst⟩:∃ st,st=crN (ns.take i) (fl,ks):=⟨_,rfl⟩
  rw [← hst] at hrr hfi
  have HST:=yh hst
  have HKI:=yh (And.intro hkr (And.intro hkm2 hKR))
  have HT7:=yh ht
  have HKBR:=yh hkbr
  clear hkbr
  have HBLI:=yh hbl
  by_cases hlt:i<m
  ·obtain ⟨s,hsn⟩:∃ s,ns[i]? = some s:=⟨_,List.getElem?_eq_getElem (by rw [← HML.out];exact hlt)⟩
   obtain ⟨x,hx⟩:=Option.isSome_iff_exists.1 ((HNS.out.2 s).1 (List.mem_of_getElem? hsn))
   have hnot:s ∉ ns.take i:=fun hin =>by
    obtain ⟨j,hj,e⟩:=List.getElem?_of_mem hin |>.imp fun j hj =>(show j<i∧ns[j]? = some s from by
     have hji:j<(ns.take i).length:=(List.getElem?_eq_some_iff.1 hj).1
     rw [List.length_take] at hji
     exact ⟨by omega,by rw [List.getElem?_take,if_pos (by omega)] at hj;exact hj⟩)
    have hp:=List.pairwise_iff_getElem.1 HNS.out.1 j i (List.getElem?_eq_some_iff.1 e).1 (List.getElem?_eq_some_iff.1 hsn).1 hj
    rw [(List.getElem?_eq_some_iff.1 e).2,(List.getElem?_eq_some_iff.1 hsn).2] at hp
    exact absurd hp (List.lt_irrefl s)
   have hsx:st.1 s=some x:=by rw [hst,zDz _ _ hnot];exact hx
   obtain ⟨hz1,hz2,hz3⟩:=HSZ.out s x hx
   obtain ⟨A,c,hF,hA,ho⟩:=hfi.2.2.1 s x hsx
   have hlk:=hfi.1.look hz3 Tryz.underlying55 (zGx w7)
   rw [hF] at hlk
   simp only [Option.getD_some] at hlk
   unfold fval at hlk
   have hnr:=zAP HNO.out (w':=w7) (fun g hg =>HT7.out.2.2.2.2 g (zAO HNO.out g hg) (fun h2 =>absurd (HBL.out g h2) (Nat.not_lt.2 (zAG HNO.out g hg))))
   obtain ⟨na,u,rfl,hnb,hu,hnc⟩:=(zAE.of_own hnr).at_ (k:=i) (by omega)
   obtain rfl:u=tsv s:=by
    have:=hu
    rw [List.getElem?_map,hsn] at this
    exact (Option.some.inj this).symm
   replace hnc:w7.cell? (na.add i)=some (.string (tx s)):=hnc
   have c0:=zAA (i:=0) hxi rfl
   obtain ⟨n,hn⟩:∃ n,n=x.body.length:=⟨_,rfl⟩
   obtain ⟨q,hq⟩:∃ q,q=x.safe:=⟨_,rfl⟩
   have HN:=yh hn
   have HQ:=yh hq
   rw [← hn] at ho hlk hF hz1 hz2
   rw [← hq] at hlk hF hz2
   have HAN:=yh hA
   have HO:=yh ho
   have hcap:n≤c∧c≤maxLen:=by
    rcases ho.2 with ⟨e,h0⟩ | ⟨g9,cap9,cur9,e,_,_,h1,h2,_⟩
    ·injection e with _ e1 e2
     subst e2
     exact ⟨by omega,by unfold maxLen;omega⟩
    ·injection e with _ _ e2
     subst e2
     exact ⟨h1,h2⟩
   have HCAP:=yh hcap
   have HFI:=yh hfi
   have HXI:=yh hxi
   have HRR:=yh hrr
   have HSN:=yh hsn
   have HSX:=yh hsx
   have HFS:=yh hF
   have HSL:=yh hz3
   have HI:Hid (i<m):=hlt
   have hi0:(0:Int)≤(i:Int):=by omega
   have hi1:(i:Int)<(m:Int):=by omega
   have HLT:=yh hxi.lt
   have HBB:Hid (∀ j,j<B→zAS p b Fi j→zAS p b F j):=fun j hjB hj =>by
    rcases HBLI.out j hj with h2 | h2
    ·exact h2
    ·have:=HB1.out.size
     omega
   have HBW:Hid (B≤w7.heap.size):=Nat.le_trans hBw (Nat.le_trans HB1.out.size HT7.out.2.2.2.1)
   have hx7:=(Below.refl w7.heap.size w7).alloc (Nat.le_refl _) (.cells #[.slice A n c,.int .i64 (q:Int)] 62)
   obtain ⟨w2,hw2⟩:∃ w2,w2=w7.alloc (.cells #[.slice A n c,.int .i64 (q:Int)] 62):=⟨_,rfl⟩
   have HW2:=yh hw2
   have hob:=zAD w7 (.cells #[.slice A n c,.int .i64 (q:Int)] 62)
   rw [← hw2] at hx7 hob
   obtain ⟨ob,hob0⟩:∃ ob,ob=w7.heap.size:=⟨_,rfl⟩
   have HOS:=yh hob0
   rw [← hob0] at hob
   have HB2:=yh hx7
   have HOB:=yh hob
   have k0:=zAA (i:=0) hob rfl
   have k1:=zAA (i:=1) hob rfl
   clear hw2 hob0 hx7 hob
   clear hcap hst hkr hkm2 hKR hrr hfi hxi ht hbl hlt hsn hx hnot hsx hF hA ho hnr hnb hu hn hq hz3
   by_cases hlo:q<n
   ·have HLO:Hid (x.safe<x.body.length):=(show x.safe<x.body.length from by have:=HN.out;have:=HQ.out;omega)
    rcases hks:st.2 with _ | ⟨kz,kt⟩
    ·obtain rfl:kr=0:=by have:=HRR.out.1;rw [hks] at this;simpa using this.symm
     have hz5:(q:Int)<(n:Int):=by omega
     have HKS:=yh hks
     clear hks hlo
     have HCR:Hid (crN (ns.take (i+1)) (fl,ks)=(zAZ st.1 s (some ⟨x.body.take (q),q⟩),([]:List Int))):=by
      show _=_
      rw [zFz HSN.out (fl,ks) (by rw [← HST.out];exact HSX.out),← HST.out]
      rw [HKS.out];unfold zBx;rw [if_pos HLO.out,← HQ.out]
     have HKX:Hid (0≤kcr∧kcr≤maxLen∧(KR=none→kcr=0)):=HKI.out
     have HKBX:Hid (0<0→∀ ad,KR=some ad→¬ zAS p b F ad.block):=(fun h =>absurd h (by omega))
     have HRX2:Hid (zAE w7 B 1 KR 0 ((([]:List Int)).map kv)):=(by have:=HRR.out;rw [HKS.out] at this;exact this)
     go_wp2_with fail
     rw [← HW2.out,← HOS.out]
     have HRX:Hid (zAE w2 w2.heap.size 1 A n (x.body.map bv)):=((zAE.of_own HO.out).below HB2.out).more HB2.out.size
     refine (zEB A n c q q x.body (by omega) HCAP.out.1 HCAP.out.2 HAN.out (by omega) w2 HRX.out).mono ?_
     rintro e w3 ⟨A3,c3,rfl,hA3,ho3,hb3⟩
     have hmin:min q q=q:=by omega
     rw [hmin]
     unfold fval
     have hob3:=(hb3.block ob (zAJ HOB.out)).trans HOB.out
     have fz0:=zAC (i:=0) hob3
     have fz1:=zAC (i:=1) hob3
     have k0':=zAA (i:=0) hob3 rfl
     have k1':=zAA (i:=1) hob3 rfl
     have hs1:=zAf hob3 (i:=0) (.slice A3 q c3)
     have hs2:=zAf hs1.1 (i:=1) (.int .i64 (q:Int))
     have hs3:=zAf hs2.1 (i:=1) (.int .i64 (q:Int))
     have HS1:=yh hs1
     have HS2:=yh hs2
     have HS3:=yh hs3
     have HO3:=yh ho3
     have HB3:=yh hb3
     have gz1:=zAC (i:=1) hs2.1
     have k0'':=zAA (i:=0) hs2.1 rfl
     clear ho3 hb3 hob3 hmin hs1 hs2 hs3
     go_wp2
     obtain ⟨w4,hw4⟩:∃ x,x=(((w3.setCell ⟨ob,0,none⟩ (.slice A3 q c3)).setCell ⟨ob,1,none⟩ (.int .i64 (q:Int))).setCell ⟨ob,1,none⟩ (.int .i64 (q:Int))):=⟨_,rfl⟩
     rw [← hw4]
     have ho4:w4.heap[ob]? = some (.cells #[.slice A3 (q) c3,.int .i64 (q:Int)] 62):=by rw [hw4];exact HS3.out.1
     have hb3:Below w7.heap.size w7 w3:=HB2.out.trans (HB3.out.mono HB2.out.size)
     have hge:w7.heap.size≤ob:=by have:=HOS.out;omega
     have hgr:∀ g,some ob=some g→w7.heap.size≤g:=fun g e =>by cases e;exact hge
     have HB4:Hid (Below w7.heap.size w7 w4):=by rw [hw4];exact (((hb3.grown HS1.out.2 hb3.size hgr).grown HS2.out.2 (Nat.le_trans hb3.size HS1.out.2.size) hgr).grown HS3.out.2 (Nat.le_trans (Nat.le_trans hb3.size HS1.out.2.size) HS2.out.2.size) hgr)
     have hne3:∀ g,Value.ownBlock (.slice A3 (q) c3)=some g→g≠ob:=fun g hg e =>by have:=zAG HO3.out g hg;have:=zAJ HOB.out;omega
     have HO4:Hid (w4.ownsRow w7.heap.size 5 1 (.slice A3 (q) c3) (q) ((x.body.take (q)).map bv)):=zAP (zAV HO3.out HB2.out.size) (fun g hg =>by
      have hlt:=zAO HO3.out g hg
      have hno:some g≠some ob:=fun e =>hne3 g hg (Option.some.inj e)
      rw [hw4]
      exact (HS3.out.2.block g (Nat.lt_of_lt_of_le (Nat.lt_of_lt_of_le hlt HS1.out.2.size) HS2.out.2.size) hno).trans ((HS2.out.2.block g (Nat.lt_of_lt_of_le hlt HS1.out.2.size) hno).trans (HS1.out.2.block g hlt hno)))
     obtain ⟨es4,ck4,hmb4⟩:=(HFI.out.1.below HB4.out).heap
     have hx4:=HXI.out.below HB4.out
     have hob4:ob≠b:=fun e =>by rw [e,hmb4] at ho4;cases ho4
     have hpb4:p≠b:=fun e =>by rw [e] at hx4;have:=hmb4.symm.trans hx4;cases this
     have HCM:Hid (∀ v:World,(∀ j:Nat,j<w4.heap.size→j≠b→v.heap[j]? = w4.heap[j]?)→v.cell? ⟨p,0,none⟩=some (.map (some b))):=fun v hv =>zAA (i:=0) ((hv p hx4.lt hpb4).trans hx4) rfl
     have HC0:Hid (∀ v:World,(∀ j:Nat,j<w4.heap.size→j≠b→v.heap[j]? = w4.heap[j]?)→v.cell? ⟨ob,0,none⟩=some (.slice A3 (q) c3)):=fun v hv =>zAA (i:=0) ((hv ob (zAJ ho4) hob4).trans ho4) rfl
     have HC1:Hid (∀ v:World,(∀ j:Nat,j<w4.heap.size→j≠b→v.heap[j]? = w4.heap[j]?)→v.cell? ⟨ob,1,none⟩=some (.int .i64 (q:Int))):=fun v hv =>zAA (i:=1) ((hv ob (zAJ ho4) hob4).trans ho4) rfl
     have HM4:=yh (HFI.out.1.below HB4.out)
     have HTL:Hid ((x.body.take (q)).length=q):=by show _=_;rw [List.length_take];have:=HN.out;omega
     have HBASE:Hid (base≤w7.heap.size):=Nat.le_trans hbase (Nat.le_trans HB1.out.size HT7.out.2.2.2.1)
     clear hw4 hmb4 hx4 ho4 hob4 hpb4 hge hgr hne3 hb3
     refine wp_region_held (S:=fun v =>∀ j:Nat,j<w4.heap.size→j≠b→v.heap[j]? = w4.heap[j]?) (by kernel_rfl) (show wpAnyH _ _ _ _ _ _ _ _ (w4.drew) from ?_)
     have ONLY:Hid (∀ j:Nat,j<w4.heap.size→j≠b→w4.drew.heap[j]? = w4.heap[j]?):=fun _ _ _ =>rfl
     have HGD:Hid (w4.grownBy w4.drew none):=⟨rfl,rfl,rfl,Nat.le_refl _,fun _ _ _ =>rfl⟩
     have HMD:Hid (TMap w4.drew b (N+i) Fi):=HM4.out.at_heap rfl
     obtain ⟨v0,hv0⟩:∃ x,x=w4.drew:=⟨_,rfl⟩
     rw [← hv0] at ONLY HGD HMD ⊢
     clear hv0
     refine zAB 0 (.pointer (some ⟨p,0,none⟩)) rfl (by kernel_rfl) (by kernel_rfl) (by kernel_rfl) (fun _ _ _ h =>h) (by kernel_rfl) ONLY.out (fun _ _ =>by kernel_rfl) ?_
     refine zAB 1 (.pointer (some ⟨p,0,none⟩)) rfl (by kernel_rfl) (by kernel_rfl) (by kernel_rfl) (fun _ _ _ h =>h) (by kernel_rfl) ONLY.out (by intro v hv;go_simp) ?_
     refine zAB 2 (.pointer (some ⟨p,0,none⟩)) rfl (by kernel_rfl) (by kernel_rfl) (by kernel_rfl) (fun _ _ _ h =>h) (by kernel_rfl) ONLY.out (by intro v hv;go_simp) ?_
     refine zAB 3 (.map (some b)) rfl (by kernel_rfl) (by kernel_rfl) (by kernel_rfl) (fun _ _ _ h =>h) (by kernel_rfl) ONLY.out (by intro v hv;have z0:=HCM.out v hv;go_simp) ?_
     refine zAB 4 (.string (tx s)) rfl (by kernel_rfl) (by kernel_rfl) (by kernel_rfl) (fun _ _ _ h =>h) (by kernel_rfl) ONLY.out (fun _ _ =>by kernel_rfl) ?_
     refine zAB 5 (fval A3 (q) c3 (q)) rfl (by kernel_rfl) (by kernel_rfl) (by kernel_rfl) (fun _ _ _ h =>h) (by kernel_rfl) ONLY.out (by intro v hv;have z0:=HC0.out v hv;have z1:=HC1.out v hv;unfold fval;go_simp) ?_
     go_simp
     refine zAR 6 rfl (by kernel_rfl) (by kernel_rfl) (fun K hK =>?_)
     refine zDL _ _ _ 55 rfl 62 Tryz.underlying55 b (N+i) Fi rfl HMD.out (by unfold maxLen;omega) s (fval A3 (q) c3 (q)) rfl rfl HSL.out ?_
     intro w6 hm6 hg6
     have HALL:=yh (zDN (s:=s) (p:=p) HFI.out HXI.out HB4.out HO4.out HTL.out hA3 HBASE.out hm6 (zAy HGD.out hg6))
     refine hK _ _ (fun j h1 h2 =>(hg6.block j (Nat.lt_of_lt_of_le h1 HGD.out.size) (fun e =>h2 (Option.some.inj e))).trans (ONLY.out j h1 h2)) ?_
     clear hK K hm6 hg6
     refine wpAnyH_done (by kernel_rfl) ?_ _
     go_simp
     go_wp2
     have HDN:=HALL.out
     rw [show ((i:Int)+1)=((i+1:Nat):Int) from rfl]
     exact ⟨⟨i+1,_,0,KR,kcr,HI.out,rfl,rfl,HKX.out.1,HKX.out.2.1,HKX.out.2.2,HKBX.out,by rw [HCR.out];exact zEJ HRX2.out HDN.2.2.1 HBW.out (fun hn ad e hb h =>HKBX.out hn ad e (HBB.out _ hb h)),by rw [HCR.out];exact HDN.1,HDN.2.1,HT7.out.trans HDN.2.2.1 (fun j hj h =>by rcases HBLI.out j h with h2 | h2;exact h2;omega),fun j hj =>by rcases HDN.2.2.2 j hj with h2 | h2;exact HBLI.out j h2;exact .inr (Nat.le_trans HT7.out.2.2.2.1 h2)⟩,by show m - (i+1)<m - i;have:=HI.out;omega⟩
    ·obtain ⟨kr,rfl⟩:∃ k2,kr=k2+1:=⟨kt.length,by have:=HRR.out.1;rw [hks] at this;simpa using this.symm⟩
     have hz5:(q:Int)<(n:Int):=by omega
     obtain ⟨ka,k00,rfl,hkb,hke,hkc0⟩:=HRR.out.at_ (k:=0) (by omega)
     obtain rfl:k00=.int .i64 kz:=by rw [hks] at hke;exact (Option.some.inj hke).symm
     have hkc1:w7.cell? ka=some (.int .i64 kz):=by cases ka;exact hkc0
     have HKC:Hid (w2.cell? ka=some (.int .i64 kz)):=(HB2.out.cell (Nat.lt_of_lt_of_le hkb HBW.out)).trans hkc1
     have HO0:Hid (w2.cell? ⟨ob,0,none⟩=some (.slice A n c)):=k0
     have HO1:Hid (w2.cell? ⟨ob,1,none⟩=some (.int .i64 (q:Int))):=k1
     obtain ⟨t,ht⟩:∃ t:Nat,t=min kz.toNat (n - q):=⟨_,rfl⟩
     have HT:Hid ((t:Int)=min (max kz 0) ((n:Int) - (q:Int))):=(by show _=_;omega)
     have HTE:=yh ht
     have htn:q+t≤n:=by omega
     obtain ⟨KP,km,hKP,hkm⟩:∃ (KP:Option Addr) (km:Nat),KP=(if kcr=1 then some ka else (some ka:Option Addr).map (·.add (1 * 1)))∧km=kcr - 1:=⟨_,_,rfl,rfl⟩
     have hkl:=HKI.out.1
     have hkl1:(1:Int)≤(kr:Int)+1:=by omega
     have hwr:IntKind.i64.wrap ((n:Int) - (q:Int))=(n:Int) - (q:Int):=by rw [IntKind.wrap_i64];omega
     have hkl2:(1:Int)≤(kcr:Int):=by omega
     have hsl:∀ W:World,(Instr.sliceAt 35 (.slice (some ka) (kr+1) kcr) (some (.int .i64 1)) none none).run Tryz.prog W=.ok (.slice KP kr km) W:=fun W =>by
      rw [hKP,hkm]
      go_simp
     have hcut:=HRR.out.cut (k:=1) (cap:=kcr) (by omega) hkl
     rw [hks] at hcut
     have HCT:Hid (zAE w7 B 1 KP kr (kt.map kv)):=(by rw [hKP];exact hcut)
     have HKP:Hid (kr≤km∧km≤maxLen∧(KP=none→km=0)):=⟨by omega,by have:=HKI.out.2.1;omega,fun e =>by rw [hKP] at e;split at e <;> cases e⟩
     have HKB3:Hid (0<kr→∀ ad,KP=some ad→¬ zAS p b F ad.block):=fun _ ad e =>by
      have h9:=HKBR.out (by omega) ka rfl
      rw [hKP] at e
      split at e
      ·cases e;exact h9
      ·have h8:=Option.some.inj e
       rw [← h8]
       exact fun h7 =>h9 (by rw [zAQ] at h7;exact h7)
     have HKS:=yh hks
     clear hks hlo hkb hke hkc0 hkc1 ht hKP hkm hkl hkl1 hkl2 hcut
     have HCR:Hid (crN (ns.take (i+1)) (fl,ks)=(zAZ st.1 s (some ⟨x.body.take ((q+t)),(q+t)⟩),kt)):=by
      show _=_
      rw [zFz HSN.out (fl,ks) (by rw [← HST.out];exact HSX.out),← HST.out]
      rw [HKS.out];unfold zBx;rw [if_pos HLO.out,← HQ.out,← HN.out];simp only;rw [← HTE.out]
     have HKX:Hid (kr≤km∧km≤maxLen∧(KP=none→km=0)):=HKP.out
     have HKBX:Hid (0<kr→∀ ad,KP=some ad→¬ zAS p b F ad.block):=HKB3.out
     have HRX2:Hid (zAE w7 B 1 KP kr ((kt).map kv)):=HCT.out
     go_wp2_with fail
     rw [← HW2.out,← HOS.out]
     refine wp_region_held (S:=fun v =>v.heap=w2.heap) (by kernel_rfl) (show wpAnyH _ _ _ _ _ _ _ _ (w2.drew) from ?_)
     have ONLY:Hid (w2.drew.heap=w2.heap):=rfl
     refine zAB 0 (.slice (some ka) (kr+1) kcr) rfl (by kernel_rfl) (by kernel_rfl) (by kernel_rfl) (fun _ _ _ h =>h) (by kernel_rfl) ONLY.out (fun _ _ =>by kernel_rfl) ?_
     refine zAB 1 (.pointer (some ka)) rfl (by kernel_rfl) (by kernel_rfl) (by kernel_rfl) (fun _ _ _ h =>h) (by kernel_rfl) ONLY.out (by intro v hv;go_simp) ?_
     refine zAB 2 (.int .i64 kz) rfl (by kernel_rfl) (by kernel_rfl) (by kernel_rfl) (fun _ _ _ h =>h) (by kernel_rfl) ONLY.out (by intro v hv;have z0:=(at_heap hv _).trans HKC.out;go_simp) ?_
     refine zAB 3 (.int .i64 (max kz 0)) rfl (by kernel_rfl) (by kernel_rfl) (by kernel_rfl) (fun _ _ _ h =>h) (by kernel_rfl) ONLY.out (by intro v hv;go_simp;(try (split <;> omega))) ?_
     refine zAB 4 (.pointer (some ⟨ob,0,none⟩)) rfl (by kernel_rfl) (by kernel_rfl) (by kernel_rfl) (fun _ _ _ h =>h) (by kernel_rfl) ONLY.out (by intro v hv;go_simp) ?_
     refine zAB 5 (.slice A n c) rfl (by kernel_rfl) (by kernel_rfl) (by kernel_rfl) (fun _ _ _ h =>h) (by kernel_rfl) ONLY.out (by intro v hv;have z0:=(at_heap hv _).trans HO0.out;go_simp) ?_
     refine zAB 6 (.int .i64 (n:Int)) rfl (by kernel_rfl) (by kernel_rfl) (by kernel_rfl) (fun _ _ _ h =>h) (by kernel_rfl) ONLY.out (by intro v hv;go_simp) ?_
     refine zAB 7 (.pointer (some ⟨ob,1,none⟩)) rfl (by kernel_rfl) (by kernel_rfl) (by kernel_rfl) (fun _ _ _ h =>h) (by kernel_rfl) ONLY.out (by intro v hv;go_simp) ?_
     refine zAB 8 (.int .i64 (q:Int)) rfl (by kernel_rfl) (by kernel_rfl) (by kernel_rfl) (fun _ _ _ h =>h) (by kernel_rfl) ONLY.out (by intro v hv;have z0:=(at_heap hv _).trans HO1.out;go_simp) ?_
     refine zAB 9 (.int .i64 ((n:Int) - (q:Int))) rfl (by kernel_rfl) (by kernel_rfl) (by kernel_rfl) (fun _ _ _ h =>h) (by kernel_rfl) ONLY.out (by intro v hv;go_simp) ?_
     refine zAB 10 (.int .i64 (t:Int)) rfl (by kernel_rfl) (by kernel_rfl) (by kernel_rfl) (fun _ _ _ h =>h) (by kernel_rfl) ONLY.out (by intro v hv;have z1:=HT.out;go_simp;(try (split <;> omega))) ?_
     refine zAB 11 (.int .i64 (t:Int)) rfl (by kernel_rfl) (by kernel_rfl) (by kernel_rfl) (fun _ _ _ h =>h) (by kernel_rfl) ONLY.out (fun _ _ =>by kernel_rfl) ?_
     refine wpAnyH_done (by kernel_rfl) ?_ _
     go_simp
     go_wp2_with fail
     have HB2d:Hid (Below w7.heap.size w7 w2.drew):=HB2.out.drew
     have HOBd:Hid (w2.drew.heap[ob]? = some (.cells #[.slice A n c,.int .i64 (q:Int)] 62)):=HOB.out
     have k0d:=zAA (i:=0) HOBd.out rfl
     have k1d:=zAA (i:=1) HOBd.out rfl
     obtain ⟨w9,hw9⟩:∃ x,x=w2.drew:=⟨_,rfl⟩
     rw [← hw9] at HB2d HOBd k0d k1d ⊢
     clear hw9
     have HRX:Hid (zAE w9 w9.heap.size 1 A n (x.body.map bv)):=((zAE.of_own HO.out).below HB2d.out).more HB2d.out.size
     refine (zEB A n c q (q+t) x.body (by omega) HCAP.out.1 HCAP.out.2 HAN.out (by omega) w9 HRX.out).mono ?_
     rintro e w3 ⟨A3,c3,rfl,hA3,ho3,hb3⟩
     have hmin:min q (q+t)=q:=by omega
     rw [hmin]
     unfold fval
     have hob3:=(hb3.block ob (zAJ HOBd.out)).trans HOBd.out
     have fz0:=zAC (i:=0) hob3
     have fz1:=zAC (i:=1) hob3
     have k0':=zAA (i:=0) hob3 rfl
     have k1':=zAA (i:=1) hob3 rfl
     have hs1:=zAf hob3 (i:=0) (.slice A3 (q+t) c3)
     have hs2:=zAf hs1.1 (i:=1) (.int .i64 (q:Int))
     have hs3:=zAf hs2.1 (i:=1) (.int .i64 ((q:Int)+(t:Int)))
     have HS1:=yh hs1
     have HS2:=yh hs2
     have HS3:=yh hs3
     have HO3:=yh ho3
     have HB3:=yh hb3
     have gz1:=zAC (i:=1) hs2.1
     have k0'':=zAA (i:=0) hs2.1 rfl
     clear ho3 hb3 hob3 hmin hs1 hs2 hs3
     go_wp2
     obtain ⟨w4,hw4⟩:∃ x,x=(((w3.setCell ⟨ob,0,none⟩ (.slice A3 (q+t) c3)).setCell ⟨ob,1,none⟩ (.int .i64 (q:Int))).setCell ⟨ob,1,none⟩ (.int .i64 ((q:Int)+(t:Int)))):=⟨_,rfl⟩
     rw [← hw4]
     have ho4:w4.heap[ob]? = some (.cells #[.slice A3 ((q+t)) c3,.int .i64 ((q:Int)+(t:Int))] 62):=by rw [hw4];exact HS3.out.1
     have hb3:Below w7.heap.size w7 w3:=HB2d.out.trans (HB3.out.mono HB2d.out.size)
     have hge:w7.heap.size≤ob:=by have:=HOS.out;omega
     have hgr:∀ g,some ob=some g→w7.heap.size≤g:=fun g e =>by cases e;exact hge
     have HB4:Hid (Below w7.heap.size w7 w4):=by rw [hw4];exact (((hb3.grown HS1.out.2 hb3.size hgr).grown HS2.out.2 (Nat.le_trans hb3.size HS1.out.2.size) hgr).grown HS3.out.2 (Nat.le_trans (Nat.le_trans hb3.size HS1.out.2.size) HS2.out.2.size) hgr)
     have hne3:∀ g,Value.ownBlock (.slice A3 ((q+t)) c3)=some g→g≠ob:=fun g hg e =>by have:=zAG HO3.out g hg;have:=zAJ HOBd.out;omega
     have HO4:Hid (w4.ownsRow w7.heap.size 5 1 (.slice A3 ((q+t)) c3) ((q+t)) ((x.body.take ((q+t))).map bv)):=zAP (zAV HO3.out HB2d.out.size) (fun g hg =>by
      have hlt:=zAO HO3.out g hg
      have hno:some g≠some ob:=fun e =>hne3 g hg (Option.some.inj e)
      rw [hw4]
      exact (HS3.out.2.block g (Nat.lt_of_lt_of_le (Nat.lt_of_lt_of_le hlt HS1.out.2.size) HS2.out.2.size) hno).trans ((HS2.out.2.block g (Nat.lt_of_lt_of_le hlt HS1.out.2.size) hno).trans (HS1.out.2.block g hlt hno)))
     obtain ⟨es4,ck4,hmb4⟩:=(HFI.out.1.below HB4.out).heap
     have hx4:=HXI.out.below HB4.out
     have hob4:ob≠b:=fun e =>by rw [e,hmb4] at ho4;cases ho4
     have hpb4:p≠b:=fun e =>by rw [e] at hx4;have:=hmb4.symm.trans hx4;cases this
     have HCM:Hid (∀ v:World,(∀ j:Nat,j<w4.heap.size→j≠b→v.heap[j]? = w4.heap[j]?)→v.cell? ⟨p,0,none⟩=some (.map (some b))):=fun v hv =>zAA (i:=0) ((hv p hx4.lt hpb4).trans hx4) rfl
     have HC0:Hid (∀ v:World,(∀ j:Nat,j<w4.heap.size→j≠b→v.heap[j]? = w4.heap[j]?)→v.cell? ⟨ob,0,none⟩=some (.slice A3 ((q+t)) c3)):=fun v hv =>zAA (i:=0) ((hv ob (zAJ ho4) hob4).trans ho4) rfl
     have HC1:Hid (∀ v:World,(∀ j:Nat,j<w4.heap.size→j≠b→v.heap[j]? = w4.heap[j]?)→v.cell? ⟨ob,1,none⟩=some (.int .i64 ((q:Int)+(t:Int)))):=fun v hv =>zAA (i:=1) ((hv ob (zAJ ho4) hob4).trans ho4) rfl
     have HM4:=yh (HFI.out.1.below HB4.out)
     have HTL:Hid ((x.body.take ((q+t))).length=(q+t)):=by show _=_;rw [List.length_take];have:=HN.out;omega
     have HBASE:Hid (base≤w7.heap.size):=Nat.le_trans hbase (Nat.le_trans HB1.out.size HT7.out.2.2.2.1)
     clear hw4 hmb4 hx4 ho4 hob4 hpb4 hge hgr hne3 hb3
     refine wp_region_held (S:=fun v =>∀ j:Nat,j<w4.heap.size→j≠b→v.heap[j]? = w4.heap[j]?) (by kernel_rfl) (show wpAnyH _ _ _ _ _ _ _ _ (w4.drew) from ?_)
     have ONLY:Hid (∀ j:Nat,j<w4.heap.size→j≠b→w4.drew.heap[j]? = w4.heap[j]?):=fun _ _ _ =>rfl
     have HGD:Hid (w4.grownBy w4.drew none):=⟨rfl,rfl,rfl,Nat.le_refl _,fun _ _ _ =>rfl⟩
     have HMD:Hid (TMap w4.drew b (N+i) Fi):=HM4.out.at_heap rfl
     obtain ⟨v0,hv0⟩:∃ x,x=w4.drew:=⟨_,rfl⟩
     rw [← hv0] at ONLY HGD HMD ⊢
     clear hv0
     refine zAB 0 (.pointer (some ⟨p,0,none⟩)) rfl (by kernel_rfl) (by kernel_rfl) (by kernel_rfl) (fun _ _ _ h =>h) (by kernel_rfl) ONLY.out (fun _ _ =>by kernel_rfl) ?_
     refine zAB 1 (.pointer (some ⟨p,0,none⟩)) rfl (by kernel_rfl) (by kernel_rfl) (by kernel_rfl) (fun _ _ _ h =>h) (by kernel_rfl) ONLY.out (by intro v hv;go_simp) ?_
     refine zAB 2 (.pointer (some ⟨p,0,none⟩)) rfl (by kernel_rfl) (by kernel_rfl) (by kernel_rfl) (fun _ _ _ h =>h) (by kernel_rfl) ONLY.out (by intro v hv;go_simp) ?_
     refine zAB 3 (.map (some b)) rfl (by kernel_rfl) (by kernel_rfl) (by kernel_rfl) (fun _ _ _ h =>h) (by kernel_rfl) ONLY.out (by intro v hv;have z0:=HCM.out v hv;go_simp) ?_
     refine zAB 4 (.string (tx s)) rfl (by kernel_rfl) (by kernel_rfl) (by kernel_rfl) (fun _ _ _ h =>h) (by kernel_rfl) ONLY.out (fun _ _ =>by kernel_rfl) ?_
     refine zAB 5 (fval A3 ((q+t)) c3 ((q+t))) rfl (by kernel_rfl) (by kernel_rfl) (by kernel_rfl) (fun _ _ _ h =>h) (by kernel_rfl) ONLY.out (by intro v hv;have z0:=HC0.out v hv;have z1:=HC1.out v hv;unfold fval;go_simp) ?_
     go_simp
     refine zAR 6 rfl (by kernel_rfl) (by kernel_rfl) (fun K hK =>?_)
     refine zDL _ _ _ 55 rfl 62 Tryz.underlying55 b (N+i) Fi rfl HMD.out (by unfold maxLen;omega) s (fval A3 ((q+t)) c3 ((q+t))) rfl rfl HSL.out ?_
     intro w6 hm6 hg6
     have HALL:=yh (zDN (s:=s) (p:=p) HFI.out HXI.out HB4.out HO4.out HTL.out hA3 HBASE.out hm6 (zAy HGD.out hg6))
     refine hK _ _ (fun j h1 h2 =>(hg6.block j (Nat.lt_of_lt_of_le h1 HGD.out.size) (fun e =>h2 (Option.some.inj e))).trans (ONLY.out j h1 h2)) ?_
     clear hK K hm6 hg6
     refine wpAnyH_done (by kernel_rfl) ?_ _
     go_simp
     go_wp2
     have HDN:=HALL.out
     rw [show ((i:Int)+1)=((i+1:Nat):Int) from rfl]
     exact ⟨⟨i+1,_,kr,KP,km,HI.out,rfl,rfl,HKX.out.1,HKX.out.2.1,HKX.out.2.2,HKBX.out,by rw [HCR.out];exact zEJ HRX2.out HDN.2.2.1 HBW.out (fun hn ad e hb h =>HKBX.out hn ad e (HBB.out _ hb h)),by rw [HCR.out];exact HDN.1,HDN.2.1,HT7.out.trans HDN.2.2.1 (fun j hj h =>by rcases HBLI.out j h with h2 | h2;exact h2;omega),fun j hj =>by rcases HDN.2.2.2 j hj with h2 | h2;exact HBLI.out j h2;exact .inr (Nat.le_trans HT7.out.2.2.2.1 h2)⟩,by show m - (i+1)<m - i;have:=HI.out;omega⟩
   ·have hz5:¬ (q:Int)<(n:Int):=by omega
    have HLO:Hid (¬ x.safe<x.body.length):=(show ¬ x.safe<x.body.length from by have:=HN.out;have:=HQ.out;omega)
    clear hlo
    have HCR:Hid (crN (ns.take (i+1)) (fl,ks)=(zAZ st.1 s (some ⟨x.body.take (q),q⟩),st.2)):=by
     show _=_
     rw [zFz HSN.out (fl,ks) (by rw [← HST.out];exact HSX.out),← HST.out]
     unfold zBx;rw [if_neg HLO.out,← HQ.out]
    have HKX:Hid (kr≤kcr∧kcr≤maxLen∧(KR=none→kcr=0)):=HKI.out
    have HKBX:Hid (0<kr→∀ ad,KR=some ad→¬ zAS p b F ad.block):=HKBR.out
    have HRX2:Hid (zAE w7 B 1 KR kr ((st.2).map kv)):=HRR.out
    go_wp2_with fail
    rw [← HW2.out,← HOS.out]
    have HRX:Hid (zAE w2 w2.heap.size 1 A n (x.body.map bv)):=((zAE.of_own HO.out).below HB2.out).more HB2.out.size
    refine (zEB A n c q q x.body (by omega) HCAP.out.1 HCAP.out.2 HAN.out (by omega) w2 HRX.out).mono ?_
    rintro e w3 ⟨A3,c3,rfl,hA3,ho3,hb3⟩
    have hmin:min q q=q:=by omega
    rw [hmin]
    unfold fval
    have hob3:=(hb3.block ob (zAJ HOB.out)).trans HOB.out
    have fz0:=zAC (i:=0) hob3
    have fz1:=zAC (i:=1) hob3
    have k0':=zAA (i:=0) hob3 rfl
    have k1':=zAA (i:=1) hob3 rfl
    have hs1:=zAf hob3 (i:=0) (.slice A3 q c3)
    have hs2:=zAf hs1.1 (i:=1) (.int .i64 (q:Int))
    have hs3:=zAf hs2.1 (i:=1) (.int .i64 (q:Int))
    have HS1:=yh hs1
    have HS2:=yh hs2
    have HS3:=yh hs3
    have HO3:=yh ho3
    have HB3:=yh hb3
    have gz1:=zAC (i:=1) hs2.1
    have k0'':=zAA (i:=0) hs2.1 rfl
    clear ho3 hb3 hob3 hmin hs1 hs2 hs3
    go_wp2
    obtain ⟨w4,hw4⟩:∃ x,x=(((w3.setCell ⟨ob,0,none⟩ (.slice A3 q c3)).setCell ⟨ob,1,none⟩ (.int .i64 (q:Int))).setCell ⟨ob,1,none⟩ (.int .i64 (q:Int))):=⟨_,rfl⟩
    rw [← hw4]
    have ho4:w4.heap[ob]? = some (.cells #[.slice A3 (q) c3,.int .i64 (q:Int)] 62):=by rw [hw4];exact HS3.out.1
    have hb3:Below w7.heap.size w7 w3:=HB2.out.trans (HB3.out.mono HB2.out.size)
    have hge:w7.heap.size≤ob:=by have:=HOS.out;omega
    have hgr:∀ g,some ob=some g→w7.heap.size≤g:=fun g e =>by cases e;exact hge
    have HB4:Hid (Below w7.heap.size w7 w4):=by rw [hw4];exact (((hb3.grown HS1.out.2 hb3.size hgr).grown HS2.out.2 (Nat.le_trans hb3.size HS1.out.2.size) hgr).grown HS3.out.2 (Nat.le_trans (Nat.le_trans hb3.size HS1.out.2.size) HS2.out.2.size) hgr)
    have hne3:∀ g,Value.ownBlock (.slice A3 (q) c3)=some g→g≠ob:=fun g hg e =>by have:=zAG HO3.out g hg;have:=zAJ HOB.out;omega
    have HO4:Hid (w4.ownsRow w7.heap.size 5 1 (.slice A3 (q) c3) (q) ((x.body.take (q)).map bv)):=zAP (zAV HO3.out HB2.out.size) (fun g hg =>by
     have hlt:=zAO HO3.out g hg
     have hno:some g≠some ob:=fun e =>hne3 g hg (Option.some.inj e)
     rw [hw4]
     exact (HS3.out.2.block g (Nat.lt_of_lt_of_le (Nat.lt_of_lt_of_le hlt HS1.out.2.size) HS2.out.2.size) hno).trans ((HS2.out.2.block g (Nat.lt_of_lt_of_le hlt HS1.out.2.size) hno).trans (HS1.out.2.block g hlt hno)))
    obtain ⟨es4,ck4,hmb4⟩:=(HFI.out.1.below HB4.out).heap
    have hx4:=HXI.out.below HB4.out
    have hob4:ob≠b:=fun e =>by rw [e,hmb4] at ho4;cases ho4
    have hpb4:p≠b:=fun e =>by rw [e] at hx4;have:=hmb4.symm.trans hx4;cases this
    have HCM:Hid (∀ v:World,(∀ j:Nat,j<w4.heap.size→j≠b→v.heap[j]? = w4.heap[j]?)→v.cell? ⟨p,0,none⟩=some (.map (some b))):=fun v hv =>zAA (i:=0) ((hv p hx4.lt hpb4).trans hx4) rfl
    have HC0:Hid (∀ v:World,(∀ j:Nat,j<w4.heap.size→j≠b→v.heap[j]? = w4.heap[j]?)→v.cell? ⟨ob,0,none⟩=some (.slice A3 (q) c3)):=fun v hv =>zAA (i:=0) ((hv ob (zAJ ho4) hob4).trans ho4) rfl
    have HC1:Hid (∀ v:World,(∀ j:Nat,j<w4.heap.size→j≠b→v.heap[j]? = w4.heap[j]?)→v.cell? ⟨ob,1,none⟩=some (.int .i64 (q:Int))):=fun v hv =>zAA (i:=1) ((hv ob (zAJ ho4) hob4).trans ho4) rfl
    have HM4:=yh (HFI.out.1.below HB4.out)
    have HTL:Hid ((x.body.take (q)).length=q):=by show _=_;rw [List.length_take];have:=HN.out;omega
    have HBASE:Hid (base≤w7.heap.size):=Nat.le_trans hbase (Nat.le_trans HB1.out.size HT7.out.2.2.2.1)
    clear hw4 hmb4 hx4 ho4 hob4 hpb4 hge hgr hne3 hb3
    refine wp_region_held (S:=fun v =>∀ j:Nat,j<w4.heap.size→j≠b→v.heap[j]? = w4.heap[j]?) (by kernel_rfl) (show wpAnyH _ _ _ _ _ _ _ _ (w4.drew) from ?_)
    have ONLY:Hid (∀ j:Nat,j<w4.heap.size→j≠b→w4.drew.heap[j]? = w4.heap[j]?):=fun _ _ _ =>rfl
    have HGD:Hid (w4.grownBy w4.drew none):=⟨rfl,rfl,rfl,Nat.le_refl _,fun _ _ _ =>rfl⟩
    have HMD:Hid (TMap w4.drew b (N+i) Fi):=HM4.out.at_heap rfl
    obtain ⟨v0,hv0⟩:∃ x,x=w4.drew:=⟨_,rfl⟩
    rw [← hv0] at ONLY HGD HMD ⊢
    clear hv0
    refine zAB 0 (.pointer (some ⟨p,0,none⟩)) rfl (by kernel_rfl) (by kernel_rfl) (by kernel_rfl) (fun _ _ _ h =>h) (by kernel_rfl) ONLY.out (fun _ _ =>by kernel_rfl) ?_
    refine zAB 1 (.pointer (some ⟨p,0,none⟩)) rfl (by kernel_rfl) (by kernel_rfl) (by kernel_rfl) (fun _ _ _ h =>h) (by kernel_rfl) ONLY.out (by intro v hv;go_simp) ?_
    refine zAB 2 (.pointer (some ⟨p,0,none⟩)) rfl (by kernel_rfl) (by kernel_rfl) (by kernel_rfl) (fun _ _ _ h =>h) (by kernel_rfl) ONLY.out (by intro v hv;go_simp) ?_
    refine zAB 3 (.map (some b)) rfl (by kernel_rfl) (by kernel_rfl) (by kernel_rfl) (fun _ _ _ h =>h) (by kernel_rfl) ONLY.out (by intro v hv;have z0:=HCM.out v hv;go_simp) ?_
    refine zAB 4 (.string (tx s)) rfl (by kernel_rfl) (by kernel_rfl) (by kernel_rfl) (fun _ _ _ h =>h) (by kernel_rfl) ONLY.out (fun _ _ =>by kernel_rfl) ?_
    refine zAB 5 (fval A3 (q) c3 (q)) rfl (by kernel_rfl) (by kernel_rfl) (by kernel_rfl) (fun _ _ _ h =>h) (by kernel_rfl) ONLY.out (by intro v hv;have z0:=HC0.out v hv;have z1:=HC1.out v hv;unfold fval;go_simp) ?_
    go_simp
    refine zAR 6 rfl (by kernel_rfl) (by kernel_rfl) (fun K hK =>?_)
    refine zDL _ _ _ 55 rfl 62 Tryz.underlying55 b (N+i) Fi rfl HMD.out (by unfold maxLen;omega) s (fval A3 (q) c3 (q)) rfl rfl HSL.out ?_
    intro w6 hm6 hg6
    have HALL:=yh (zDN (s:=s) (p:=p) HFI.out HXI.out HB4.out HO4.out HTL.out hA3 HBASE.out hm6 (zAy HGD.out hg6))
    refine hK _ _ (fun j h1 h2 =>(hg6.block j (Nat.lt_of_lt_of_le h1 HGD.out.size) (fun e =>h2 (Option.some.inj e))).trans (ONLY.out j h1 h2)) ?_
    clear hK K hm6 hg6
    refine wpAnyH_done (by kernel_rfl) ?_ _
    go_simp
    go_wp2
    have HDN:=HALL.out
    rw [show ((i:Int)+1)=((i+1:Nat):Int) from rfl]
    exact ⟨⟨i+1,_,kr,KR,kcr,HI.out,rfl,rfl,HKX.out.1,HKX.out.2.1,HKX.out.2.2,HKBX.out,by rw [HCR.out];exact zEJ HRX2.out HDN.2.2.1 HBW.out (fun hn ad e hb h =>HKBX.out hn ad e (HBB.out _ hb h)),by rw [HCR.out];exact HDN.1,HDN.2.1,HT7.out.trans HDN.2.2.1 (fun j hj h =>by rcases HBLI.out j h with h2 | h2;exact h2;omega),fun j hj =>by rcases HDN.2.2.2 j hj with h2 | h2;exact HBLI.out j h2;exact .inr (Nat.le_trans HT7.out.2.2.2.1 h2)⟩,by show m - (i+1)<m - i;have:=HI.out;omega⟩
  ·obtain rfl:i=m:=by omega
   have HML2:Hid (crN ns (fl,ks)=st):=(by show _=_;rw [hst,HML.out,List.take_length])
   have HFI:=yh hfi
   have HXI:=yh hxi
   obtain ⟨f1,f2⟩:=f
   obtain ⟨g1,g2⟩:=g
   have hx7:w7.heap[p]? = some (.cells #[.map (some b),.bool down,.bool f1,.int .i64 f2,.bool g1,.int .i64 g2] 59 (0,0)):=hxi
   have c1:=zAA (i:=1) hx7 rfl
   have c2:=zAA (i:=2) hx7 rfl
   have c3:=zAA (i:=3) hx7 rfl
   have c4:=zAA (i:=4) hx7 rfl
   have c5:=zAA (i:=5) hx7 rfl
   have fz1:w7.frozen? ⟨p,1,none⟩=false:=zAC hx7
   have fz2:w7.frozen? ⟨p,2,none⟩=false:=zAC hx7
   have fz3:w7.frozen? ⟨p,3,none⟩=false:=zAC hx7
   have fz4:w7.frozen? ⟨p,4,none⟩=false:=zAC hx7
   have fz5:w7.frozen? ⟨p,5,none⟩=false:=zAC hx7
   have HS1:=yh (zAf hx7 (i:=1) (.bool false))
   have HS2:=yh (zAf HS1.out.1 (i:=2) (.bool false))
   have HS3:=yh (zAf HS2.out.1 (i:=3) (.int .i64 0))
   have HS4:=yh (zAf HS3.out.1 (i:=4) (.bool false))
   have HS5:=yh (zAf HS4.out.1 (i:=5) (.int .i64 0))
   clear hx7 hst hkr hkm2 hKR hrr hfi hxi ht hbl
   go_wp2_with fail
   go_end0
   have hg:=HS1.out.2.trans (HS2.out.2.trans (HS3.out.2.trans (HS4.out.2.trans HS5.out.2)))
   refine ⟨rfl,Fi,ns,HNS.out,by rw [← HML.out];exact hnl,?_,HS5.out.1,?_,fun k hk =>?_⟩
   ·rw [HML2.out,← HML.out]
    exact zBN HFI.out HXI.out hg
   ·exact ((Turn.of_below HB1.out).trans HT7.out (fun j _ h =>h)).grown hg (fun j hj _ =>.inl (Option.some.inj hj).symm)
   ·rcases HBLI.out k hk with h2 | h2
    ·exact .inl h2
    ·exact .inr (Nat.le_trans HB1.out.size h2)
end Go.Proofs.YtfbgmehicmpdiaaGreatDoor
