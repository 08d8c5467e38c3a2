/- Texts of one proof. -/
import Derived.Test.YtoclafdidjpndaaGreatDoorMx25
import Derived.Test.YtoclafdidjpndaaGreatDoorMx26
set_option maxRecDepth 100000
set_option maxHeartbeats 8000000
namespace Go.Proofs.YtoclafdidjpndaaGreatDoor
open Go.RowKit
theorem rp12 (tl:List (List UInt8)) (t g:List UInt8) (u o m:Int) (A:Option Addr) (n c:Nat) (l:List Dp) (hm:MayP 1 ⟨2,t,u,o,m,g⟩ l) (hnu:Nums ⟨2,t,u,o,m,g⟩ l) (hfit:Fits ⟨2,t,u,o,m,g⟩ l) (tv:Value) (htl:tl.length≤100000) (w:World) (B0:Nat) (hT:Own w B0 tv tl) (hr:zAE w w.heap.size 3 A n (dps l)) :
  Calls Tryz.prog 17 #[.int .i64 1,tv,.agg #[.int .i64 2,.string (tx t),.int .u64 u,.slice A n c,.int .u64 o,.int .u64 m,.string (tx g)]] w fun e w' =>∃ v1 v2,e=.returned (.tuple #[v1,v2,.int .i64 0])∧Own w' w.heap.size v1 (payL 1 tl ⟨2,t,u,o,m,g⟩ l)∧Own w' B0 v2 (tabT 1 tl ⟨2,t,u,o,m,g⟩ l)∧Below w.heap.size w w':=by
 obtain ⟨i0,ii0,iz0,iz1,iz2⟩:=info_parts (show (Tryz.prog.info? 9).map (fun i =>(i.zero,i.size,i.bytes))=some (some (.string ⟨#[]⟩),1,16) from by kernel_rfl)
 obtain ⟨n1,n2,n3,n4⟩:=zBM hm
 have hln:l.length=n:=by have:=hr.1;rw [zAe] at this;omega
 have hn16:n≤16:=by omega
 have hTL:=zBb (tl:=tl) hm
 have hin:=zCG 1 tl ⟨2,t,u,o,m,g⟩ l
 obtain ⟨T,hTe⟩:∃ T,T=tabT 1 tl ⟨2,t,u,o,m,g⟩ l:=⟨_,rfl⟩
 rw [← hTe] at hin hTL
 have hT2:T.length≤200000:=by omega
 have hnm:(nmB 1 T t).length≤74:=zBy n1 (by omega)
 have hinT:(1:Int)<2∨t ∈ T:=hin.imp id fun h =>h _ (zAt (by simp))
 have hinD:∀ d ∈ l,(1:Int)<2∨d.name ∈ T:=fun d hd =>hin.imp id fun h =>h _ (zAt (by
  refine List.mem_append.2 (.inl (List.mem_cons.2 (.inr ?_)))
  exact List.mem_map.2 ⟨d,hd,rfl⟩))
 obtain ⟨nm,hnme⟩:∃ nm,nm=nmB 1 T t:=⟨_,rfl⟩
 rw [← hnme] at hnm
 obtain ⟨bk,hbk⟩:∃ bk,bk=vb 2:=⟨_,rfl⟩
 have lbk:bk.length≤10:=by rw [hbk];exact zAZ _ (by unfold top;omega)
 have HK:=yh (fun W =>zAW 2 (by unfold top;omega) W)
 rw [← hbk] at HK
 have hfin:Hid (payB 1 T ⟨2,t,u,o,m,g⟩ l=bk++nm):=by
  show _=_
  rw [hbk,hnme]
  unfold payB
  rw [zCO (show 2<128 by omega)]
  simp
 have hpl:Hid (payL 1 tl ⟨2,t,u,o,m,g⟩ l=freT 1 tl ⟨2,t,u,o,m,g⟩ l++[payB 1 T ⟨2,t,u,o,m,g⟩ l]):=by show _=_;unfold payL;rw [← hTe]
 have hfre:Hid (freT 1 tl ⟨2,t,u,o,m,g⟩ l=[]):=by show _=_;unfold freT;rw [if_pos (by omega)]
 have htab:Hid (T=tl):=by show _=_;rw [hTe];unfold tabT;rw [if_pos (by omega)]
 rw [← hTe]
 have hmay:=yh (fun W hw =>zCn 1 ⟨2,t,u,o,m,g⟩ A n c l (by omega) hfit W hw)
 have HMAY:=yh hm
 have HR:=yh hr
 obtain ⟨L,cT,rfl,hLc⟩:=zAH hT
 have HT:=yh hT
 obtain ⟨X0,hX0⟩:∃ X0,X0=w.alloc (.cells #[.int .i64 2,.string (tx t),.int .u64 u,.slice A n c,.int .u64 o,.int .u64 m,.string (tx g)] 45):=⟨_,rfl⟩
 have hz0:Hid (X0.heap.size=w.heap.size+1):=by show _=_;rw [hX0];simp
 have hbx0:=zAG w (.cells #[.int .i64 2,.string (tx t),.int .u64 u,.slice A n c,.int .u64 o,.int .u64 m,.string (tx g)] 45)
 rw [← hX0] at hbx0
 have HBX:Hid (∀ W,Below (w.heap.size+1) X0 W→W.heap[w.heap.size]? = some (.cells #[.int .i64 2,.string (tx t),.int .u64 u,.slice A n c,.int .u64 o,.int .u64 m,.string (tx g)] 45 (0,0))):=fun W h =>(h.block _ (by omega)).trans hbx0
 have HW0:Hid (Below w.heap.size w X0):=by rw [hX0];exact (Below.refl w.heap.size w).alloc (Nat.le_refl _) _
 have HB3:Hid (Below (w.heap.size+1) X0 (X0.alloc (.cells #[] 9))):=(Below.refl _ _).alloc (by rw [hz0.out];exact Nat.le_refl _) _
 have HZ:Hid (∀ W,Below (w.heap.size+1) X0 W→w.heap.size+1≤W.heap.size):=fun W h =>by have h1:=h.size;rw [hz0.out] at h1;exact h1
 have HRW:Hid (∀ W,Below (w.heap.size+1) X0 W→zAE W W.heap.size 3 A n (dps l)):=fun W h =>(HR.out.below (HW0.out.trans (h.mono (by omega)))).more (by have h1:=h.size;rw [hz0.out] at h1;omega)
 have HO3:Hid (Own (X0.alloc (.cells #[] 9)) (w.heap.size+1) (.slice (some ⟨w.heap.size+1,0,none⟩) 0 0) []):=by
  have h1:=zBF X0 9
  rw [hz0.out] at h1
  exact h1
 have HT3:Hid (Own (X0.alloc (.cells #[] 9)) B0 (.slice L tl.length cT) tl):=HT.out.below (HW0.out.trans (HB3.out.mono (by omega)))
 rw [hX0] at HBX HW0 HB3 HZ HRW HO3 HT3
 unfold rcv rsv at hmay
 clear hm hr hfit hTe hbx0 hz0 HR hX0 hbk hin hLc
 have hln2:Hid (l.length=n):=hln
 clear hln
 have HNME:=yh hnme
 clear hnme
 have HNU:=yh hnu
 have HN4:=yh n4
 have HIND:=yh hinD
 clear hnu n4 hinD
 have HTLT:Hid (∀ gg,(Value.slice L tl.length cT).ownBlock=some gg→gg<w.heap.size):=zAV HT.out
 clear hT
 have HINT:=yh hinT
 clear hinT
 have hbx:=HBX.out ((w.alloc (.cells #[.int .i64 2,.string (tx t),.int .u64 u,.slice A n c,.int .u64 o,.int .u64 m,.string (tx g)] 45)).alloc (.cells #[] 9)) HB3.out
 have p0:=zAA (i:=0) hbx rfl
 have p1:=zAA (i:=1) hbx rfl
 have p2:=zAA (i:=2) hbx rfl
 have p3:=zAA (i:=3) hbx rfl
 have p4:=zAA (i:=4) hbx rfl
 have p5:=zAA (i:=5) hbx rfl
 have p6:=zAA (i:=6) hbx rfl
 clear hbx
 go_enter Tryz.func17,Tryz.ntmps17
 go_wp2_with fail
 refine (hmay.out _ (HRW.out _ HB3.out)).mono ?_
 rintro e w4 ⟨he,hb⟩
 obtain rfl:=he.yes HMAY.out
 have HB4:=yh (HB3.out.trans (hb.mono (HZ.out _ HB3.out)))
 have HO4:=yh (HO3.out.below hb)
 have HT4:=yh (HT3.out.below hb)
 clear he hb hmay HMAY HO3 HT3
 clear p0 p1 p2 p3 p4 p5 p6
 have hbx:=HBX.out w4 HB4.out
 have p0:=zAA (i:=0) hbx rfl
 have p1:=zAA (i:=1) hbx rfl
 have p2:=zAA (i:=2) hbx rfl
 have p3:=zAA (i:=3) hbx rfl
 have p4:=zAA (i:=4) hbx rfl
 have p5:=zAA (i:=5) hbx rfl
 have p6:=zAA (i:=6) hbx rfl
 clear hbx
 obtain ⟨nT,hnT⟩:∃ nT,nT=tl.length:=⟨_,rfl⟩
 obtain ⟨nO,hnO⟩:∃ nO,nO=0:=⟨_,rfl⟩
 obtain ⟨FR,hFR⟩:∃ FR:List (List UInt8),FR=[]:=⟨_,rfl⟩
 have HNT:Hid (nT=T.length):=by rw [htab.out];exact hnT
 have HNO:Hid (nO=FR.length):=by rw [hFR];exact hnO
 have HTT:Hid (w4.ownsRow B0 9 1 (.slice L nT cT) nT (T.map tsv)):=by rw [hnT,htab.out];exact HT4.out
 have HOO:Hid (w4.ownsRow (w.heap.size+1) 9 1 (.slice (some ⟨w.heap.size+1,0,none⟩) 0 0) 0 (FR.map tsv)):=by rw [hFR];exact HO4.out
 have HAP:Hid (zBA (.slice (some ⟨w.heap.size+1,0,none⟩) 0 0) (.slice L nT cT)):=fun gg e1 e2 =>by
  rw [hnT] at e2
  have h1:=HTLT.out _ e2
  obtain rfl:w.heap.size+1=gg:=by simpa [Value.ownBlock] using e1
  omega
 have hnT2:nT≤200000:=by omega
 rw [← hnT]
 rw [← hFR] at hfre
 subst hnO
 obtain ⟨LT,rfl⟩:∃ LT,LT=L:=⟨_,rfl⟩
 obtain ⟨cX,rfl⟩:∃ cX,cX=cT:=⟨_,rfl⟩
 clear hnT hFR HTLT
 clear p0 p1 p2 p3 p4 p5 p6
 have hbx:=HBX.out w4 HB4.out
 have p0:=zAA (i:=0) hbx rfl
 have p1:=zAA (i:=1) hbx rfl
 have p2:=zAA (i:=2) hbx rfl
 have p3:=zAA (i:=3) hbx rfl
 have p4:=zAA (i:=4) hbx rfl
 have p5:=zAA (i:=5) hbx rfl
 have p6:=zAA (i:=6) hbx rfl
 clear hbx
 obtain ⟨s1,hs1⟩:∃ s1,s1=bk++nm:=⟨_,rfl⟩
 have ls1:s1.length≤100:=by rw [hs1,List.length_append];omega
 have as1:=fun W:World =>zAd (P:=Tryz.prog) W bk nm (by omega)
 rw [← hs1] at as1
 have Hs1:=yh hs1
 clear hs1
 have HBC:=HB4
 go_wp2_with fail
 refine wp_region_held (S:=fun W =>Below w4.heap.size w4 W) (by kernel_rfl) ?_
 have hS:Below w4.heap.size w4 w4.drew:=(Below.refl _ _).drew
 refine zAB 0 (.pointer (some ⟨w.heap.size,0,none⟩)) rfl (by kernel_rfl) (by kernel_rfl) (by kernel_rfl) (fun _ _ _ h =>h) (by kernel_rfl) hS (fun _ _ =>by kernel_rfl) ?_
 refine zAB 1 (.int .i64 2) rfl (by kernel_rfl) (by kernel_rfl) (by kernel_rfl) (fun _ _ _ h =>h) (by kernel_rfl) hS (by intro v hv;have q:=(hv.cell (p:=⟨w.heap.size,0,none⟩) (by have:=HZ.out _ HBC.out;show w.heap.size<_;omega)).trans p0;go_simp) ?_
 refine zAB 2 (.int .u64 2) rfl (by kernel_rfl) (by kernel_rfl) (by kernel_rfl) (fun _ _ _ h =>h) (by kernel_rfl) hS (fun _ _ =>by kernel_rfl) ?_
 refine zAB 4 (.int .i64 1) rfl (by kernel_rfl) (by kernel_rfl) (by kernel_rfl) (fun _ _ _ h =>h) (by kernel_rfl) hS (fun _ _ =>by kernel_rfl) ?_
 refine zAB 5 (.slice LT nT cX) rfl (by kernel_rfl) (by kernel_rfl) (by kernel_rfl) (fun _ _ _ h =>h) (by kernel_rfl) hS (fun _ _ =>by kernel_rfl) ?_
 refine zAB 6 (.pointer (some ⟨w.heap.size,1,none⟩)) rfl (by kernel_rfl) (by kernel_rfl) (by kernel_rfl) (fun _ _ _ h =>h) (by kernel_rfl) hS (fun _ _ =>by kernel_rfl) ?_
 refine zAB 7 (.string (tx t)) rfl (by kernel_rfl) (by kernel_rfl) (by kernel_rfl) (fun _ _ _ h =>h) (by kernel_rfl) hS (by intro v hv;have q:=(hv.cell (p:=⟨w.heap.size,1,none⟩) (by have:=HZ.out _ HBC.out;show w.heap.size<_;omega)).trans p1;go_simp) ?_
 refine zAP 3 rfl (by kernel_rfl) (by kernel_rfl) (fun K hK =>?_)
 go_simp
 refine (HK.out _).mono ?_
 rintro e w10 ⟨rfl,hb⟩
 have hS2:Below w4.heap.size w4 w10:=hS.trans (hb.mono hS.size)
 refine hK _ _ hS2 ?_
 clear hK K hb
 refine zAP 8 rfl (by kernel_rfl) (by kernel_rfl) (fun K hK =>?_)
 go_simp
 refine (zBi 1 (by omega) LT nT cX T t (by omega) HINT.out (by omega) w10 (((zAE.of_own HTT.out).below hS2).more hS2.size)).mono ?_
 rintro e w11 ⟨rfl,hb⟩
 rw [← HNME.out]
 have hS3:Below w4.heap.size w4 w11:=hS2.trans (hb.mono hS2.size)
 refine hK _ _ hS3 ?_
 clear hK K hb
 refine zAB 9 (.string (tx s1)) rfl (by kernel_rfl) (by kernel_rfl) (by kernel_rfl) (fun _ _ _ h =>h) (by kernel_rfl) hS3 (by intro v hv;go_simp) ?_
 refine zAB 10 (.string (tx s1)) rfl (by kernel_rfl) (by kernel_rfl) (by kernel_rfl) (fun _ _ _ h =>h) (by kernel_rfl) hS3 (fun _ _ =>by kernel_rfl) ?_
 refine wpAnyH_done (by kernel_rfl) ?_ _
 go_simp
 clear hS hS2 HBC
 have HB21:=yh (HB4.out.trans (hS3.mono (HZ.out _ HB4.out)))
 have HTT21:=yh (zAF HTT.out hS3)
 have HOO21:=yh (zAF HOO.out hS3)
 clear hS3
 clear p0 p1 p2 p3 p4 p5 p6
 have hbx:=HBX.out w11 HB21.out
 have p0:=zAA (i:=0) hbx rfl
 have p1:=zAA (i:=1) hbx rfl
 have p2:=zAA (i:=2) hbx rfl
 have p3:=zAA (i:=3) hbx rfl
 have p4:=zAA (i:=4) hbx rfl
 have p5:=zAA (i:=5) hbx rfl
 have p6:=zAA (i:=6) hbx rfl
 clear hbx
 obtain ⟨nO1,hO1⟩:∃ nO1,nO1=0+1:=⟨_,rfl⟩
 clear hO1
 have HO2:=yh (World.ownsRow.alloc HOO21.out (.cells #[.string (tx s1)] 9))
 have HT2:=yh (World.ownsRow.alloc HTT21.out (.cells #[.string (tx s1)] 9))
 have HR2:=yh (zAi w11 9 (.string (tx s1)))
 have HB2:=yh (HB21.out.alloc (HZ.out _ HB21.out) (.cells #[.string (tx s1)] 9))
 go_wp2_with (at_builtin;refine zAX _ rfl (.tmp 164) (.tmp 166) 53 rfl (w.heap.size+1) 9 i0 _ 1 16 Tryz.underlying53 ii0 iz0 iz1 iz2 rfl (by decide) _ 0 _ rfl HO2.out (some ⟨w11.heap.size,0,none⟩) 1 1 (w11.heap.size+1) [.string (tx s1)] rfl (by simp) HR2.out (fun u hu =>by obtain rfl:=List.mem_singleton.1 hu;rfl) (by unfold maxLen;omega) (by omega) (HZ.out _ HB2.out) ?_;intro v7 w7 ho7 hg7 hv7;have hg7b:(w11.alloc (.cells #[.string (tx s1)] 9)).grownBy w7 (Value.slice (some ⟨w.heap.size+1,0,none⟩) 0 0).ownBlock:=hg7;have HO7:=yh ho7;have HB7:=yh (HB2.out.grown hg7b (HZ.out _ HB2.out) (zAI HO2.out));have HT7:=yh (zAp HT2.out HAP.out hg7b);clear ho7 hg7 hv7 hg7b)
 go_ret3
 refine ⟨_,_,rfl,?_,?_,HW0.out.trans (HB7.out.mono (by omega))⟩
 ·rw [hpl.out,hfre.out,hfin.out,← Hs1.out]
  unfold Own
  rw [List.length_append,List.map_append,← HNO.out]
  exact zAY HO7.out (by omega)
 ·unfold Own
  rw [← HNT.out]
  exact HT7.out
theorem rp11 (tl:List (List UInt8)) (t g:List UInt8) (u o m:Int) (A:Option Addr) (n c:Nat) (l:List Dp) (hm:MayP 1 ⟨1,t,u,o,m,g⟩ l) (hnu:Nums ⟨1,t,u,o,m,g⟩ l) (hfit:Fits ⟨1,t,u,o,m,g⟩ l) (tv:Value) (htl:tl.length≤100000) (w:World) (B0:Nat) (hT:Own w B0 tv tl) (hr:zAE w w.heap.size 3 A n (dps l)) :
  Calls Tryz.prog 17 #[.int .i64 1,tv,.agg #[.int .i64 1,.string (tx t),.int .u64 u,.slice A n c,.int .u64 o,.int .u64 m,.string (tx g)]] w fun e w' =>∃ v1 v2,e=.returned (.tuple #[v1,v2,.int .i64 0])∧Own w' w.heap.size v1 (payL 1 tl ⟨1,t,u,o,m,g⟩ l)∧Own w' B0 v2 (tabT 1 tl ⟨1,t,u,o,m,g⟩ l)∧Below w.heap.size w w':=by
 obtain ⟨i0,ii0,iz0,iz1,iz2⟩:=info_parts (show (Tryz.prog.info? 9).map (fun i =>(i.zero,i.size,i.bytes))=some (some (.string ⟨#[]⟩),1,16) from by kernel_rfl)
 obtain ⟨n1,n2,n3,n4⟩:=zBM hm
 have hln:l.length=n:=by have:=hr.1;rw [zAe] at this;omega
 have hn16:n≤16:=by omega
 have hTL:=zBb (tl:=tl) hm
 have hin:=zCG 1 tl ⟨1,t,u,o,m,g⟩ l
 obtain ⟨T,hTe⟩:∃ T,T=tabT 1 tl ⟨1,t,u,o,m,g⟩ l:=⟨_,rfl⟩
 rw [← hTe] at hin hTL
 have hT2:T.length≤200000:=by omega
 have hnm:(nmB 1 T t).length≤74:=zBy n1 (by omega)
 have hinT:(1:Int)<2∨t ∈ T:=hin.imp id fun h =>h _ (zAt (by simp))
 have hinD:∀ d ∈ l,(1:Int)<2∨d.name ∈ T:=fun d hd =>hin.imp id fun h =>h _ (zAt (by
  refine List.mem_append.2 (.inl (List.mem_cons.2 (.inr ?_)))
  exact List.mem_map.2 ⟨d,hd,rfl⟩))
 obtain ⟨nm,hnme⟩:∃ nm,nm=nmB 1 T t:=⟨_,rfl⟩
 rw [← hnme] at hnm
 obtain ⟨bk,hbk⟩:∃ bk,bk=vb 1:=⟨_,rfl⟩
 have lbk:bk.length≤10:=by rw [hbk];exact zAZ _ (by unfold top;omega)
 have HK:=yh (fun W =>zAW 1 (by unfold top;omega) W)
 rw [← hbk] at HK
 have hFL:=fun k =>zCd (ver:=1) (tl:=T) (l:=l) (m:=k) n4 hnu.2.2.2 (by omega)
 obtain ⟨bu,hbu⟩:∃ bu,bu=vb u.toNat:=⟨_,rfl⟩
 have lbu:bu.length≤10:=by rw [hbu];exact zAZ _ (zAJ hnu.1).2
 have HU:=yh (fun W =>zAW u.toNat (zAJ hnu.1).2 W)
 rw [← hbu,← (zAJ hnu.1).1] at HU
 obtain ⟨bn,hbn⟩:∃ bn,bn=vb n:=⟨_,rfl⟩
 have lbn:bn.length≤10:=by rw [hbn];exact zAZ _ (by unfold top;omega)
 have HN:=yh (fun W =>zAW n (by unfold top;omega) W)
 rw [← hbn] at HN
 obtain ⟨bo,hbo⟩:∃ bo,bo=vb o.toNat:=⟨_,rfl⟩
 have lbo:bo.length≤10:=by rw [hbo];exact zAZ _ (zAJ hnu.2.1).2
 have HO:=yh (fun W =>zAW o.toNat (zAJ hnu.2.1).2 W)
 rw [← hbo,← (zAJ hnu.2.1).1] at HO
 have hfin:Hid (payB 1 T ⟨1,t,u,o,m,g⟩ l=((((bk++nm)++bu)++bn)++l.flatMap (fDep 1 T))++bo):=by
  show _=_
  rw [hbk,hnme,hbu,hbn,hbo]
  unfold payB zBk
  rw [zCO (show 1<128 by omega),hln]
  simp
 have hpl:Hid (payL 1 tl ⟨1,t,u,o,m,g⟩ l=freT 1 tl ⟨1,t,u,o,m,g⟩ l++[payB 1 T ⟨1,t,u,o,m,g⟩ l]):=by show _=_;unfold payL;rw [← hTe]
 have hfre:Hid (freT 1 tl ⟨1,t,u,o,m,g⟩ l=[]):=by show _=_;unfold freT;rw [if_pos (by omega)]
 have htab:Hid (T=tl):=by show _=_;rw [hTe];unfold tabT;rw [if_pos (by omega)]
 rw [← hTe]
 have hmay:=yh (fun W hw =>zCn 1 ⟨1,t,u,o,m,g⟩ A n c l (by omega) hfit W hw)
 have HMAY:=yh hm
 have HR:=yh hr
 obtain ⟨L,cT,rfl,hLc⟩:=zAH hT
 have HT:=yh hT
 obtain ⟨X0,hX0⟩:∃ X0,X0=w.alloc (.cells #[.int .i64 1,.string (tx t),.int .u64 u,.slice A n c,.int .u64 o,.int .u64 m,.string (tx g)] 45):=⟨_,rfl⟩
 have hz0:Hid (X0.heap.size=w.heap.size+1):=by show _=_;rw [hX0];simp
 have hbx0:=zAG w (.cells #[.int .i64 1,.string (tx t),.int .u64 u,.slice A n c,.int .u64 o,.int .u64 m,.string (tx g)] 45)
 rw [← hX0] at hbx0
 have HBX:Hid (∀ W,Below (w.heap.size+1) X0 W→W.heap[w.heap.size]? = some (.cells #[.int .i64 1,.string (tx t),.int .u64 u,.slice A n c,.int .u64 o,.int .u64 m,.string (tx g)] 45 (0,0))):=fun W h =>(h.block _ (by omega)).trans hbx0
 have HW0:Hid (Below w.heap.size w X0):=by rw [hX0];exact (Below.refl w.heap.size w).alloc (Nat.le_refl _) _
 have HB3:Hid (Below (w.heap.size+1) X0 (X0.alloc (.cells #[] 9))):=(Below.refl _ _).alloc (by rw [hz0.out];exact Nat.le_refl _) _
 have HZ:Hid (∀ W,Below (w.heap.size+1) X0 W→w.heap.size+1≤W.heap.size):=fun W h =>by have h1:=h.size;rw [hz0.out] at h1;exact h1
 have HRW:Hid (∀ W,Below (w.heap.size+1) X0 W→zAE W W.heap.size 3 A n (dps l)):=fun W h =>(HR.out.below (HW0.out.trans (h.mono (by omega)))).more (by have h1:=h.size;rw [hz0.out] at h1;omega)
 have HO3:Hid (Own (X0.alloc (.cells #[] 9)) (w.heap.size+1) (.slice (some ⟨w.heap.size+1,0,none⟩) 0 0) []):=by
  have h1:=zBF X0 9
  rw [hz0.out] at h1
  exact h1
 have HT3:Hid (Own (X0.alloc (.cells #[] 9)) B0 (.slice L tl.length cT) tl):=HT.out.below (HW0.out.trans (HB3.out.mono (by omega)))
 rw [hX0] at HBX HW0 HB3 HZ HRW HO3 HT3
 unfold rcv rsv at hmay
 clear hm hr hfit hTe hbx0 hz0 HR hX0 hbk hin hLc
 have hln2:Hid (l.length=n):=hln
 clear hln
 have HNME:=yh hnme
 clear hnme
 have HNU:=yh hnu
 have HN4:=yh n4
 have HIND:=yh hinD
 clear hnu n4 hinD
 have HFL:=yh hFL
 clear hFL hbu hbn hbo
 have HTLT:Hid (∀ gg,(Value.slice L tl.length cT).ownBlock=some gg→gg<w.heap.size):=zAV HT.out
 clear hT
 have HINT:=yh hinT
 clear hinT
 have hbx:=HBX.out ((w.alloc (.cells #[.int .i64 1,.string (tx t),.int .u64 u,.slice A n c,.int .u64 o,.int .u64 m,.string (tx g)] 45)).alloc (.cells #[] 9)) HB3.out
 have p0:=zAA (i:=0) hbx rfl
 have p1:=zAA (i:=1) hbx rfl
 have p2:=zAA (i:=2) hbx rfl
 have p3:=zAA (i:=3) hbx rfl
 have p4:=zAA (i:=4) hbx rfl
 have p5:=zAA (i:=5) hbx rfl
 have p6:=zAA (i:=6) hbx rfl
 clear hbx
 go_enter Tryz.func17,Tryz.ntmps17
 go_wp2_with fail
 refine (hmay.out _ (HRW.out _ HB3.out)).mono ?_
 rintro e w4 ⟨he,hb⟩
 obtain rfl:=he.yes HMAY.out
 have HB4:=yh (HB3.out.trans (hb.mono (HZ.out _ HB3.out)))
 have HO4:=yh (HO3.out.below hb)
 have HT4:=yh (HT3.out.below hb)
 clear he hb hmay HMAY HO3 HT3
 clear p0 p1 p2 p3 p4 p5 p6
 have hbx:=HBX.out w4 HB4.out
 have p0:=zAA (i:=0) hbx rfl
 have p1:=zAA (i:=1) hbx rfl
 have p2:=zAA (i:=2) hbx rfl
 have p3:=zAA (i:=3) hbx rfl
 have p4:=zAA (i:=4) hbx rfl
 have p5:=zAA (i:=5) hbx rfl
 have p6:=zAA (i:=6) hbx rfl
 clear hbx
 obtain ⟨nT,hnT⟩:∃ nT,nT=tl.length:=⟨_,rfl⟩
 obtain ⟨nO,hnO⟩:∃ nO,nO=0:=⟨_,rfl⟩
 obtain ⟨FR,hFR⟩:∃ FR:List (List UInt8),FR=[]:=⟨_,rfl⟩
 have HNT:Hid (nT=T.length):=by rw [htab.out];exact hnT
 have HNO:Hid (nO=FR.length):=by rw [hFR];exact hnO
 have HTT:Hid (w4.ownsRow B0 9 1 (.slice L nT cT) nT (T.map tsv)):=by rw [hnT,htab.out];exact HT4.out
 have HOO:Hid (w4.ownsRow (w.heap.size+1) 9 1 (.slice (some ⟨w.heap.size+1,0,none⟩) 0 0) 0 (FR.map tsv)):=by rw [hFR];exact HO4.out
 have HAP:Hid (zBA (.slice (some ⟨w.heap.size+1,0,none⟩) 0 0) (.slice L nT cT)):=fun gg e1 e2 =>by
  rw [hnT] at e2
  have h1:=HTLT.out _ e2
  obtain rfl:w.heap.size+1=gg:=by simpa [Value.ownBlock] using e1
  omega
 have hnT2:nT≤200000:=by omega
 rw [← hnT]
 rw [← hFR] at hfre
 subst hnO
 obtain ⟨LT,rfl⟩:∃ LT,LT=L:=⟨_,rfl⟩
 obtain ⟨cX,rfl⟩:∃ cX,cX=cT:=⟨_,rfl⟩
 clear hnT hFR HTLT
 clear p0 p1 p2 p3 p4 p5 p6
 have hbx:=HBX.out w4 HB4.out
 have p0:=zAA (i:=0) hbx rfl
 have p1:=zAA (i:=1) hbx rfl
 have p2:=zAA (i:=2) hbx rfl
 have p3:=zAA (i:=3) hbx rfl
 have p4:=zAA (i:=4) hbx rfl
 have p5:=zAA (i:=5) hbx rfl
 have p6:=zAA (i:=6) hbx rfl
 clear hbx
 obtain ⟨s1,hs1⟩:∃ s1,s1=bk++nm:=⟨_,rfl⟩
 have ls1:s1.length≤100:=by rw [hs1,List.length_append];omega
 have as1:=fun W:World =>zAd (P:=Tryz.prog) W bk nm (by omega)
 rw [← hs1] at as1
 have Hs1:=yh hs1
 clear hs1
 have HBC:=HB4
 go_wp2_with fail
 refine wp_region_held (S:=fun W =>Below w4.heap.size w4 W) (by kernel_rfl) ?_
 have hS:Below w4.heap.size w4 w4.drew:=(Below.refl _ _).drew
 refine zAB 0 (.pointer (some ⟨w.heap.size,0,none⟩)) rfl (by kernel_rfl) (by kernel_rfl) (by kernel_rfl) (fun _ _ _ h =>h) (by kernel_rfl) hS (fun _ _ =>by kernel_rfl) ?_
 refine zAB 1 (.int .i64 1) rfl (by kernel_rfl) (by kernel_rfl) (by kernel_rfl) (fun _ _ _ h =>h) (by kernel_rfl) hS (by intro v hv;have q:=(hv.cell (p:=⟨w.heap.size,0,none⟩) (by have:=HZ.out _ HBC.out;show w.heap.size<_;omega)).trans p0;go_simp) ?_
 refine zAB 2 (.int .u64 1) rfl (by kernel_rfl) (by kernel_rfl) (by kernel_rfl) (fun _ _ _ h =>h) (by kernel_rfl) hS (fun _ _ =>by kernel_rfl) ?_
 refine zAB 4 (.int .i64 1) rfl (by kernel_rfl) (by kernel_rfl) (by kernel_rfl) (fun _ _ _ h =>h) (by kernel_rfl) hS (fun _ _ =>by kernel_rfl) ?_
 refine zAB 5 (.slice LT nT cX) rfl (by kernel_rfl) (by kernel_rfl) (by kernel_rfl) (fun _ _ _ h =>h) (by kernel_rfl) hS (fun _ _ =>by kernel_rfl) ?_
 refine zAB 6 (.pointer (some ⟨w.heap.size,1,none⟩)) rfl (by kernel_rfl) (by kernel_rfl) (by kernel_rfl) (fun _ _ _ h =>h) (by kernel_rfl) hS (fun _ _ =>by kernel_rfl) ?_
 refine zAB 7 (.string (tx t)) rfl (by kernel_rfl) (by kernel_rfl) (by kernel_rfl) (fun _ _ _ h =>h) (by kernel_rfl) hS (by intro v hv;have q:=(hv.cell (p:=⟨w.heap.size,1,none⟩) (by have:=HZ.out _ HBC.out;show w.heap.size<_;omega)).trans p1;go_simp) ?_
 refine zAP 3 rfl (by kernel_rfl) (by kernel_rfl) (fun K hK =>?_)
 go_simp
 refine (HK.out _).mono ?_
 rintro e w10 ⟨rfl,hb⟩
 have hS2:Below w4.heap.size w4 w10:=hS.trans (hb.mono hS.size)
 refine hK _ _ hS2 ?_
 clear hK K hb
 refine zAP 8 rfl (by kernel_rfl) (by kernel_rfl) (fun K hK =>?_)
 go_simp
 refine (zBi 1 (by omega) LT nT cX T t (by omega) HINT.out (by omega) w10 (((zAE.of_own HTT.out).below hS2).more hS2.size)).mono ?_
 rintro e w11 ⟨rfl,hb⟩
 rw [← HNME.out]
 have hS3:Below w4.heap.size w4 w11:=hS2.trans (hb.mono hS2.size)
 refine hK _ _ hS3 ?_
 clear hK K hb
 refine zAB 9 (.string (tx s1)) rfl (by kernel_rfl) (by kernel_rfl) (by kernel_rfl) (fun _ _ _ h =>h) (by kernel_rfl) hS3 (by intro v hv;go_simp) ?_
 refine zAB 10 (.string (tx s1)) rfl (by kernel_rfl) (by kernel_rfl) (by kernel_rfl) (fun _ _ _ h =>h) (by kernel_rfl) hS3 (fun _ _ =>by kernel_rfl) ?_
 refine wpAnyH_done (by kernel_rfl) ?_ _
 go_simp
 clear hS hS2 HBC
 have HB21:=yh (HB4.out.trans (hS3.mono (HZ.out _ HB4.out)))
 have HTT21:=yh (zAF HTT.out hS3)
 have HOO21:=yh (zAF HOO.out hS3)
 clear hS3
 clear p0 p1 p2 p3 p4 p5 p6
 have hbx:=HBX.out w11 HB21.out
 have p0:=zAA (i:=0) hbx rfl
 have p1:=zAA (i:=1) hbx rfl
 have p2:=zAA (i:=2) hbx rfl
 have p3:=zAA (i:=3) hbx rfl
 have p4:=zAA (i:=4) hbx rfl
 have p5:=zAA (i:=5) hbx rfl
 have p6:=zAA (i:=6) hbx rfl
 clear hbx
 obtain ⟨s2,hs2⟩:∃ s2,s2=s1++bu:=⟨_,rfl⟩
 have ls2:s2.length≤200:=by rw [hs2,List.length_append];omega
 have as2:=fun W:World =>zAd (P:=Tryz.prog) W s1 bu (by omega)
 rw [← hs2] at as2
 have Hs2:=yh hs2
 clear hs2
 obtain ⟨s3,hs3⟩:∃ s3,s3=s2++bn:=⟨_,rfl⟩
 have ls3:s3.length≤300:=by rw [hs3,List.length_append];omega
 have as3:=fun W:World =>zAd (P:=Tryz.prog) W s2 bn (by omega)
 rw [← hs3] at as3
 have Hs3:=yh hs3
 clear hs3
 have HBC:=HB21
 go_wp2_with fail
 refine wp_region_held (S:=fun W =>Below w11.heap.size w11 W) (by kernel_rfl) ?_
 have hS:Below w11.heap.size w11 w11.drew:=(Below.refl _ _).drew
 refine zAB 0 (.string (tx s1)) rfl (by kernel_rfl) (by kernel_rfl) (by kernel_rfl) (fun _ _ _ h =>h) (by kernel_rfl) hS (fun _ _ =>by kernel_rfl) ?_
 refine zAB 1 (.pointer (some ⟨w.heap.size,2,none⟩)) rfl (by kernel_rfl) (by kernel_rfl) (by kernel_rfl) (fun _ _ _ h =>h) (by kernel_rfl) hS (fun _ _ =>by kernel_rfl) ?_
 refine zAB 2 (.int .u64 u) rfl (by kernel_rfl) (by kernel_rfl) (by kernel_rfl) (fun _ _ _ h =>h) (by kernel_rfl) hS (by intro v hv;have q:=(hv.cell (p:=⟨w.heap.size,2,none⟩) (by have:=HZ.out _ HBC.out;show w.heap.size<_;omega)).trans p2;go_simp) ?_
 refine zAB 5 (.pointer (some ⟨w.heap.size,3,none⟩)) rfl (by kernel_rfl) (by kernel_rfl) (by kernel_rfl) (fun _ _ _ h =>h) (by kernel_rfl) hS (fun _ _ =>by kernel_rfl) ?_
 refine zAB 6 (.slice A n c) rfl (by kernel_rfl) (by kernel_rfl) (by kernel_rfl) (fun _ _ _ h =>h) (by kernel_rfl) hS (by intro v hv;have q:=(hv.cell (p:=⟨w.heap.size,3,none⟩) (by have:=HZ.out _ HBC.out;show w.heap.size<_;omega)).trans p3;go_simp) ?_
 refine zAB 7 (.int .i64 (n:Int)) rfl (by kernel_rfl) (by kernel_rfl) (by kernel_rfl) (fun _ _ _ h =>h) (by kernel_rfl) hS (by intro v hv;go_simp) ?_
 refine zAB 8 (.int .u64 (n:Int)) rfl (by kernel_rfl) (by kernel_rfl) (by kernel_rfl) (fun _ _ _ h =>h) (by kernel_rfl) hS (by intro v hv;go_simp;rw [IntKind.wrap_u64];omega) ?_
 refine zAP 3 rfl (by kernel_rfl) (by kernel_rfl) (fun K hK =>?_)
 go_simp
 refine (HU.out _).mono ?_
 rintro e w12 ⟨rfl,hb⟩
 have hS2:Below w11.heap.size w11 w12:=hS.trans (hb.mono hS.size)
 refine hK _ _ hS2 ?_
 clear hK K hb
 refine zAB 4 (.string (tx s2)) rfl (by kernel_rfl) (by kernel_rfl) (by kernel_rfl) (fun _ _ _ h =>h) (by kernel_rfl) hS2 (by intro v hv;go_simp) ?_
 refine zAP 9 rfl (by kernel_rfl) (by kernel_rfl) (fun K hK =>?_)
 go_simp
 refine (HN.out _).mono ?_
 rintro e w13 ⟨rfl,hb⟩
 have hS3:Below w11.heap.size w11 w13:=hS2.trans (hb.mono hS2.size)
 refine hK _ _ hS3 ?_
 clear hK K hb
 refine zAB 10 (.string (tx s3)) rfl (by kernel_rfl) (by kernel_rfl) (by kernel_rfl) (fun _ _ _ h =>h) (by kernel_rfl) hS3 (by intro v hv;go_simp) ?_
 refine zAB 11 (.string (tx s3)) rfl (by kernel_rfl) (by kernel_rfl) (by kernel_rfl) (fun _ _ _ h =>h) (by kernel_rfl) hS3 (fun _ _ =>by kernel_rfl) ?_
 refine wpAnyH_done (by kernel_rfl) ?_ _
 go_simp
 clear hS hS2 HBC as1 as2 as3
 have HB22:=yh (HB21.out.trans (hS3.mono (HZ.out _ HB21.out)))
 have HTT22:=yh (zAF HTT21.out hS3)
 have HOO22:=yh (zAF HOO21.out hS3)
 clear hS3
 clear p0 p1 p2 p3 p4 p5 p6
 have hbx:=HBX.out w13 HB22.out
 have p0:=zAA (i:=0) hbx rfl
 have p1:=zAA (i:=1) hbx rfl
 have p2:=zAA (i:=2) hbx rfl
 have p3:=zAA (i:=3) hbx rfl
 have p4:=zAA (i:=4) hbx rfl
 have p5:=zAA (i:=5) hbx rfl
 have p6:=zAA (i:=6) hbx rfl
 clear hbx
 clear p0 p1 p2 p3 p4 p5 p6
 have H6:Hid (zEC 1 T s3 l w13 (.string (tx s3)) (.int .i64 0) w13):=⟨0,by omega,rfl,by simp,Below.refl _ _⟩
 have HLN:=hln2
 go_wp2
 go_loopw [12,13] (fun v12 v13 wr =>zEC 1 T s3 l w13 v12 v13 wr) (fun _ v13 _ =>n - (intOf v13).toNat)
 case atStart =>exact H6.out
 case round =>
  obtain ⟨j,hj,rfl,rfl,hbr⟩:=hrel
  clear H6
  rw [HLN.out] at hj
  have HBQ:=yh (HB22.out.trans (hbr.mono (HZ.out _ HB22.out)))
  have HTQ:=yh (zAF HTT22.out hbr)
  have HOQ:=yh (zAF HOO22.out hbr)
  have HBRQ:=yh hbr
  clear hbr
  have hfl:=HFL.out j
  have hbx:=HBX.out _ HBQ.out
  have p0:=zAA (i:=0) hbx rfl
  have p1:=zAA (i:=1) hbx rfl
  have p2:=zAA (i:=2) hbx rfl
  have p3:=zAA (i:=3) hbx rfl
  have p4:=zAA (i:=4) hbx rfl
  have p5:=zAA (i:=5) hbx rfl
  have p6:=zAA (i:=6) hbx rfl
  clear hbx
  by_cases hlt:j<n
  ·obtain ⟨x,hx⟩:∃ x,l[j]? = some x:=⟨_,List.getElem?_eq_getElem (by rw [HLN.out];exact hlt)⟩
   have hmx:=List.mem_of_getElem? hx
   obtain ⟨ad,rfl,_,hcx⟩:=(HRW.out _ HBQ.out).2 (by omega)
   obtain ⟨x0,x1,x2⟩:=zBI l j x hx
   have k0:=hcx _ _ x0
   have k1:=hcx _ _ x1
   have k2:=hcx _ _ x2
   rw [zBg] at k1
   rw [zBf] at k2
   have hxn:=HN4.out x hmx
   have hxd:=HIND.out x hmx
   have hxh:=HNU.out.2.2.2 x hmx
   have hsn:=zFj (ver:=1) (T:=T) (s:=s3) hx
   obtain ⟨xn,xh,xo⟩:=x
   simp only at k0 k1 k2 hxn hxd hxh
   unfold rsv at k0
   obtain ⟨cs,hcs⟩:∃ cs,cs=s3++(l.take j).flatMap (fDep 1 T):=⟨_,rfl⟩
   have lcs:cs.length≤2000:=by rw [hcs,List.length_append];omega
   rw [← hcs] at hsn ⊢
   obtain ⟨bh,hbh⟩:∃ bh,bh=vb xh.toNat:=⟨_,rfl⟩
   have lbh:bh.length≤10:=by rw [hbh];exact zAZ _ (zAJ hxh).2
   have HH:=yh (fun W =>zAW xh.toNat (zAJ hxh).2 W)
   rw [← hbh,← (zAJ hxh).1] at HH
   have HBXD:=yh (zAG wr (.cells #[.string (tx xn),.int .u64 xh,.bool xo] 73))
   have HBD:=yh (HBQ.out.alloc (HZ.out _ HBQ.out) (.cells #[.string (tx xn),.int .u64 xh,.bool xo] 73))
   have HBRD:=yh (HBRQ.out.alloc HBRQ.out.size (.cells #[.string (tx xn),.int .u64 xh,.bool xo] 73))
   have HTD:=yh (World.ownsRow.alloc HTQ.out (.cells #[.string (tx xn),.int .u64 xh,.bool xo] 73))
   have d0:=zAA (i:=0) HBXD.out rfl
   have d1:=zAA (i:=1) HBXD.out rfl
   have d2:=zAA (i:=2) HBXD.out rfl
   have hi0:(0:Int)≤(j:Int):=by omega
   have hi1:(j:Int)<(n:Int):=by omega
   clear hx hmx hcx x0 x1 x2 hfl hcs
   have hnb:=zBy (ver:=1) (tl:=T) hxn (by omega)
   obtain ⟨dn,hdn⟩:∃ dn,dn=nmB 1 T xn:=⟨_,rfl⟩
   rw [← hdn] at hnb
   have hse:s3++(l.take (j+1)).flatMap (fDep 1 T)=(cs++dn)++bh:=by rw [hsn,hdn,hbh];unfold fDep depB;rw [if_pos (by omega)];simp
   obtain ⟨c1,hc1⟩:∃ c1,c1=cs++dn:=⟨_,rfl⟩
   obtain ⟨c2,hc2⟩:∃ c2,c2=c1++bh:=⟨_,rfl⟩
   have lc1:c1.length≤3000:=by rw [hc1,List.length_append];omega
   have ac1:=fun W:World =>zAd (P:=Tryz.prog) W cs dn (by omega)
   have ac2:=fun W:World =>zAd (P:=Tryz.prog) W c1 bh (by omega)
   rw [← hc1] at ac1 hse
   rw [← hc2] at ac2 hse
   have HSE:=yh hse
   have HDN:=yh hdn
   have HTX:=yh (fun W (hb:Below (wr.alloc (.cells #[.string (tx xn),.int .u64 xh,.bool xo] 73)).heap.size (wr.alloc (.cells #[.string (tx xn),.int .u64 xh,.bool xo] 73)) W) =>zBi 1 (by omega) LT nT cX T xn (by omega) hxd (by omega) W (((zAE.of_own HTD.out).below hb).more hb.size))
   rw [← hdn] at HTX
   clear hse hsn hdn hc1 hc2 hbh hxd hxh
   go_wp2_with fail
   refine (HTX.out _ (Below.refl _ _)).mono ?_
   rintro e w14 ⟨rfl,hb⟩
   have hd14:=(hb.block wr.heap.size (by simp)).trans HBXD.out
   have e1:=zAA (i:=1) hd14 rfl
   have HB14:=yh (HBRD.out.trans (hb.mono HBRD.out.size))
   clear hd14 hb d0 d1 d2
   go_wp2_with fail
   refine (HH.out _).mono ?_
   rintro e w15 ⟨rfl,hb⟩
   have HB15:=yh (HB14.out.trans (hb.mono HB14.out.size))
   clear hb
   go_wp2
   exact ⟨⟨j+1,by rw [HLN.out];omega,by go_num,by rw [HSE.out],HB15.out⟩,by simp [intOf];omega⟩
  ·obtain rfl:j=n:=by omega
   rw [List.take_of_length_le (by rw [HLN.out];exact Nat.le_refl _)]
   have hfl2:=HFL.out l.length
   rw [List.take_length] at hfl2
   rw [HLN.out] at hfl2
   obtain ⟨fl,hfle⟩:∃ fl,fl=l.flatMap (fDep 1 T):=⟨_,rfl⟩
   rw [← hfle] at hfl2
   obtain ⟨s4,hs4⟩:∃ s4,s4=s3++fl:=⟨_,rfl⟩
   have ls4:s4.length≤2000:=by rw [hs4,List.length_append];omega
   rw [← hfle,← hs4]
   have Hs4:=yh hs4
   have HFLE:=yh hfle
   clear hfl hs4 hfle hfl2
   obtain ⟨s5,hs5⟩:∃ s5,s5=s4++bo:=⟨_,rfl⟩
   have ls5:s5.length≤3500:=by rw [hs5,List.length_append];omega
   have as5:=fun W:World =>zAd (P:=Tryz.prog) W s4 bo (by omega)
   rw [← hs5] at as5
   have Hs5:=yh hs5
   clear hs5
   go_wp2_with fail
   refine (HO.out _).mono ?_
   rintro e wq ⟨rfl,hb⟩
   obtain ⟨ws5,rfl⟩:∃ ws5,ws5=wq:=⟨_,rfl⟩
   have HB61:=yh (HBQ.out.trans (hb.mono (HZ.out _ HBQ.out)))
   have HTT61:=yh (zAF HTQ.out hb)
   have HOO61:=yh (zAF HOQ.out hb)
   clear hb
   clear p0 p1 p2 p3 p4 p5 p6
   have hbx:=HBX.out ws5 HB61.out
   have p0:=zAA (i:=0) hbx rfl
   have p1:=zAA (i:=1) hbx rfl
   have p2:=zAA (i:=2) hbx rfl
   have p3:=zAA (i:=3) hbx rfl
   have p4:=zAA (i:=4) hbx rfl
   have p5:=zAA (i:=5) hbx rfl
   have p6:=zAA (i:=6) hbx rfl
   clear hbx
   obtain ⟨nO1,hO1⟩:∃ nO1,nO1=0+1:=⟨_,rfl⟩
   clear hO1
   have HO2:=yh (World.ownsRow.alloc HOO61.out (.cells #[.string (tx s5)] 9))
   have HT2:=yh (World.ownsRow.alloc HTT61.out (.cells #[.string (tx s5)] 9))
   have HR2:=yh (zAi ws5 9 (.string (tx s5)))
   have HB2:=yh (HB61.out.alloc (HZ.out _ HB61.out) (.cells #[.string (tx s5)] 9))
   go_wp2_with (at_builtin;refine zAX _ rfl (.tmp 164) (.tmp 166) 53 rfl (w.heap.size+1) 9 i0 _ 1 16 Tryz.underlying53 ii0 iz0 iz1 iz2 rfl (by decide) _ 0 _ rfl HO2.out (some ⟨ws5.heap.size,0,none⟩) 1 1 (ws5.heap.size+1) [.string (tx s5)] rfl (by simp) HR2.out (fun u hu =>by obtain rfl:=List.mem_singleton.1 hu;rfl) (by unfold maxLen;omega) (by omega) (HZ.out _ HB2.out) ?_;intro v7 w7 ho7 hg7 hv7;have hg7b:(ws5.alloc (.cells #[.string (tx s5)] 9)).grownBy w7 (Value.slice (some ⟨w.heap.size+1,0,none⟩) 0 0).ownBlock:=hg7;have HO7:=yh ho7;have HB7:=yh (HB2.out.grown hg7b (HZ.out _ HB2.out) (zAI HO2.out));have HT7:=yh (zAp HT2.out HAP.out hg7b);clear ho7 hg7 hv7 hg7b)
   go_ret3
   refine ⟨_,_,rfl,?_,?_,HW0.out.trans (HB7.out.mono (by omega))⟩
   ·rw [hpl.out,hfre.out,hfin.out,← Hs1.out,← Hs2.out,← Hs3.out,← HFLE.out,← Hs4.out,← Hs5.out]
    unfold Own
    rw [List.length_append,List.map_append,← HNO.out]
    exact zAY HO7.out (by omega)
   ·unfold Own
    rw [← HNT.out]
    exact HT7.out
end Go.Proofs.YtoclafdidjpndaaGreatDoor
