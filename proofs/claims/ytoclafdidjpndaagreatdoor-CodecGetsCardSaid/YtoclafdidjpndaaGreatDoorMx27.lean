/- Texts of one proof. -/
import Derived.Test.YtoclafdidjpndaaGreatDoorMx25
import Derived.Test.YtoclafdidjpndaaGreatDoorMx26
set_option maxRecDepth 100000
set_option maxHeartbeats 8000000
namespace Go.Proofs.YtoclafdidjpndaaGreatDoor
open Go.RowKit
theorem rp22 (tl:List (List UInt8)) (t g:List UInt8) (u o m:Int) (A:Option Addr) (n c:Nat) (l:List Dp) (hm:MayP 2 ⟨2,t,u,o,m,g⟩ l) (hnu:Nums ⟨2,t,u,o,m,g⟩ l) (hfit:Fits ⟨2,t,u,o,m,g⟩ l) (tv:Value) (htl:tl.length≤100000) (w:World) (B0:Nat) (hB0:B0≤w.heap.size) (hT:Own w B0 tv tl) (hr:zAE w w.heap.size 3 A n (dps l)) :
  Calls Tryz.prog 17 #[.int .i64 2,tv,.agg #[.int .i64 2,.string (tx t),.int .u64 u,.slice A n c,.int .u64 o,.int .u64 m,.string (tx g)]] w fun e w' =>∃ v1 v2,e=.returned (.tuple #[v1,v2,.int .i64 0])∧Own w' w.heap.size v1 (payL 2 tl ⟨2,t,u,o,m,g⟩ l)∧Own w' B0 v2 (tabT 2 tl ⟨2,t,u,o,m,g⟩ l)∧Below w.heap.size w w':=by
 obtain ⟨i0,ii0,iz0,iz1,iz2⟩:=info_parts (show (Tryz.prog.info? 9).map (fun i =>(i.zero,i.size,i.bytes))=some (some (.string ⟨#[]⟩),1,16) from by kernel_rfl)
 obtain ⟨n1,n2,n3,n4⟩:=zBM hm
 have hln:l.length=n:=by have:=hr.1;rw [zAe] at this;omega
 have hn16:n≤16:=by omega
 have hTL:=zBb (tl:=tl) hm
 have hin:=zCG 2 tl ⟨2,t,u,o,m,g⟩ l
 obtain ⟨T,hTe⟩:∃ T,T=tabT 2 tl ⟨2,t,u,o,m,g⟩ l:=⟨_,rfl⟩
 rw [← hTe] at hin hTL
 have hT2:T.length≤200000:=by omega
 have hnm:(nmB 2 T t).length≤74:=zBy n1 (by omega)
 have hinT:(2:Int)<2∨t ∈ T:=hin.imp id fun h =>h _ (zAt (by simp))
 have hinD:∀ d ∈ l,(2:Int)<2∨d.name ∈ T:=fun d hd =>hin.imp id fun h =>h _ (zAt (by
  refine List.mem_append.2 (.inl (List.mem_cons.2 (.inr ?_)))
  exact List.mem_map.2 ⟨d,hd,rfl⟩))
 obtain ⟨nm,hnme⟩:∃ nm,nm=nmB 2 T t:=⟨_,rfl⟩
 rw [← hnme] at hnm
 obtain ⟨bk,hbk⟩:∃ bk,bk=vb 2:=⟨_,rfl⟩
 have lbk:bk.length≤10:=by rw [hbk];exact zAZ _ (by unfold top;omega)
 have HK:=yh (fun W =>zAW 2 (by unfold top;omega) W)
 rw [← hbk] at HK
 have hfin:Hid (payB 2 T ⟨2,t,u,o,m,g⟩ l=bk++nm):=by
  show _=_
  rw [hbk,hnme]
  unfold payB
  rw [zCO (show 2<128 by omega)]
  simp
 have hpl:Hid (payL 2 tl ⟨2,t,u,o,m,g⟩ l=freT 2 tl ⟨2,t,u,o,m,g⟩ l++[payB 2 T ⟨2,t,u,o,m,g⟩ l]):=by show _=_;unfold payL;rw [← hTe]
 have hfre:Hid (freT 2 tl ⟨2,t,u,o,m,g⟩ l=zAS tl (zAg ⟨2,t,u,o,m,g⟩ l)):=by show _=_;unfold freT;rw [if_neg (by omega)]
 have htab:Hid (T=(zAg ⟨2,t,u,o,m,g⟩ l).foldl tput tl):=by show _=_;rw [hTe];unfold tabT;rw [if_neg (by omega)]
 rw [← hTe]
 have hmay:=yh (fun W hw =>zCn 2 ⟨2,t,u,o,m,g⟩ A n c l (by omega) hfit W hw)
 have HMAY:=yh hm
 have HR:=yh hr
 obtain ⟨L,cT,rfl,hLc⟩:=zAH hT
 have HT:=yh hT
 have HNM:=yh (fun W hw =>zCz ⟨2,t,u,o,m,g⟩ A n c l (by omega) W hw)
 have hnl:=zBn hm
 obtain ⟨X0,hX0⟩:∃ X0,X0=w.alloc (.cells #[.int .i64 2,.string (tx t),.int .u64 u,.slice A n c,.int .u64 o,.int .u64 m,.string (tx g)] 45):=⟨_,rfl⟩
 have hz0:Hid (X0.heap.size=w.heap.size+1):=by show _=_;rw [hX0];simp
 have hbx0:=zAG w (.cells #[.int .i64 2,.string (tx t),.int .u64 u,.slice A n c,.int .u64 o,.int .u64 m,.string (tx g)] 45)
 rw [← hX0] at hbx0
 have HBX:Hid (∀ W,Below (w.heap.size+1) X0 W→W.heap[w.heap.size]? = some (.cells #[.int .i64 2,.string (tx t),.int .u64 u,.slice A n c,.int .u64 o,.int .u64 m,.string (tx g)] 45 (0,0))):=fun W h =>(h.block _ (by omega)).trans hbx0
 have HW0:Hid (Below w.heap.size w X0):=by rw [hX0];exact (Below.refl w.heap.size w).alloc (Nat.le_refl _) _
 have HB3:Hid (Below (w.heap.size+1) X0 (X0.alloc (.cells #[] 9))):=(Below.refl _ _).alloc (by rw [hz0.out];exact Nat.le_refl _) _
 have HZ:Hid (∀ W,Below (w.heap.size+1) X0 W→w.heap.size+1≤W.heap.size):=fun W h =>by have h1:=h.size;rw [hz0.out] at h1;exact h1
 have HRW:Hid (∀ W,Below (w.heap.size+1) X0 W→zAE W W.heap.size 3 A n (dps l)):=fun W h =>(HR.out.below (HW0.out.trans (h.mono (by omega)))).more (by have h1:=h.size;rw [hz0.out] at h1;omega)
 have HO3:Hid (Own (X0.alloc (.cells #[] 9)) (w.heap.size+1) (.slice (some ⟨w.heap.size+1,0,none⟩) 0 0) []):=by
  have h1:=zBF X0 9
  rw [hz0.out] at h1
  exact h1
 have HT3:Hid (Own (X0.alloc (.cells #[] 9)) B0 (.slice L tl.length cT) tl):=HT.out.below (HW0.out.trans (HB3.out.mono (by omega)))
 rw [hX0] at HBX HW0 HB3 HZ HRW HO3 HT3
 unfold rcv rsv at hmay HNM
 clear hm hr hfit hTe hbx0 hz0 HR hX0 hbk hin hLc
 have hln2:Hid (l.length=n):=hln
 clear hln
 have HNME:=yh hnme
 clear hnme
 have HNU:=yh hnu
 have HN4:=yh n4
 have HIND:=yh hinD
 clear hnu n4 hinD
 have HTLT:Hid (∀ gg,(Value.slice L tl.length cT).ownBlock=some gg→gg<w.heap.size):=zAV HT.out
 clear hT
 have HINT:=yh hinT
 clear hinT
 have hbx:=HBX.out ((w.alloc (.cells #[.int .i64 2,.string (tx t),.int .u64 u,.slice A n c,.int .u64 o,.int .u64 m,.string (tx g)] 45)).alloc (.cells #[] 9)) HB3.out
 have p0:=zAA (i:=0) hbx rfl
 have p1:=zAA (i:=1) hbx rfl
 have p2:=zAA (i:=2) hbx rfl
 have p3:=zAA (i:=3) hbx rfl
 have p4:=zAA (i:=4) hbx rfl
 have p5:=zAA (i:=5) hbx rfl
 have p6:=zAA (i:=6) hbx rfl
 clear hbx
 go_enter Tryz.func17,Tryz.ntmps17
 go_wp2_with fail
 refine (hmay.out _ (HRW.out _ HB3.out)).mono ?_
 rintro e w4 ⟨he,hb⟩
 obtain rfl:=he.yes HMAY.out
 have HB4:=yh (HB3.out.trans (hb.mono (HZ.out _ HB3.out)))
 have HO4:=yh (HO3.out.below hb)
 have HT4:=yh (HT3.out.below hb)
 clear he hb hmay HMAY HO3 HT3
 clear p0 p1 p2 p3 p4 p5 p6
 have hbx:=HBX.out w4 HB4.out
 have p0:=zAA (i:=0) hbx rfl
 have p1:=zAA (i:=1) hbx rfl
 have p2:=zAA (i:=2) hbx rfl
 have p3:=zAA (i:=3) hbx rfl
 have p4:=zAA (i:=4) hbx rfl
 have p5:=zAA (i:=5) hbx rfl
 have p6:=zAA (i:=6) hbx rfl
 clear hbx
 go_wp2_with fail
 refine (HNM.out _ (HRW.out _ HB4.out)).mono ?_
 rintro e w5 ⟨vn,rfl,hvn,hb⟩
 obtain ⟨ns,hns⟩:∃ ns,ns=zAg ⟨2,t,u,o,m,g⟩ l:=⟨_,rfl⟩
 rw [← hns] at hvn htab hfre hnl
 obtain ⟨An,cn,rfl,hAn⟩:=zAH hvn
 have HB5:=yh (HB4.out.trans (hb.mono (HZ.out _ HB4.out)))
 obtain ⟨mm,hmm⟩:∃ mm,mm=ns.length:=⟨_,rfl⟩
 have HMM:=yh hmm
 have H5:Hid (zDR B0 (w.heap.size+1) (w.alloc (.cells #[.int .i64 2,.string (tx t),.int .u64 u,.slice A n c,.int .u64 o,.int .u64 m,.string (tx g)] 45)) tl ns (.slice An ns.length cn) (.slice L tl.length cT) (.slice (some ⟨w.heap.size+1,0,none⟩) 0 0) (.int .i64 0) w5):=by
  refine ⟨0,_,_,rfl,rfl,by omega,rfl,HT4.out.below hb,HO4.out.below hb,hvn.less (by omega),fun gg e1 e2 =>?_,fun gg e1 e2 =>?_,HB5.out⟩
  ·have h1:=HTLT.out _ e2
   obtain rfl:w.heap.size+1=gg:=by simpa [Value.ownBlock] using e1
   omega
  ·have h1:=zAI hvn _ e2
   obtain rfl:w.heap.size+1=gg:=by simpa [Value.ownBlock] using e1
   have h2:=zAV HO4.out _ e1
   omega
 have HNL:=yh hnl.1
 have hm18:mm≤18:=by rw [hmm];exact hnl.2
 rw [← hmm] at H5 ⊢
 clear hvn hb hns hnl hmm HNM HT4 HO4 HB4 HTLT
 clear p0 p1 p2 p3 p4 p5 p6
 go_wp2
 go_loopw [1,9,11] (fun v1 v9 v11 wr =>zDR B0 (w.heap.size+1) (w.alloc (.cells #[.int .i64 2,.string (tx t),.int .u64 u,.slice A n c,.int .u64 o,.int .u64 m,.string (tx g)] 45)) tl ns (.slice An mm cn) v1 v9 v11 wr) (fun _ _ v11 _ =>mm - (intOf v11).toNat)
 case atStart =>exact H5.out
 case round =>
  obtain ⟨i,a1,a9,rfl,rfl,hi,rfl,ht,ho,hon,hap1,hap2,hbr⟩:=hrel
  clear H5
  rw [← HMM.out] at hi
  obtain ⟨L1,c1,rfl,hL1⟩:=zAH ht
  obtain ⟨L9,c9,rfl,hL9⟩:=zAH ho
  have HTr:=yh ht
  have HOr:=yh ho
  have HONr:=yh hon
  have HAP1:=yh hap1
  have HAP2:=yh hap2
  have HBr:=yh hbr
  have hf1:=zBO (ns.take i) tl
  have hf2:=zBN (ns.take i) tl
  rw [List.length_take] at hf1 hf2
  clear hap1 hap2 hbr
  by_cases hlt:i<mm
  ·obtain ⟨s,hs⟩:∃ s,ns[i]? = some s:=⟨_,List.getElem?_eq_getElem (by rw [← HMM.out];exact hlt)⟩
   have hon2:wr.ownsRow 0 9 1 (.slice An mm cn) mm (ns.map tsv):=by have h:=hon;unfold Own at h;rwa [← HMM.out] at h
   obtain ⟨adn,rfl,_,hcx⟩:=(zAE.of_own hon2).2 (by omega)
   clear hon2
   have k0:=hcx i (tsv s) (by rw [List.getElem?_map,hs];rfl)
   have HNC:Hid (∀ W,Own W 0 (.slice (some adn) mm cn) ns→W.cell? (adn.add i)=some (.string (tx s))):=fun W h =>by
    have h2:W.ownsRow 0 9 1 (.slice (some adn) mm cn) mm (ns.map tsv):=by unfold Own at h;rwa [← HMM.out] at h
    obtain ⟨ad2,e2,_,hc2⟩:=(zAE.of_own h2).2 (by omega)
    obtain rfl:adn=ad2:=Option.some.inj e2
    exact hc2 i (tsv s) (by rw [List.getElem?_map,hs];rfl)
   have hsl:=HNL.out s (List.mem_of_getElem? hs)
   have hpl:=zBo L1 ((ns.take i).foldl tput tl).length c1 ((ns.take i).foldl tput tl) s (by omega) wr (zAE.of_own ht)
   unfold tsv at k0 hpl
   have hi0:(0:Int)≤(i:Int):=by omega
   have hi1:(i:Int)<(mm:Int):=by omega
   have HS:=yh hs
   by_cases hin:s ∈ (ns.take i).foldl tput tl
   ·have HNI:=yh (zGs hs hin ht ho)
    rw [zCB hin] at hpl
    have HPL:=yh hpl
    generalize tnum ((ns.take i).foldl tput tl) s=q at HPL
    have hq0:decide ((q:Int)<0)=false:=decide_eq_false (by omega)
    generalize hT0:((ns.take i).foldl tput tl).length=nT at *
    generalize hF0:(zAS tl (ns.take i)).length=nF at *
    clear hcx ht ho hon hin hpl hs hf1 hf2 hT0 hF0
    go_wp2_with fail
    refine HPL.out.mono ?_
    rintro e w6 ⟨rfl,rfl⟩
    go_wp2
    exact ⟨⟨i+1,_,_,rfl,rfl,by rw [← HMM.out];omega,by go_num,HNI.out.1,HNI.out.2,HONr.out,HAP1.out,HAP2.out,HBr.out⟩,by simp [intOf];omega⟩
   ·have HNE:=yh (zFS hs hin)
    rw [zDG hin] at hpl
    have HPL:=yh hpl
    have hadd:∀ W:World,(Op.stringOp .add { data:=#[0] } (tx s)).run Tryz.prog W=.ok (.string (tx (0 :: s))) W:=fun W =>zAd W [0] s (by simp;omega)
    have HPUT:=yh (fun W hb hl =>zCU B0 (.slice L1 ((ns.take i).foldl tput tl).length c1) ((ns.take i).foldl tput tl) s (by omega) W hb hl)
    unfold tsv at HPUT
    obtain ⟨nT,hnT⟩:∃ nT,nT=((ns.take i).foldl tput tl).length:=⟨_,rfl⟩
    obtain ⟨nF,hnF⟩:∃ nF,nF=(zAS tl (ns.take i)).length:=⟨_,rfl⟩
    have HNT:=yh hnT
    have HNF:=yh hnF
    have HTr2:Hid (Own wr B0 (.slice L1 nT c1) ((ns.take i).foldl tput tl)):=by rw [hnT];exact ht
    have HOr2:Hid (wr.ownsRow (w.heap.size+1) 9 1 (.slice L9 nF c9) nF ((zAS tl (ns.take i)).map tsv)):=by rw [hnF];exact ho
    have HONr2:Hid (Own wr 0 (.slice (some adn) mm cn) ns):=hon
    have HA1:Hid (zBA (.slice L9 nF c9) (.slice L1 nT c1)):=by rw [hnF,hnT];exact HAP1.out
    have HA2:Hid (zBA (.slice L9 nF c9) (.slice (some adn) mm cn)):=by rw [hnF];exact HAP2.out
    rw [← hnT] at HPL HPUT
    rw [← hnF] at hf1
    rw [← hnT,← hnF]
    have hnF2:nF≤100:=by omega
    clear hcx ht ho hon hin hpl hs hf1 hf2 hnT hnF HTr HOr HONr HAP1 HAP2
    go_wp2_with fail
    refine HPL.out.mono ?_
    rintro e w6 ⟨rfl,rfl⟩
    have HO2:=yh (World.ownsRow.alloc HOr2.out (.cells #[.string (tx (0 :: s))] 9))
    have HR2:=yh (zAi wr 9 (.string (tx (0 :: s))))
    have HB2:=yh (HBr.out.alloc (HZ.out _ HBr.out) (.cells #[.string (tx (0 :: s))] 9))
    go_wp2_with (at_builtin;refine zAX _ rfl (.tmp 48) (.tmp 54) 53 rfl (w.heap.size+1) 9 i0 _ 1 16 Tryz.underlying53 ii0 iz0 iz1 iz2 rfl (by decide) _ nF _ rfl HO2.out (some ⟨wr.heap.size,0,none⟩) 1 1 (wr.heap.size+1) [.string (tx (0 :: s))] rfl (by simp) HR2.out (fun u hu =>by obtain rfl:=List.mem_singleton.1 hu;rfl) (by unfold maxLen;omega) (by omega) (HZ.out _ HB2.out) ?_;intro v7 w7 ho7 hg7 hv7;have hv7b:v7.ownBlock=(Value.slice L9 nF c9).ownBlock∨v7.ownBlock=some (wr.alloc (.cells #[.string (tx (0 :: s))] 9)).heap.size:=hv7;have hg7b:(wr.alloc (.cells #[.string (tx (0 :: s))] 9)).grownBy w7 (Value.slice L9 nF c9).ownBlock:=hg7;have HO7:=yh ho7;have HB7:=yh (HB2.out.grown hg7b (HZ.out _ HB2.out) (zAI HO2.out));have HT7:=yh (zAp (World.ownsRow.alloc HTr2.out (.cells #[.string (tx (0 :: s))] 9)) HA1.out hg7b);have HN7:=yh (zAp (World.ownsRow.alloc HONr2.out (.cells #[.string (tx (0 :: s))] 9)) HA2.out hg7b);have HA71:=yh (zBj HA1.out (World.ownsRow.alloc HTr2.out (.cells #[.string (tx (0 :: s))] 9)) hv7b);have HA72:=yh (zBj HA2.out (World.ownsRow.alloc HONr2.out (.cells #[.string (tx (0 :: s))] 9)) hv7b);have k7:=HNC.out _ HN7.out;clear ho7 hg7 hv7 hv7b hg7b)
    refine (HPUT.out w7 (by have:=HZ.out _ HB7.out;omega) HT7.out).mono ?_
    rintro e w8 ⟨v8,rfl,ho8,hv8,hb8⟩
    obtain ⟨L8,c8,rfl,_⟩:=zAH ho8
    have HB8:=yh (HB7.out.trans (hb8.mono (HZ.out _ HB7.out)))
    have HA81:Hid (zBA v7 (.slice L8 (tput ((ns.take i).foldl tput tl) s).length c8)):=by
     rcases hv8 with h | h
     ·rw [h];exact HA71.out
     ·exact zDq HO7.out h
    have HO8:=yh ho8
    have HO78:=yh (zAF HO7.out hb8)
    have HN8:=yh (zAF HN7.out hb8)
    clear ho8 hv8 hb8
    go_wp2
    exact ⟨⟨i+1,_,_,rfl,rfl,by rw [← HMM.out];omega,by go_num,by rw [HNE.out.1];exact HO8.out,by rw [HNE.out.2];unfold Own;rw [List.length_append,List.map_append,← HNF.out];exact HO78.out,HN8.out,HA81.out,HA72.out,HB8.out⟩,by simp [intOf];omega⟩
  ·obtain rfl:i=mm:=by omega
   have htk:ns.take i=ns:=List.take_of_length_le (by rw [← HMM.out];omega)
   rw [htk] at ht ho HAP1 HTr HOr
   rw [htk]
   rw [← htab.out] at ht HAP1 HTr ⊢
   obtain ⟨nT,hnT⟩:∃ nT,nT=T.length:=⟨_,rfl⟩
   obtain ⟨nO,hnO⟩:∃ nO,nO=(zAS tl ns).length:=⟨_,rfl⟩
   have HNT:=yh hnT
   have HNO:=yh hnO
   have HTT:Hid (wr.ownsRow B0 9 1 (.slice L1 nT c1) nT (T.map tsv)):=by rw [hnT];exact ht
   have HOO:Hid (wr.ownsRow (w.heap.size+1) 9 1 (.slice L9 nO c9) nO ((zAS tl ns).map tsv)):=by rw [hnO];exact ho
   have HAP:Hid (zBA (.slice L9 nO c9) (.slice L1 nT c1)):=by rw [hnO,hnT];exact HAP1.out
   have hnT2:nT≤200000:=by rw [hnT];exact hT2
   have hnO2:nO≤100:=by rw [hnO];have:=zBO ns tl;rw [← HMM.out] at this;omega
   rw [← hnT,← hnO]
   obtain ⟨LT,rfl⟩:∃ LT,LT=L1:=⟨_,rfl⟩
   obtain ⟨LO,rfl⟩:∃ LO,LO=L9:=⟨_,rfl⟩
   obtain ⟨cX,rfl⟩:∃ cX,cX=c1:=⟨_,rfl⟩
   obtain ⟨cO,rfl⟩:∃ cO,cO=c9:=⟨_,rfl⟩
   clear ht ho hon HTr HOr HONr HAP1 HAP2 hf1 hf2 htk hnT hnO
   have hbx:=HBX.out wr HBr.out
   have p0:=zAA (i:=0) hbx rfl
   have p1:=zAA (i:=1) hbx rfl
   have p2:=zAA (i:=2) hbx rfl
   have p3:=zAA (i:=3) hbx rfl
   have p4:=zAA (i:=4) hbx rfl
   have p5:=zAA (i:=5) hbx rfl
   have p6:=zAA (i:=6) hbx rfl
   clear hbx
   obtain ⟨s1,hs1⟩:∃ s1,s1=bk++nm:=⟨_,rfl⟩
   have ls1:s1.length≤100:=by rw [hs1,List.length_append];omega
   have as1:=fun W:World =>zAd (P:=Tryz.prog) W bk nm (by omega)
   rw [← hs1] at as1
   have Hs1:=yh hs1
   clear hs1
   have HBC:=HBr
   go_wp2_with fail
   refine wp_region_held (S:=fun W =>Below wr.heap.size wr W) (by kernel_rfl) ?_
   have hS:Below wr.heap.size wr wr.drew:=(Below.refl _ _).drew
   refine zAB 0 (.pointer (some ⟨w.heap.size,0,none⟩)) rfl (by kernel_rfl) (by kernel_rfl) (by kernel_rfl) (fun _ _ _ h =>h) (by kernel_rfl) hS (fun _ _ =>by kernel_rfl) ?_
   refine zAB 1 (.int .i64 2) rfl (by kernel_rfl) (by kernel_rfl) (by kernel_rfl) (fun _ _ _ h =>h) (by kernel_rfl) hS (by intro v hv;have q:=(hv.cell (p:=⟨w.heap.size,0,none⟩) (by have:=HZ.out _ HBC.out;show w.heap.size<_;omega)).trans p0;go_simp) ?_
   refine zAB 2 (.int .u64 2) rfl (by kernel_rfl) (by kernel_rfl) (by kernel_rfl) (fun _ _ _ h =>h) (by kernel_rfl) hS (fun _ _ =>by kernel_rfl) ?_
   refine zAB 4 (.int .i64 2) rfl (by kernel_rfl) (by kernel_rfl) (by kernel_rfl) (fun _ _ _ h =>h) (by kernel_rfl) hS (fun _ _ =>by kernel_rfl) ?_
   refine zAB 5 (.slice LT nT cX) rfl (by kernel_rfl) (by kernel_rfl) (by kernel_rfl) (fun _ _ _ h =>h) (by kernel_rfl) hS (fun _ _ =>by kernel_rfl) ?_
   refine zAB 6 (.pointer (some ⟨w.heap.size,1,none⟩)) rfl (by kernel_rfl) (by kernel_rfl) (by kernel_rfl) (fun _ _ _ h =>h) (by kernel_rfl) hS (fun _ _ =>by kernel_rfl) ?_
   refine zAB 7 (.string (tx t)) rfl (by kernel_rfl) (by kernel_rfl) (by kernel_rfl) (fun _ _ _ h =>h) (by kernel_rfl) hS (by intro v hv;have q:=(hv.cell (p:=⟨w.heap.size,1,none⟩) (by have:=HZ.out _ HBC.out;show w.heap.size<_;omega)).trans p1;go_simp) ?_
   refine zAP 3 rfl (by kernel_rfl) (by kernel_rfl) (fun K hK =>?_)
   go_simp
   refine (HK.out _).mono ?_
   rintro e w10 ⟨rfl,hb⟩
   have hS2:Below wr.heap.size wr w10:=hS.trans (hb.mono hS.size)
   refine hK _ _ hS2 ?_
   clear hK K hb
   refine zAP 8 rfl (by kernel_rfl) (by kernel_rfl) (fun K hK =>?_)
   go_simp
   refine (zBi 2 (by omega) LT nT cX T t (by omega) HINT.out (by omega) w10 (((zAE.of_own HTT.out).below hS2).more hS2.size)).mono ?_
   rintro e w11 ⟨rfl,hb⟩
   rw [← HNME.out]
   have hS3:Below wr.heap.size wr w11:=hS2.trans (hb.mono hS2.size)
   refine hK _ _ hS3 ?_
   clear hK K hb
   refine zAB 9 (.string (tx s1)) rfl (by kernel_rfl) (by kernel_rfl) (by kernel_rfl) (fun _ _ _ h =>h) (by kernel_rfl) hS3 (by intro v hv;go_simp) ?_
   refine zAB 10 (.string (tx s1)) rfl (by kernel_rfl) (by kernel_rfl) (by kernel_rfl) (fun _ _ _ h =>h) (by kernel_rfl) hS3 (fun _ _ =>by kernel_rfl) ?_
   refine wpAnyH_done (by kernel_rfl) ?_ _
   go_simp
   clear hS hS2 HBC
   have HB21:=yh (HBr.out.trans (hS3.mono (HZ.out _ HBr.out)))
   have HTT21:=yh (zAF HTT.out hS3)
   have HOO21:=yh (zAF HOO.out hS3)
   clear hS3
   clear p0 p1 p2 p3 p4 p5 p6
   have hbx:=HBX.out w11 HB21.out
   have p0:=zAA (i:=0) hbx rfl
   have p1:=zAA (i:=1) hbx rfl
   have p2:=zAA (i:=2) hbx rfl
   have p3:=zAA (i:=3) hbx rfl
   have p4:=zAA (i:=4) hbx rfl
   have p5:=zAA (i:=5) hbx rfl
   have p6:=zAA (i:=6) hbx rfl
   clear hbx
   obtain ⟨nO1,hO1⟩:∃ nO1,nO1=nO+1:=⟨_,rfl⟩
   clear hO1
   have HO2:=yh (World.ownsRow.alloc HOO21.out (.cells #[.string (tx s1)] 9))
   have HT2:=yh (World.ownsRow.alloc HTT21.out (.cells #[.string (tx s1)] 9))
   have HR2:=yh (zAi w11 9 (.string (tx s1)))
   have HB2:=yh (HB21.out.alloc (HZ.out _ HB21.out) (.cells #[.string (tx s1)] 9))
   go_wp2_with (at_builtin;refine zAX _ rfl (.tmp 164) (.tmp 166) 53 rfl (w.heap.size+1) 9 i0 _ 1 16 Tryz.underlying53 ii0 iz0 iz1 iz2 rfl (by decide) _ nO _ rfl HO2.out (some ⟨w11.heap.size,0,none⟩) 1 1 (w11.heap.size+1) [.string (tx s1)] rfl (by simp) HR2.out (fun u hu =>by obtain rfl:=List.mem_singleton.1 hu;rfl) (by unfold maxLen;omega) (by omega) (HZ.out _ HB2.out) ?_;intro v7 w7 ho7 hg7 hv7;have hg7b:(w11.alloc (.cells #[.string (tx s1)] 9)).grownBy w7 (Value.slice LO nO cO).ownBlock:=hg7;have HO7:=yh ho7;have HB7:=yh (HB2.out.grown hg7b (HZ.out _ HB2.out) (zAI HO2.out));have HT7:=yh (zAp HT2.out HAP.out hg7b);clear ho7 hg7 hv7 hg7b)
   go_ret3
   refine ⟨_,_,rfl,?_,?_,HW0.out.trans (HB7.out.mono (by omega))⟩
   ·rw [hpl.out,hfre.out,hfin.out,← Hs1.out]
    unfold Own
    rw [List.length_append,List.map_append,← HNO.out]
    exact zAY HO7.out (by omega)
   ·unfold Own
    rw [← HNT.out]
    exact HT7.out
end Go.Proofs.YtoclafdidjpndaaGreatDoor
