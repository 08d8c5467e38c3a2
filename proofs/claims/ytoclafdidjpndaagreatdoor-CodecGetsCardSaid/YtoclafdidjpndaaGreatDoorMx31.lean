/- Texts of one proof. -/
import Derived.Test.YtoclafdidjpndaaGreatDoorMx25
import Derived.Test.YtoclafdidjpndaaGreatDoorMx26
set_option maxRecDepth 100000
set_option maxHeartbeats 8000000
namespace Go.Proofs.YtoclafdidjpndaaGreatDoor
open Go.RowKit
theorem zQE (tl:List (List UInt8)) (t g:List UInt8) (u o m:Int) (hg:g≠[]) (A:Option Addr) (n c:Nat) (l:List Dp) (hm:MayP 3 ⟨1,t,u,o,m,g⟩ l) (hnu:Nums ⟨1,t,u,o,m,g⟩ l) (hfit:Fits ⟨1,t,u,o,m,g⟩ l) (tv:Value) (htl:tl.length≤100000) (w:World) (B0:Nat) (hB0:B0≤w.heap.size) (hT:Own w B0 tv tl) (hr:zAE w w.heap.size 3 A n (dps l)) :
  Calls Tryz.prog 17 #[.int .i64 3,tv,.agg #[.int .i64 1,.string (tx t),.int .u64 u,.slice A n c,.int .u64 o,.int .u64 m,.string (tx g)]] w fun e w' =>∃ v1 v2,e=.returned (.tuple #[v1,v2,.int .i64 0])∧Own w' w.heap.size v1 (payL 3 tl ⟨1,t,u,o,m,g⟩ l)∧Own w' B0 v2 (tabT 3 tl ⟨1,t,u,o,m,g⟩ l)∧Below w.heap.size w w':=by
 obtain ⟨i0,ii0,iz0,iz1,iz2⟩:=info_parts (show (Tryz.prog.info? 9).map (fun i =>(i.zero,i.size,i.bytes))=some (some (.string ⟨#[]⟩),1,16) from by kernel_rfl)
 obtain ⟨n1,n2,n3,n4⟩:=zBM hm
 have hln:l.length=n:=by have:=hr.1;rw [zAe] at this;omega
 have hn16:n≤16:=by omega
 have hTL:=zBb (tl:=tl) hm
 have hin:=zCG 3 tl ⟨1,t,u,o,m,g⟩ l
 obtain ⟨T,hTe⟩:∃ T,T=tabT 3 tl ⟨1,t,u,o,m,g⟩ l:=⟨_,rfl⟩
 rw [← hTe] at hin hTL
 have hT2:T.length≤200000:=by omega
 have hnm:(nmB 3 T t).length≤74:=zBy n1 (by omega)
 have hinT:(3:Int)<2∨t ∈ T:=hin.imp id fun h =>h _ (zAt (by simp))
 have hinD:∀ d ∈ l,(3:Int)<2∨d.name ∈ T:=fun d hd =>hin.imp id fun h =>h _ (zAt (by
  refine List.mem_append.2 (.inl (List.mem_cons.2 (.inr ?_)))
  exact List.mem_map.2 ⟨d,hd,rfl⟩))
 have hinG:g ∈ T:=(hin.resolve_left (by omega)) _ (zAt (by rw [if_neg hg];simp))
 obtain ⟨nm,hnme⟩:∃ nm,nm=nmB 3 T t:=⟨_,rfl⟩
 rw [← hnme] at hnm
 obtain ⟨bk,hbk⟩:∃ bk,bk=vb 1:=⟨_,rfl⟩
 have lbk:bk.length≤10:=by rw [hbk];exact zAZ _ (by unfold top;omega)
 have HK:=yh (fun W =>zAW 1 (by unfold top;omega) W)
 rw [← hbk] at HK
 have hFL:=fun k =>zCd (ver:=3) (tl:=T) (l:=l) (m:=k) n4 hnu.2.2.2 (by omega)
 obtain ⟨bu,hbu⟩:∃ bu,bu=vb u.toNat:=⟨_,rfl⟩
 have lbu:bu.length≤10:=by rw [hbu];exact zAZ _ (zAJ hnu.1).2
 have HU:=yh (fun W =>zAW u.toNat (zAJ hnu.1).2 W)
 rw [← hbu,← (zAJ hnu.1).1] at HU
 obtain ⟨bn,hbn⟩:∃ bn,bn=vb n:=⟨_,rfl⟩
 have lbn:bn.length≤10:=by rw [hbn];exact zAZ _ (by unfold top;omega)
 have HN:=yh (fun W =>zAW n (by unfold top;omega) W)
 rw [← hbn] at HN
 obtain ⟨bo,hbo⟩:∃ bo,bo=vb o.toNat:=⟨_,rfl⟩
 have lbo:bo.length≤10:=by rw [hbo];exact zAZ _ (zAJ hnu.2.1).2
 have HO:=yh (fun W =>zAW o.toNat (zAJ hnu.2.1).2 W)
 rw [← hbo,← (zAJ hnu.2.1).1] at HO
 obtain ⟨bm,hbm⟩:∃ bm,bm=vb m.toNat:=⟨_,rfl⟩
 have lbm:bm.length≤10:=by rw [hbm];exact zAZ _ (zAJ hnu.2.2.1).2
 have HM:=yh (fun W =>zAW m.toNat (zAJ hnu.2.2.1).2 W)
 rw [← hbm,← (zAJ hnu.2.2.1).1] at HM
 obtain ⟨bg,hbg⟩:∃ bg,bg=vb (tnum T g+1):=⟨_,rfl⟩
 have htg:=zDP hinG
 have lbg:bg.length≤10:=by rw [hbg];exact zAZ _ (by unfold top;omega)
 have HGG:=yh (fun W =>zAW (tnum T g+1) (by unfold top;omega) W)
 rw [← hbg] at HGG
 have hfin:Hid (payB 3 T ⟨1,t,u,o,m,g⟩ l=((((((bk++nm)++bu)++bn)++l.flatMap (fDep 3 T))++bo)++bm)++bg):=by
  show _=_
  rw [hbk,hnme,hbu,hbn,hbo,hbm,hbg]
  unfold payB zBk fTag
  rw [zCO (show 1<128 by omega),hln]
  simp [hg]
 have hpl:Hid (payL 3 tl ⟨1,t,u,o,m,g⟩ l=freT 3 tl ⟨1,t,u,o,m,g⟩ l++[payB 3 T ⟨1,t,u,o,m,g⟩ l]):=by show _=_;unfold payL;rw [← hTe]
 have hfre:Hid (freT 3 tl ⟨1,t,u,o,m,g⟩ l=zAS tl (zAg ⟨1,t,u,o,m,g⟩ l)):=by show _=_;unfold freT;rw [if_neg (by omega)]
 have htab:Hid (T=(zAg ⟨1,t,u,o,m,g⟩ l).foldl tput tl):=by show _=_;rw [hTe];unfold tabT;rw [if_neg (by omega)]
 rw [← hTe]
 have hmay:=yh (fun W hw =>zCn 3 ⟨1,t,u,o,m,g⟩ A n c l (by omega) hfit W hw)
 have HMAY:=yh hm
 have HR:=yh hr
 obtain ⟨L,cT,rfl,hLc⟩:=zAH hT
 have HT:=yh hT
 have HNM:=yh (fun W hw =>zCz ⟨1,t,u,o,m,g⟩ A n c l (by omega) W hw)
 have hnl:=zBn hm
 obtain ⟨X0,hX0⟩:∃ X0,X0=w.alloc (.cells #[.int .i64 1,.string (tx t),.int .u64 u,.slice A n c,.int .u64 o,.int .u64 m,.string (tx g)] 45):=⟨_,rfl⟩
 have hz0:Hid (X0.heap.size=w.heap.size+1):=by show _=_;rw [hX0];simp
 have hbx0:=zAG w (.cells #[.int .i64 1,.string (tx t),.int .u64 u,.slice A n c,.int .u64 o,.int .u64 m,.string (tx g)] 45)
 rw [← hX0] at hbx0
 have HBX:Hid (∀ W,Below (w.heap.size+1) X0 W→W.heap[w.heap.size]? = some (.cells #[.int .i64 1,.string (tx t),.int .u64 u,.slice A n c,.int .u64 o,.int .u64 m,.string (tx g)] 45 (0,0))):=fun W h =>(h.block _ (by omega)).trans hbx0
 have HW0:Hid (Below w.heap.size w X0):=by rw [hX0];exact (Below.refl w.heap.size w).alloc (Nat.le_refl _) _
 have HB3:Hid (Below (w.heap.size+1) X0 (X0.alloc (.cells #[] 9))):=(Below.refl _ _).alloc (by rw [hz0.out];exact Nat.le_refl _) _
 have HZ:Hid (∀ W,Below (w.heap.size+1) X0 W→w.heap.size+1≤W.heap.size):=fun W h =>by have h1:=h.size;rw [hz0.out] at h1;exact h1
 have HRW:Hid (∀ W,Below (w.heap.size+1) X0 W→zAE W W.heap.size 3 A n (dps l)):=fun W h =>(HR.out.below (HW0.out.trans (h.mono (by omega)))).more (by have h1:=h.size;rw [hz0.out] at h1;omega)
 have HO3:Hid (Own (X0.alloc (.cells #[] 9)) (w.heap.size+1) (.slice (some ⟨w.heap.size+1,0,none⟩) 0 0) []):=by
  have h1:=zBF X0 9
  rw [hz0.out] at h1
  exact h1
 have HT3:Hid (Own (X0.alloc (.cells #[] 9)) B0 (.slice L tl.length cT) tl):=HT.out.below (HW0.out.trans (HB3.out.mono (by omega)))
 rw [hX0] at HBX HW0 HB3 HZ HRW HO3 HT3
 unfold rcv rsv at hmay HNM
 clear hm hr hfit hTe hbx0 hz0 HR hX0 hbk hin hLc
 have hln2:Hid (l.length=n):=hln
 clear hln
 have HNME:=yh hnme
 clear hnme
 have HNU:=yh hnu
 have HN4:=yh n4
 have HIND:=yh hinD
 clear hnu n4 hinD
 have HFL:=yh hFL
 clear hFL hbu hbn hbo hbm hbg
 have HING:=yh hinG
 have HG0:=yh hg
 clear htg hinG hg
 have HTLT:Hid (∀ gg,(Value.slice L tl.length cT).ownBlock=some gg→gg<w.heap.size):=zAV HT.out
 clear hT
 have HINT:=yh hinT
 clear hinT
 have hbx:=HBX.out ((w.alloc (.cells #[.int .i64 1,.string (tx t),.int .u64 u,.slice A n c,.int .u64 o,.int .u64 m,.string (tx g)] 45)).alloc (.cells #[] 9)) HB3.out
 have p0:=zAA (i:=0) hbx rfl
 have p1:=zAA (i:=1) hbx rfl
 have p2:=zAA (i:=2) hbx rfl
 have p3:=zAA (i:=3) hbx rfl
 have p4:=zAA (i:=4) hbx rfl
 have p5:=zAA (i:=5) hbx rfl
 have p6:=zAA (i:=6) hbx rfl
 clear hbx
 go_enter Tryz.func17,Tryz.ntmps17
 go_wp2_with fail
 refine (hmay.out _ (HRW.out _ HB3.out)).mono ?_
 rintro e w4 ⟨he,hb⟩
 obtain rfl:=he.yes HMAY.out
 have HB4:=yh (HB3.out.trans (hb.mono (HZ.out _ HB3.out)))
 have HO4:=yh (HO3.out.below hb)
 have HT4:=yh (HT3.out.below hb)
 clear he hb hmay HMAY HO3 HT3
 clear p0 p1 p2 p3 p4 p5 p6
 have hbx:=HBX.out w4 HB4.out
 have p0:=zAA (i:=0) hbx rfl
 have p1:=zAA (i:=1) hbx rfl
 have p2:=zAA (i:=2) hbx rfl
 have p3:=zAA (i:=3) hbx rfl
 have p4:=zAA (i:=4) hbx rfl
 have p5:=zAA (i:=5) hbx rfl
 have p6:=zAA (i:=6) hbx rfl
 clear hbx
 go_wp2_with fail
 refine (HNM.out _ (HRW.out _ HB4.out)).mono ?_
 rintro e w5 ⟨vn,rfl,hvn,hb⟩
 obtain ⟨ns,hns⟩:∃ ns,ns=zAg ⟨1,t,u,o,m,g⟩ l:=⟨_,rfl⟩
 rw [← hns] at hvn htab hfre hnl
 obtain ⟨An,cn,rfl,hAn⟩:=zAH hvn
 have HB5:=yh (HB4.out.trans (hb.mono (HZ.out _ HB4.out)))
 obtain ⟨mm,hmm⟩:∃ mm,mm=ns.length:=⟨_,rfl⟩
 have HMM:=yh hmm
 have H5:Hid (zDR B0 (w.heap.size+1) (w.alloc (.cells #[.int .i64 1,.string (tx t),.int .u64 u,.slice A n c,.int .u64 o,.int .u64 m,.string (tx g)] 45)) tl ns (.slice An ns.length cn) (.slice L tl.length cT) (.slice (some ⟨w.heap.size+1,0,none⟩) 0 0) (.int .i64 0) w5):=by
  refine ⟨0,_,_,rfl,rfl,by omega,rfl,HT4.out.below hb,HO4.out.below hb,hvn.less (by omega),fun gg e1 e2 =>?_,fun gg e1 e2 =>?_,HB5.out⟩
  ·have h1:=HTLT.out _ e2
   obtain rfl:w.heap.size+1=gg:=by simpa [Value.ownBlock] using e1
   omega
  ·have h1:=zAI hvn _ e2
   obtain rfl:w.heap.size+1=gg:=by simpa [Value.ownBlock] using e1
   have h2:=zAV HO4.out _ e1
   omega
 have HNL:=yh hnl.1
 have hm18:mm≤18:=by rw [hmm];exact hnl.2
 rw [← hmm] at H5 ⊢
 clear hvn hb hns hnl hmm HNM HT4 HO4 HB4 HTLT
 clear p0 p1 p2 p3 p4 p5 p6
 go_wp2
 go_loopw [1,9,11] (fun v1 v9 v11 wr =>zDR B0 (w.heap.size+1) (w.alloc (.cells #[.int .i64 1,.string (tx t),.int .u64 u,.slice A n c,.int .u64 o,.int .u64 m,.string (tx g)] 45)) tl ns (.slice An mm cn) v1 v9 v11 wr) (fun _ _ v11 _ =>mm - (intOf v11).toNat)
 case atStart =>exact H5.out
 case round =>
  obtain ⟨i,a1,a9,rfl,rfl,hi,rfl,ht,ho,hon,hap1,hap2,hbr⟩:=hrel
  clear H5
  rw [← HMM.out] at hi
  obtain ⟨L1,c1,rfl,hL1⟩:=zAH ht
  obtain ⟨L9,c9,rfl,hL9⟩:=zAH ho
  have HTr:=yh ht
  have HOr:=yh ho
  have HONr:=yh hon
  have HAP1:=yh hap1
  have HAP2:=yh hap2
  have HBr:=yh hbr
  have hf1:=zBO (ns.take i) tl
  have hf2:=zBN (ns.take i) tl
  rw [List.length_take] at hf1 hf2
  clear hap1 hap2 hbr
  by_cases hlt:i<mm
  ·obtain ⟨s,hs⟩:∃ s,ns[i]? = some s:=⟨_,List.getElem?_eq_getElem (by rw [← HMM.out];exact hlt)⟩
   have hon2:wr.ownsRow 0 9 1 (.slice An mm cn) mm (ns.map tsv):=by have h:=hon;unfold Own at h;rwa [← HMM.out] at h
   obtain ⟨adn,rfl,_,hcx⟩:=(zAE.of_own hon2).2 (by omega)
   clear hon2
   have k0:=hcx i (tsv s) (by rw [List.getElem?_map,hs];rfl)
   have HNC:Hid (∀ W,Own W 0 (.slice (some adn) mm cn) ns→W.cell? (adn.add i)=some (.string (tx s))):=fun W h =>by
    have h2:W.ownsRow 0 9 1 (.slice (some adn) mm cn) mm (ns.map tsv):=by unfold Own at h;rwa [← HMM.out] at h
    obtain ⟨ad2,e2,_,hc2⟩:=(zAE.of_own h2).2 (by omega)
    obtain rfl:adn=ad2:=Option.some.inj e2
    exact hc2 i (tsv s) (by rw [List.getElem?_map,hs];rfl)
   have hsl:=HNL.out s (List.mem_of_getElem? hs)
   have hpl:=zBo L1 ((ns.take i).foldl tput tl).length c1 ((ns.take i).foldl tput tl) s (by omega) wr (zAE.of_own ht)
   unfold tsv at k0 hpl
   have hi0:(0:Int)≤(i:Int):=by omega
   have hi1:(i:Int)<(mm:Int):=by omega
   have HS:=yh hs
   by_cases hin:s ∈ (ns.take i).foldl tput tl
   ·have HNI:=yh (zGs hs hin ht ho)
    rw [zCB hin] at hpl
    have HPL:=yh hpl
    generalize tnum ((ns.take i).foldl tput tl) s=q at HPL
    have hq0:decide ((q:Int)<0)=false:=decide_eq_false (by omega)
    generalize hT0:((ns.take i).foldl tput tl).length=nT at *
    generalize hF0:(zAS tl (ns.take i)).length=nF at *
    clear hcx ht ho hon hin hpl hs hf1 hf2 hT0 hF0
    go_wp2_with fail
    refine HPL.out.mono ?_
    rintro e w6 ⟨rfl,rfl⟩
    go_wp2
    exact ⟨⟨i+1,_,_,rfl,rfl,by rw [← HMM.out];omega,by go_num,HNI.out.1,HNI.out.2,HONr.out,HAP1.out,HAP2.out,HBr.out⟩,by simp [intOf];omega⟩
   ·have HNE:=yh (zFS hs hin)
    rw [zDG hin] at hpl
    have HPL:=yh hpl
    have hadd:∀ W:World,(Op.stringOp .add { data:=#[0] } (tx s)).run Tryz.prog W=.ok (.string (tx (0 :: s))) W:=fun W =>zAd W [0] s (by simp;omega)
    have HPUT:=yh (fun W hb hl =>zCU B0 (.slice L1 ((ns.take i).foldl tput tl).length c1) ((ns.take i).foldl tput tl) s (by omega) W hb hl)
    unfold tsv at HPUT
    obtain ⟨nT,hnT⟩:∃ nT,nT=((ns.take i).foldl tput tl).length:=⟨_,rfl⟩
    obtain ⟨nF,hnF⟩:∃ nF,nF=(zAS tl (ns.take i)).length:=⟨_,rfl⟩
    have HNT:=yh hnT
    have HNF:=yh hnF
    have HTr2:Hid (Own wr B0 (.slice L1 nT c1) ((ns.take i).foldl tput tl)):=by rw [hnT];exact ht
    have HOr2:Hid (wr.ownsRow (w.heap.size+1) 9 1 (.slice L9 nF c9) nF ((zAS tl (ns.take i)).map tsv)):=by rw [hnF];exact ho
    have HONr2:Hid (Own wr 0 (.slice (some adn) mm cn) ns):=hon
    have HA1:Hid (zBA (.slice L9 nF c9) (.slice L1 nT c1)):=by rw [hnF,hnT];exact HAP1.out
    have HA2:Hid (zBA (.slice L9 nF c9) (.slice (some adn) mm cn)):=by rw [hnF];exact HAP2.out
    rw [← hnT] at HPL HPUT
    rw [← hnF] at hf1
    rw [← hnT,← hnF]
    have hnF2:nF≤100:=by omega
    clear hcx ht ho hon hin hpl hs hf1 hf2 hnT hnF HTr HOr HONr HAP1 HAP2
    go_wp2_with fail
    refine HPL.out.mono ?_
    rintro e w6 ⟨rfl,rfl⟩
    have HO2:=yh (World.ownsRow.alloc HOr2.out (.cells #[.string (tx (0 :: s))] 9))
    have HR2:=yh (zAi wr 9 (.string (tx (0 :: s))))
    have HB2:=yh (HBr.out.alloc (HZ.out _ HBr.out) (.cells #[.string (tx (0 :: s))] 9))
    go_wp2_with (at_builtin;refine zAX _ rfl (.tmp 48) (.tmp 54) 53 rfl (w.heap.size+1) 9 i0 _ 1 16 Tryz.underlying53 ii0 iz0 iz1 iz2 rfl (by decide) _ nF _ rfl HO2.out (some ⟨wr.heap.size,0,none⟩) 1 1 (wr.heap.size+1) [.string (tx (0 :: s))] rfl (by simp) HR2.out (fun u hu =>by obtain rfl:=List.mem_singleton.1 hu;rfl) (by unfold maxLen;omega) (by omega) (HZ.out _ HB2.out) ?_;intro v7 w7 ho7 hg7 hv7;have hv7b:v7.ownBlock=(Value.slice L9 nF c9).ownBlock∨v7.ownBlock=some (wr.alloc (.cells #[.string (tx (0 :: s))] 9)).heap.size:=hv7;have hg7b:(wr.alloc (.cells #[.string (tx (0 :: s))] 9)).grownBy w7 (Value.slice L9 nF c9).ownBlock:=hg7;have HO7:=yh ho7;have HB7:=yh (HB2.out.grown hg7b (HZ.out _ HB2.out) (zAI HO2.out));have HT7:=yh (zAp (World.ownsRow.alloc HTr2.out (.cells #[.string (tx (0 :: s))] 9)) HA1.out hg7b);have HN7:=yh (zAp (World.ownsRow.alloc HONr2.out (.cells #[.string (tx (0 :: s))] 9)) HA2.out hg7b);have HA71:=yh (zBj HA1.out (World.ownsRow.alloc HTr2.out (.cells #[.string (tx (0 :: s))] 9)) hv7b);have HA72:=yh (zBj HA2.out (World.ownsRow.alloc HONr2.out (.cells #[.string (tx (0 :: s))] 9)) hv7b);have k7:=HNC.out _ HN7.out;clear ho7 hg7 hv7 hv7b hg7b)
    refine (HPUT.out w7 (by have:=HZ.out _ HB7.out;omega) HT7.out).mono ?_
    rintro e w8 ⟨v8,rfl,ho8,hv8,hb8⟩
    obtain ⟨L8,c8,rfl,_⟩:=zAH ho8
    have HB8:=yh (HB7.out.trans (hb8.mono (HZ.out _ HB7.out)))
    have HA81:Hid (zBA v7 (.slice L8 (tput ((ns.take i).foldl tput tl) s).length c8)):=by
     rcases hv8 with h | h
     ·rw [h];exact HA71.out
     ·exact zDq HO7.out h
    have HO8:=yh ho8
    have HO78:=yh (zAF HO7.out hb8)
    have HN8:=yh (zAF HN7.out hb8)
    clear ho8 hv8 hb8
    go_wp2
    exact ⟨⟨i+1,_,_,rfl,rfl,by rw [← HMM.out];omega,by go_num,by rw [HNE.out.1];exact HO8.out,by rw [HNE.out.2];unfold Own;rw [List.length_append,List.map_append,← HNF.out];exact HO78.out,HN8.out,HA81.out,HA72.out,HB8.out⟩,by simp [intOf];omega⟩
  ·obtain rfl:i=mm:=by omega
   have htk:ns.take i=ns:=List.take_of_length_le (by rw [← HMM.out];omega)
   rw [htk] at ht ho HAP1 HTr HOr
   rw [htk]
   rw [← htab.out] at ht HAP1 HTr ⊢
   obtain ⟨nT,hnT⟩:∃ nT,nT=T.length:=⟨_,rfl⟩
   obtain ⟨nO,hnO⟩:∃ nO,nO=(zAS tl ns).length:=⟨_,rfl⟩
   have HNT:=yh hnT
   have HNO:=yh hnO
   have HTT:Hid (wr.ownsRow B0 9 1 (.slice L1 nT c1) nT (T.map tsv)):=by rw [hnT];exact ht
   have HOO:Hid (wr.ownsRow (w.heap.size+1) 9 1 (.slice L9 nO c9) nO ((zAS tl ns).map tsv)):=by rw [hnO];exact ho
   have HAP:Hid (zBA (.slice L9 nO c9) (.slice L1 nT c1)):=by rw [hnO,hnT];exact HAP1.out
   have hnT2:nT≤200000:=by rw [hnT];exact hT2
   have hnO2:nO≤100:=by rw [hnO];have:=zBO ns tl;rw [← HMM.out] at this;omega
   rw [← hnT,← hnO]
   obtain ⟨LT,rfl⟩:∃ LT,LT=L1:=⟨_,rfl⟩
   obtain ⟨LO,rfl⟩:∃ LO,LO=L9:=⟨_,rfl⟩
   obtain ⟨cX,rfl⟩:∃ cX,cX=c1:=⟨_,rfl⟩
   obtain ⟨cO,rfl⟩:∃ cO,cO=c9:=⟨_,rfl⟩
   clear ht ho hon HTr HOr HONr HAP1 HAP2 hf1 hf2 htk hnT hnO
   have hbx:=HBX.out wr HBr.out
   have p0:=zAA (i:=0) hbx rfl
   have p1:=zAA (i:=1) hbx rfl
   have p2:=zAA (i:=2) hbx rfl
   have p3:=zAA (i:=3) hbx rfl
   have p4:=zAA (i:=4) hbx rfl
   have p5:=zAA (i:=5) hbx rfl
   have p6:=zAA (i:=6) hbx rfl
   clear hbx
   obtain ⟨s1,hs1⟩:∃ s1,s1=bk++nm:=⟨_,rfl⟩
   have ls1:s1.length≤100:=by rw [hs1,List.length_append];omega
   have as1:=fun W:World =>zAd (P:=Tryz.prog) W bk nm (by omega)
   rw [← hs1] at as1
   have Hs1:=yh hs1
   clear hs1
   have HBC:=HBr
   go_wp2_with fail
   refine wp_region_held (S:=fun W =>Below wr.heap.size wr W) (by kernel_rfl) ?_
   have hS:Below wr.heap.size wr wr.drew:=(Below.refl _ _).drew
   refine zAB 0 (.pointer (some ⟨w.heap.size,0,none⟩)) rfl (by kernel_rfl) (by kernel_rfl) (by kernel_rfl) (fun _ _ _ h =>h) (by kernel_rfl) hS (fun _ _ =>by kernel_rfl) ?_
   refine zAB 1 (.int .i64 1) rfl (by kernel_rfl) (by kernel_rfl) (by kernel_rfl) (fun _ _ _ h =>h) (by kernel_rfl) hS (by intro v hv;have q:=(hv.cell (p:=⟨w.heap.size,0,none⟩) (by have:=HZ.out _ HBC.out;show w.heap.size<_;omega)).trans p0;go_simp) ?_
   refine zAB 2 (.int .u64 1) rfl (by kernel_rfl) (by kernel_rfl) (by kernel_rfl) (fun _ _ _ h =>h) (by kernel_rfl) hS (fun _ _ =>by kernel_rfl) ?_
   refine zAB 4 (.int .i64 3) rfl (by kernel_rfl) (by kernel_rfl) (by kernel_rfl) (fun _ _ _ h =>h) (by kernel_rfl) hS (fun _ _ =>by kernel_rfl) ?_
   refine zAB 5 (.slice LT nT cX) rfl (by kernel_rfl) (by kernel_rfl) (by kernel_rfl) (fun _ _ _ h =>h) (by kernel_rfl) hS (fun _ _ =>by kernel_rfl) ?_
   refine zAB 6 (.pointer (some ⟨w.heap.size,1,none⟩)) rfl (by kernel_rfl) (by kernel_rfl) (by kernel_rfl) (fun _ _ _ h =>h) (by kernel_rfl) hS (fun _ _ =>by kernel_rfl) ?_
   refine zAB 7 (.string (tx t)) rfl (by kernel_rfl) (by kernel_rfl) (by kernel_rfl) (fun _ _ _ h =>h) (by kernel_rfl) hS (by intro v hv;have q:=(hv.cell (p:=⟨w.heap.size,1,none⟩) (by have:=HZ.out _ HBC.out;show w.heap.size<_;omega)).trans p1;go_simp) ?_
   refine zAP 3 rfl (by kernel_rfl) (by kernel_rfl) (fun K hK =>?_)
   go_simp
   refine (HK.out _).mono ?_
   rintro e w10 ⟨rfl,hb⟩
   have hS2:Below wr.heap.size wr w10:=hS.trans (hb.mono hS.size)
   refine hK _ _ hS2 ?_
   clear hK K hb
   refine zAP 8 rfl (by kernel_rfl) (by kernel_rfl) (fun K hK =>?_)
   go_simp
   refine (zBi 3 (by omega) LT nT cX T t (by omega) HINT.out (by omega) w10 (((zAE.of_own HTT.out).below hS2).more hS2.size)).mono ?_
   rintro e w11 ⟨rfl,hb⟩
   rw [← HNME.out]
   have hS3:Below wr.heap.size wr w11:=hS2.trans (hb.mono hS2.size)
   refine hK _ _ hS3 ?_
   clear hK K hb
   refine zAB 9 (.string (tx s1)) rfl (by kernel_rfl) (by kernel_rfl) (by kernel_rfl) (fun _ _ _ h =>h) (by kernel_rfl) hS3 (by intro v hv;go_simp) ?_
   refine zAB 10 (.string (tx s1)) rfl (by kernel_rfl) (by kernel_rfl) (by kernel_rfl) (fun _ _ _ h =>h) (by kernel_rfl) hS3 (fun _ _ =>by kernel_rfl) ?_
   refine wpAnyH_done (by kernel_rfl) ?_ _
   go_simp
   clear hS hS2 HBC
   have HB21:=yh (HBr.out.trans (hS3.mono (HZ.out _ HBr.out)))
   have HTT21:=yh (zAF HTT.out hS3)
   have HOO21:=yh (zAF HOO.out hS3)
   clear hS3
   clear p0 p1 p2 p3 p4 p5 p6
   have hbx:=HBX.out w11 HB21.out
   have p0:=zAA (i:=0) hbx rfl
   have p1:=zAA (i:=1) hbx rfl
   have p2:=zAA (i:=2) hbx rfl
   have p3:=zAA (i:=3) hbx rfl
   have p4:=zAA (i:=4) hbx rfl
   have p5:=zAA (i:=5) hbx rfl
   have p6:=zAA (i:=6) hbx rfl
   clear hbx
   obtain ⟨s2,hs2⟩:∃ s2,s2=s1++bu:=⟨_,rfl⟩
   have ls2:s2.length≤200:=by rw [hs2,List.length_append];omega
   have as2:=fun W:World =>zAd (P:=Tryz.prog) W s1 bu (by omega)
   rw [← hs2] at as2
   have Hs2:=yh hs2
   clear hs2
   obtain ⟨s3,hs3⟩:∃ s3,s3=s2++bn:=⟨_,rfl⟩
   have ls3:s3.length≤300:=by rw [hs3,List.length_append];omega
   have as3:=fun W:World =>zAd (P:=Tryz.prog) W s2 bn (by omega)
   rw [← hs3] at as3
   have Hs3:=yh hs3
   clear hs3
   have HBC:=HB21
   go_wp2_with fail
   refine wp_region_held (S:=fun W =>Below w11.heap.size w11 W) (by kernel_rfl) ?_
   have hS:Below w11.heap.size w11 w11.drew:=(Below.refl _ _).drew
   refine zAB 0 (.string (tx s1)) rfl (by kernel_rfl) (by kernel_rfl) (by kernel_rfl) (fun _ _ _ h =>h) (by kernel_rfl) hS (fun _ _ =>by kernel_rfl) ?_
   refine zAB 1 (.pointer (some ⟨w.heap.size,2,none⟩)) rfl (by kernel_rfl) (by kernel_rfl) (by kernel_rfl) (fun _ _ _ h =>h) (by kernel_rfl) hS (fun _ _ =>by kernel_rfl) ?_
   refine zAB 2 (.int .u64 u) rfl (by kernel_rfl) (by kernel_rfl) (by kernel_rfl) (fun _ _ _ h =>h) (by kernel_rfl) hS (by intro v hv;have q:=(hv.cell (p:=⟨w.heap.size,2,none⟩) (by have:=HZ.out _ HBC.out;show w.heap.size<_;omega)).trans p2;go_simp) ?_
   refine zAB 5 (.pointer (some ⟨w.heap.size,3,none⟩)) rfl (by kernel_rfl) (by kernel_rfl) (by kernel_rfl) (fun _ _ _ h =>h) (by kernel_rfl) hS (fun _ _ =>by kernel_rfl) ?_
   refine zAB 6 (.slice A n c) rfl (by kernel_rfl) (by kernel_rfl) (by kernel_rfl) (fun _ _ _ h =>h) (by kernel_rfl) hS (by intro v hv;have q:=(hv.cell (p:=⟨w.heap.size,3,none⟩) (by have:=HZ.out _ HBC.out;show w.heap.size<_;omega)).trans p3;go_simp) ?_
   refine zAB 7 (.int .i64 (n:Int)) rfl (by kernel_rfl) (by kernel_rfl) (by kernel_rfl) (fun _ _ _ h =>h) (by kernel_rfl) hS (by intro v hv;go_simp) ?_
   refine zAB 8 (.int .u64 (n:Int)) rfl (by kernel_rfl) (by kernel_rfl) (by kernel_rfl) (fun _ _ _ h =>h) (by kernel_rfl) hS (by intro v hv;go_simp;rw [IntKind.wrap_u64];omega) ?_
   refine zAP 3 rfl (by kernel_rfl) (by kernel_rfl) (fun K hK =>?_)
   go_simp
   refine (HU.out _).mono ?_
   rintro e w12 ⟨rfl,hb⟩
   have hS2:Below w11.heap.size w11 w12:=hS.trans (hb.mono hS.size)
   refine hK _ _ hS2 ?_
   clear hK K hb
   refine zAB 4 (.string (tx s2)) rfl (by kernel_rfl) (by kernel_rfl) (by kernel_rfl) (fun _ _ _ h =>h) (by kernel_rfl) hS2 (by intro v hv;go_simp) ?_
   refine zAP 9 rfl (by kernel_rfl) (by kernel_rfl) (fun K hK =>?_)
   go_simp
   refine (HN.out _).mono ?_
   rintro e w13 ⟨rfl,hb⟩
   have hS3:Below w11.heap.size w11 w13:=hS2.trans (hb.mono hS2.size)
   refine hK _ _ hS3 ?_
   clear hK K hb
   refine zAB 10 (.string (tx s3)) rfl (by kernel_rfl) (by kernel_rfl) (by kernel_rfl) (fun _ _ _ h =>h) (by kernel_rfl) hS3 (by intro v hv;go_simp) ?_
   refine zAB 11 (.string (tx s3)) rfl (by kernel_rfl) (by kernel_rfl) (by kernel_rfl) (fun _ _ _ h =>h) (by kernel_rfl) hS3 (fun _ _ =>by kernel_rfl) ?_
   refine wpAnyH_done (by kernel_rfl) ?_ _
   go_simp
   clear hS hS2 HBC as1 as2 as3
   have HB22:=yh (HB21.out.trans (hS3.mono (HZ.out _ HB21.out)))
   have HTT22:=yh (zAF HTT21.out hS3)
   have HOO22:=yh (zAF HOO21.out hS3)
   clear hS3
   clear p0 p1 p2 p3 p4 p5 p6
   have hbx:=HBX.out w13 HB22.out
   have p0:=zAA (i:=0) hbx rfl
   have p1:=zAA (i:=1) hbx rfl
   have p2:=zAA (i:=2) hbx rfl
   have p3:=zAA (i:=3) hbx rfl
   have p4:=zAA (i:=4) hbx rfl
   have p5:=zAA (i:=5) hbx rfl
   have p6:=zAA (i:=6) hbx rfl
   clear hbx
   clear p0 p1 p2 p3 p4 p5 p6
   have H6:Hid (zEC 3 T s3 l w13 (.string (tx s3)) (.int .i64 0) w13):=⟨0,by omega,rfl,by simp,Below.refl _ _⟩
   have HLN:=hln2
   go_wp2
   go_loopw [12,13] (fun v12 v13 wr =>zEC 3 T s3 l w13 v12 v13 wr) (fun _ v13 _ =>n - (intOf v13).toNat)
   case atStart =>exact H6.out
   case round =>
    obtain ⟨j,hj,rfl,rfl,hbr⟩:=hrel
    clear H6
    rw [HLN.out] at hj
    have HBQ:=yh (HB22.out.trans (hbr.mono (HZ.out _ HB22.out)))
    have HTQ:=yh (zAF HTT22.out hbr)
    have HOQ:=yh (zAF HOO22.out hbr)
    have HBRQ:=yh hbr
    clear hbr
    have hfl:=HFL.out j
    have hbx:=HBX.out _ HBQ.out
    have p0:=zAA (i:=0) hbx rfl
    have p1:=zAA (i:=1) hbx rfl
    have p2:=zAA (i:=2) hbx rfl
    have p3:=zAA (i:=3) hbx rfl
    have p4:=zAA (i:=4) hbx rfl
    have p5:=zAA (i:=5) hbx rfl
    have p6:=zAA (i:=6) hbx rfl
    clear hbx
    by_cases hlt:j<n
    ·obtain ⟨x,hx⟩:∃ x,l[j]? = some x:=⟨_,List.getElem?_eq_getElem (by rw [HLN.out];exact hlt)⟩
     have hmx:=List.mem_of_getElem? hx
     obtain ⟨ad,rfl,_,hcx⟩:=(HRW.out _ HBQ.out).2 (by omega)
     obtain ⟨x0,x1,x2⟩:=zBI l j x hx
     have k0:=hcx _ _ x0
     have k1:=hcx _ _ x1
     have k2:=hcx _ _ x2
     rw [zBg] at k1
     rw [zBf] at k2
     have hxn:=HN4.out x hmx
     have hxd:=HIND.out x hmx
     have hxh:=HNU.out.2.2.2 x hmx
     have hsn:=zFj (ver:=3) (T:=T) (s:=s3) hx
     obtain ⟨xn,xh,xo⟩:=x
     simp only at k0 k1 k2 hxn hxd hxh
     unfold rsv at k0
     obtain ⟨cs,hcs⟩:∃ cs,cs=s3++(l.take j).flatMap (fDep 3 T):=⟨_,rfl⟩
     have lcs:cs.length≤2000:=by rw [hcs,List.length_append];omega
     rw [← hcs] at hsn ⊢
     obtain ⟨bh,hbh⟩:∃ bh,bh=vb xh.toNat:=⟨_,rfl⟩
     have lbh:bh.length≤10:=by rw [hbh];exact zAZ _ (zAJ hxh).2
     have HH:=yh (fun W =>zAW xh.toNat (zAJ hxh).2 W)
     rw [← hbh,← (zAJ hxh).1] at HH
     have HBXD:=yh (zAG wr (.cells #[.string (tx xn),.int .u64 xh,.bool xo] 73))
     have HBD:=yh (HBQ.out.alloc (HZ.out _ HBQ.out) (.cells #[.string (tx xn),.int .u64 xh,.bool xo] 73))
     have HBRD:=yh (HBRQ.out.alloc HBRQ.out.size (.cells #[.string (tx xn),.int .u64 xh,.bool xo] 73))
     have HTD:=yh (World.ownsRow.alloc HTQ.out (.cells #[.string (tx xn),.int .u64 xh,.bool xo] 73))
     have d0:=zAA (i:=0) HBXD.out rfl
     have d1:=zAA (i:=1) HBXD.out rfl
     have d2:=zAA (i:=2) HBXD.out rfl
     have hi0:(0:Int)≤(j:Int):=by omega
     have hi1:(j:Int)<(n:Int):=by omega
     clear hx hmx hcx x0 x1 x2 hfl hcs
     have hxin:=hxd.resolve_left (by omega)
     have htn:=zDP hxin
     obtain ⟨kk,hkk⟩:∃ kk,kk=2 * tnum T xn+if xo then 1 else 0:=⟨_,rfl⟩
     have hkk2:kk≤2 * tnum T xn+1:=by rw [hkk];split <;> omega
     obtain ⟨dn,hdn⟩:∃ dn,dn=vb kk:=⟨_,rfl⟩
     have hnb:dn.length≤10:=by rw [hdn];exact zAZ _ (by unfold top;omega)
     have H1:=yh (fun W =>zAW kk (by unfold top;omega) W)
     rw [← hdn] at H1
     have hse:s3++(l.take (j+1)).flatMap (fDep 3 T)=(cs++dn)++bh:=by rw [hsn,hdn,hbh,hkk];unfold fDep depB;rw [if_neg (by omega)];simp
     obtain ⟨c1,hc1⟩:∃ c1,c1=cs++dn:=⟨_,rfl⟩
     obtain ⟨c2,hc2⟩:∃ c2,c2=c1++bh:=⟨_,rfl⟩
     have lc1:c1.length≤3000:=by rw [hc1,List.length_append];omega
     have ac1:=fun W:World =>zAd (P:=Tryz.prog) W cs dn (by omega)
     have ac2:=fun W:World =>zAd (P:=Tryz.prog) W c1 bh (by omega)
     rw [← hc1] at ac1 hse
     rw [← hc2] at ac2 hse
     have HSE:=yh hse
     have hpx:=zBo LT nT cX T xn (by omega) _ (zAE.of_own HTD.out)
     rw [zCB hxin] at hpx
     unfold tsv at hpx
     have HPX:=yh hpx
     obtain ⟨tn,htne⟩:∃ tn,tn=tnum T xn:=⟨_,rfl⟩
     rw [← htne] at HPX htn hkk hkk2
     have htn2:tn≤200000:=by omega
     clear hse hsn hdn hc1 hc2 hbh hxd hxh hxin hpx htne
     cases xo with
     | true =>
      obtain rfl:kk=2 * tn+1:=by rw [hkk];rfl
      have hkc:(((2 * tn+1:Nat)):Int)=2 * (tn:Int)+1:=by omega
      rw [hkc] at H1
      clear hkk hkc hkk2
      go_wp2_with fail
      refine HPX.out.mono ?_
      rintro e w14 ⟨rfl,rfl⟩
      go_wp2_with fail
      refine (H1.out _).mono ?_
      rintro e w15 ⟨rfl,hb⟩
      have hd14:=(hb.block wr.heap.size (by simp)).trans HBXD.out
      have e1:=zAA (i:=1) hd14 rfl
      have HB14:=yh (HBRD.out.trans (hb.mono HBRD.out.size))
      clear hd14 hb d0 d1 d2
      go_wp2_with fail
      refine (HH.out _).mono ?_
      rintro e w16 ⟨rfl,hb⟩
      have HB15:=yh (HB14.out.trans (hb.mono HB14.out.size))
      clear hb
      go_wp2
      exact ⟨⟨j+1,by rw [HLN.out];omega,by go_num,by rw [HSE.out],HB15.out⟩,by simp [intOf];omega⟩
     | false =>
      obtain rfl:kk=2 * tn:=by rw [hkk];rfl
      have hkc:(((2 * tn:Nat)):Int)=2 * (tn:Int):=by omega
      rw [hkc] at H1
      clear hkk hkc hkk2
      go_wp2_with fail
      refine HPX.out.mono ?_
      rintro e w14 ⟨rfl,rfl⟩
      go_wp2_with fail
      refine (H1.out _).mono ?_
      rintro e w15 ⟨rfl,hb⟩
      have hd14:=(hb.block wr.heap.size (by simp)).trans HBXD.out
      have e1:=zAA (i:=1) hd14 rfl
      have HB14:=yh (HBRD.out.trans (hb.mono HBRD.out.size))
      clear hd14 hb d0 d1 d2
      go_wp2_with fail
      refine (HH.out _).mono ?_
      rintro e w16 ⟨rfl,hb⟩
      have HB15:=yh (HB14.out.trans (hb.mono HB14.out.size))
      clear hb
      go_wp2
      exact ⟨⟨j+1,by rw [HLN.out];omega,by go_num,by rw [HSE.out],HB15.out⟩,by simp [intOf];omega⟩
    ·obtain rfl:j=n:=by omega
     rw [List.take_of_length_le (by rw [HLN.out];exact Nat.le_refl _)]
     have hfl2:=HFL.out l.length
     rw [List.take_length] at hfl2
     rw [HLN.out] at hfl2
     obtain ⟨fl,hfle⟩:∃ fl,fl=l.flatMap (fDep 3 T):=⟨_,rfl⟩
     rw [← hfle] at hfl2
     obtain ⟨s4,hs4⟩:∃ s4,s4=s3++fl:=⟨_,rfl⟩
     have ls4:s4.length≤2000:=by rw [hs4,List.length_append];omega
     rw [← hfle,← hs4]
     have Hs4:=yh hs4
     have HFLE:=yh hfle
     clear hfl hs4 hfle hfl2
     obtain ⟨s5,hs5⟩:∃ s5,s5=s4++bo:=⟨_,rfl⟩
     have ls5:s5.length≤3500:=by rw [hs5,List.length_append];omega
     have as5:=fun W:World =>zAd (P:=Tryz.prog) W s4 bo (by omega)
     rw [← hs5] at as5
     have Hs5:=yh hs5
     clear hs5
     go_wp2_with fail
     refine (HO.out _).mono ?_
     rintro e wq ⟨rfl,hb⟩
     obtain ⟨ws5,rfl⟩:∃ ws5,ws5=wq:=⟨_,rfl⟩
     have HB61:=yh (HBQ.out.trans (hb.mono (HZ.out _ HBQ.out)))
     have HTT61:=yh (zAF HTQ.out hb)
     have HOO61:=yh (zAF HOQ.out hb)
     clear hb
     clear p0 p1 p2 p3 p4 p5 p6
     have hbx:=HBX.out ws5 HB61.out
     have p0:=zAA (i:=0) hbx rfl
     have p1:=zAA (i:=1) hbx rfl
     have p2:=zAA (i:=2) hbx rfl
     have p3:=zAA (i:=3) hbx rfl
     have p4:=zAA (i:=4) hbx rfl
     have p5:=zAA (i:=5) hbx rfl
     have p6:=zAA (i:=6) hbx rfl
     clear hbx
     obtain ⟨s6,hs6⟩:∃ s6,s6=s5++bm:=⟨_,rfl⟩
     have ls6:s6.length≤3600:=by rw [hs6,List.length_append];omega
     have as6:=fun W:World =>zAd (P:=Tryz.prog) W s5 bm (by omega)
     rw [← hs6] at as6
     have Hs6:=yh hs6
     clear hs6
     go_wp2_with fail
     refine (HM.out _).mono ?_
     rintro e wq ⟨rfl,hb⟩
     obtain ⟨ws6,rfl⟩:∃ ws6,ws6=wq:=⟨_,rfl⟩
     have HB62:=yh (HB61.out.trans (hb.mono (HZ.out _ HB61.out)))
     have HTT62:=yh (zAF HTT61.out hb)
     have HOO62:=yh (zAF HOO61.out hb)
     clear hb
     clear p0 p1 p2 p3 p4 p5 p6
     have hbx:=HBX.out ws6 HB62.out
     have p0:=zAA (i:=0) hbx rfl
     have p1:=zAA (i:=1) hbx rfl
     have p2:=zAA (i:=2) hbx rfl
     have p3:=zAA (i:=3) hbx rfl
     have p4:=zAA (i:=4) hbx rfl
     have p5:=zAA (i:=5) hbx rfl
     have p6:=zAA (i:=6) hbx rfl
     clear hbx
     have t1:(tx g).toList.isEmpty=false:=by rw [zBG];cases g with
      | nil =>exact absurd rfl HG0.out
      | cons a b =>rfl
     have t2:(!(tx g).toList.isEmpty)=true:=by rw [t1];rfl
     have hpl2:=zBo LT nT cX T g (by omega) ws6 (zAE.of_own HTT62.out)
     rw [zCB HING.out] at hpl2
     unfold tsv at hpl2
     have HP2:=yh hpl2
     obtain ⟨tn,htn⟩:∃ tn,tn=tnum T g:=⟨_,rfl⟩
     have htn2:tn≤1000000:=by have:=zDP HING.out;omega
     rw [← htn] at HP2 HGG
     clear hpl2 htn
     obtain ⟨s7,hs7⟩:∃ s7,s7=s6++bg:=⟨_,rfl⟩
     have ls7:s7.length≤4000:=by rw [hs7,List.length_append];omega
     have as7:=fun W:World =>zAd (P:=Tryz.prog) W s6 bg (by omega)
     rw [← hs7] at as7
     have Hs7:=yh hs7
     clear hs7
     go_wp2_with fail
     refine HP2.out.mono ?_
     rintro e wp ⟨rfl,rfl⟩
     go_wp2_with fail
     refine (HGG.out _).mono ?_
     rintro e wq ⟨rfl,hb⟩
     have HB63:=yh (HB62.out.trans (hb.mono (HZ.out _ HB62.out)))
     have HTT63:=yh (zAF HTT62.out hb)
     have HOO63:=yh (zAF HOO62.out hb)
     clear hb
     clear p0 p1 p2 p3 p4 p5 p6
     have hbx:=HBX.out wq HB63.out
     have p0:=zAA (i:=0) hbx rfl
     have p1:=zAA (i:=1) hbx rfl
     have p2:=zAA (i:=2) hbx rfl
     have p3:=zAA (i:=3) hbx rfl
     have p4:=zAA (i:=4) hbx rfl
     have p5:=zAA (i:=5) hbx rfl
     have p6:=zAA (i:=6) hbx rfl
     clear hbx
     obtain ⟨nO1,hO1⟩:∃ nO1,nO1=nO+1:=⟨_,rfl⟩
     clear hO1
     have HO2:=yh (World.ownsRow.alloc HOO63.out (.cells #[.string (tx s7)] 9))
     have HT2:=yh (World.ownsRow.alloc HTT63.out (.cells #[.string (tx s7)] 9))
     have HR2:=yh (zAi wq 9 (.string (tx s7)))
     have HB2:=yh (HB63.out.alloc (HZ.out _ HB63.out) (.cells #[.string (tx s7)] 9))
     go_wp2_with (at_builtin;refine zAX _ rfl (.tmp 164) (.tmp 166) 53 rfl (w.heap.size+1) 9 i0 _ 1 16 Tryz.underlying53 ii0 iz0 iz1 iz2 rfl (by decide) _ nO _ rfl HO2.out (some ⟨wq.heap.size,0,none⟩) 1 1 (wq.heap.size+1) [.string (tx s7)] rfl (by simp) HR2.out (fun u hu =>by obtain rfl:=List.mem_singleton.1 hu;rfl) (by unfold maxLen;omega) (by omega) (HZ.out _ HB2.out) ?_;intro v7 w7 ho7 hg7 hv7;have hg7b:(wq.alloc (.cells #[.string (tx s7)] 9)).grownBy w7 (Value.slice LO nO cO).ownBlock:=hg7;have HO7:=yh ho7;have HB7:=yh (HB2.out.grown hg7b (HZ.out _ HB2.out) (zAI HO2.out));have HT7:=yh (zAp HT2.out HAP.out hg7b);clear ho7 hg7 hv7 hg7b)
     go_ret3
     refine ⟨_,_,rfl,?_,?_,HW0.out.trans (HB7.out.mono (by omega))⟩
     ·rw [hpl.out,hfre.out,hfin.out,← Hs1.out,← Hs2.out,← Hs3.out,← HFLE.out,← Hs4.out,← Hs5.out,← Hs6.out,← Hs7.out]
      unfold Own
      rw [List.length_append,List.map_append,← HNO.out]
      exact zAY HO7.out (by omega)
     ·unfold Own
      rw [← HNT.out]
      exact HT7.out
end Go.Proofs.YtoclafdidjpndaaGreatDoor
