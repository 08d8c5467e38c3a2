/- Texts of one proof. -/
import Derived.Test.YtgoklhoaedceaaaGreatDoorMx11
set_option maxRecDepth 100000
set_option maxHeartbeats 8000000
namespace Go.Proofs.YtgoklhoaedceaaaGreatDoor
open Go.RowKit
theorem zFH (t:List UInt8) (u o:Int) (m:Int) (A:Option Addr) (n c:Nat) (l:List Dp) (hn:n≤1000) (hfit:Fits ⟨1,t,u,o,m,[]⟩ l) (hq:zAf t=true) (h16:n≤16) (w:World) (h:zAE w w.heap.size 3 A n (dps l)) :
  Calls Tryz.prog 63 #[.int .i64 3,rcv ⟨1,t,u,o,m,[]⟩ A n c] w fun e w' =>zAX (MayP 3 ⟨1,t,u,o,m,[]⟩ l) e∧Below w.heap.size w w':=by
 have HL:Hid (l.length=n):=by have:=h.1;rw [zAd] at this;show _=_;omega
 have H1:=yh h
 have H0:=yh (zAI w (.cells (zAO ⟨1,t,u,o,m,[]⟩ A n c) 37))
 have HB0:=yh ((Below.refl w.heap.size w).alloc (Nat.le_refl _) (.cells (zAO ⟨1,t,u,o,m,[]⟩ A n c) 37))
 have HS0:Hid (w.heap.size<(w.alloc (.cells (zAO ⟨1,t,u,o,m,[]⟩ A n c) 37)).heap.size):=by show w.heap.size<_;simp
 have hst:=zAk t
 have hsg:=zAk []
 obtain ⟨hft,hfg,hfd⟩:=hfit
 have HFD:=yh hfd
 have HNAME:=yh (zBU t)
 have q0:=zAA (i:=0) H0.out rfl
 have q1:=zAA (i:=1) H0.out rfl
 have q2:=zAA (i:=2) H0.out rfl
 have q3:=zAA (i:=3) H0.out rfl
 have q4:=zAA (i:=4) H0.out rfl
 have q5:=zAA (i:=5) H0.out rfl
 have q6:=zAA (i:=6) H0.out rfl
 unfold maxLen at hft hfg
 simp only at hft hfg
 clear h hfd
 unfold zAO at *
 unfold rcv rsv at *
 rw [hq] at HNAME
 have d16:decide ((n:Int) > 16)=false:=decide_eq_false (by omega)
 have he:(tx ([]:List UInt8)).toList=[]:=by simp [tx]
 have HIFF:Hid (MayP 3 ⟨1,t,u,o,m,[]⟩ l ↔ zCG 3 ⟨1,t,u,o,m,[]⟩ l):=⟨fun h =>by rcases h.2.2.2 with h | h;exact h.2.2.2;exact absurd h.1 (by simp),fun h =>⟨by omega,by omega,hq,.inl ⟨rfl,.inr (by omega),.inl rfl,h⟩⟩⟩
 have H16:Hid (n≤16):=h16
 go_enter Tryz.func63,Tryz.ntmps63
 go_wp2_with (go_at_call 87;refine (HNAME.out _).mono ?_;rintro e w2 ⟨rfl,rfl⟩)
 go_loopw [5] (fun idx wr =>zFx 3 w (.cells #[.int .i64 1,.string (tx t),.int .u64 u,.slice A n c,.int .u64 o,.int .u64 m,.string (tx [])] 37) t l idx wr) (fun idx wr =>n - (intOf idx).toNat)
 case atStart =>exact ⟨0,by omega,rfl,by simp,by simp,HB0.out,H0.out,HS0.out⟩
 case round =>
  obtain ⟨i,hi,rfl,hok,hnd,hb,hbx,hz⟩:=hrel
  obtain ⟨wo,hwo⟩:∃ x,x=wr:=⟨wr,rfl⟩
  subst hwo
  have HOK:=yh hok
  have HND:=yh hnd
  have HBR:=yh hb
  have HBX:=yh hbx
  have HZ:=yh hz
  rw [HL.out] at hi
  have b1:=zAA (i:=1) hbx rfl
  have b3:=zAA (i:=3) hbx rfl
  by_cases hlt:i<n
  ·obtain ⟨y,hy⟩:∃ y,l[i]? = some y:=⟨_,List.getElem?_eq_getElem (by rw [HL.out];exact hlt)⟩
   obtain ⟨ad,rfl,_,hcx⟩:=(H1.out.below hb).2 (by omega)
   obtain ⟨x0,x1,x2⟩:=zAt l i y hy
   have k0:=hcx _ _ x0
   have k1:=hcx _ _ x1
   have k2:=hcx _ _ x2
   rw [zBO] at k1
   rw [zBP] at k2
   have hnb:=zAI wo (.cells #[.string (tx y.name),.int .u64 y.hash,.bool y.order] 73)
   have p0:=zAA (i:=0) hnb rfl
   have p2:=zAA (i:=2) hnb rfl
   have hbn:=yh (hb.alloc (by omega) (.cells #[.string (tx y.name),.int .u64 y.hash,.bool y.order] 73))
   have hbxn:=yh ((Below.heap_alloc wo (.cells #[.string (tx y.name),.int .u64 y.hash,.bool y.order] 73) w.heap.size hz).trans hbx)
   have hzn:Hid (w.heap.size<(wo.alloc (.cells #[.string (tx y.name),.int .u64 y.hash,.bool y.order] 73)).heap.size):=by show w.heap.size<_;simp;omega
   have HNB:=yh hnb
   have HNBZ:Hid (wo.heap.size<(wo.alloc (.cells #[.string (tx y.name),.int .u64 y.hash,.bool y.order] 73)).heap.size):=by show _<_;simp
   have c1:=(World.cell?_alloc_lt wo (.cells #[.string (tx y.name),.int .u64 y.hash,.bool y.order] 73) ⟨w.heap.size,1,none⟩ hz).trans b1
   have hname:=yh (zBU y.name)
   have hi0:(0:Int)≤(i:Int):=by omega
   have hi1:(i:Int)<(n:Int):=by omega
   have HNM:Hid ((zAN l)[i]? = some y.name):=by show _=_;unfold zAN;rw [List.getElem?_map,hy];rfl
   have HIN:Hid (DepP 3 y→∀ d ∈ l.take (i+1),DepP 3 d):=fun hp d hd =>by
    rw [List.take_add_one,hy,List.mem_append] at hd
    rcases hd with hd | hd
    ·exact HOK.out d hd
    ·simp at hd;subst hd;exact hp
   have HOUT:Hid (¬ DepP 3 y→¬ MayP 3 ⟨1,t,u,o,m,[]⟩ l):=fun hp hd =>hp ((HIFF.out.1 hd).2.1 y (List.mem_of_getElem? hy))
   have HDUP:Hid (y.name=t∨y.name ∈ (zAN l).take i→¬ MayP 3 ⟨1,t,u,o,m,[]⟩ l):=fun hp hd =>by
    have h1:=zCW (HIFF.out.1 hd).2.2 (i+1)
    rw [List.take_add_one,HNM.out] at h1
    have h2:=zBH.1 h1
    rcases hp with hp | hp
    ·exact h2.2.1 hp
    ·exact h2.2.2 hp
   obtain ⟨xn,xh,xo⟩:=y
   unfold rsv at k0 hname
   simp only at k0 k1 k2 p0 p2 hbn hbxn hzn HNB HNBZ c1 hname HNM HDUP
   clear hcx x0 x1 x2 hok hnd hb hbx hnb hy
   cases hqn:zAf xn
   ·have HNO:=yh (HOUT.out (fun hp =>by have:=hp.1;simp only at this;rw [hqn] at this;cases this))
    rw [hqn] at hname
    go_wp2_with (go_at_call 87;refine (hname.out _).mono ?_;rintro e w2 ⟨rfl,rfl⟩)
    go_ret
    exact ⟨zAF HNO.out,hbn.out⟩
   rw [hqn] at hname
   by_cases het:xn=t
   ·subst het
    have HNO:=yh (HDUP.out (.inl rfl))
    have hlk:=zAj xn
    go_wp2_with (go_at_call 87;refine (hname.out _).mono ?_;rintro e w2 ⟨rfl,rfl⟩)
    go_ret
    exact ⟨zAF HNO.out,hbn.out⟩
   have hun:=zAh het
   have HET:=yh het
   clear het
   have HGO:=yh (HIN.out ⟨hqn,fun h =>by omega⟩)
   cases xo
   ·go_wp2_with (go_at_call 87;refine (hname.out _).mono ?_;rintro e w2 ⟨rfl,rfl⟩)
    go_loopw [7] (fun idx wr =>zEC w (.cells #[.int .i64 1,.string (tx t),.int .u64 u,.slice (some ad) n c,.int .u64 o,.int .u64 m,.string (tx [])] 37) (.cells #[.string (tx xn),.int .u64 xh,.bool false] 73) wo.heap.size i xn l idx wr) (fun idx wr =>i - (intOf idx).toNat)
    case atStart =>exact ⟨0,by omega,rfl,by simp,hbn.out,hbxn.out,hzn.out,HNB.out,HNBZ.out⟩
    case round =>
     obtain ⟨j,hj,rfl,hnm,hb2,hbx2,hz2,hnb2,hnz2⟩:=hrel
     have HNM2:=yh hnm
     have HB2:=yh hb2
     have HBX2:=yh hbx2
     have HNB2:=yh hnb2
     have HZ2:=yh hz2
     have HNZ2:=yh hnz2
     have e3:=zAA (i:=3) hbx2 rfl
     have e0:=zAA (i:=0) hnb2 rfl
     by_cases hjlt:j<i
     ·obtain ⟨z,hzz⟩:∃ z,l[j]? = some z:=⟨_,List.getElem?_eq_getElem (by rw [HL.out];omega)⟩
      obtain ⟨ad',had,_,hcz⟩:=(H1.out.below hb2).2 (by omega)
      obtain rfl:ad=ad':=by injection had
      have m0:=hcz _ _ (zAt l j z hzz).1
      have HNZ:Hid ((zAN l)[j]? = some z.name):=by show _=_;unfold zAN;rw [List.getElem?_map,hzz];rfl
      obtain ⟨zn,zh,zo⟩:=z
      unfold rsv at m0
      simp only at m0 HNZ
      have hj0:(0:Int)≤(j:Int):=by omega
      have hj1:(j:Int)<(n:Int):=by omega
      clear hcz hzz hnm hb2 hbx2 hnb2 had
      by_cases hzx:zn=xn
      ·subst hzx
       have hlk:=zAj zn
       have HNO:=yh (HDUP.out (.inr (List.mem_of_getElem? (show ((zAN l).take i)[j]? = some zn by rw [List.getElem?_take,if_pos hjlt];exact HNZ.out))))
       go_wp2_with fail
       refine wp_region_held (S:=fun v1 =>v1.heap=wr.heap) (by kernel_rfl) ?_
       have hS:wr.drew.heap=wr.heap:=rfl
       refine zAB 0 (.pointer (some ⟨w.heap.size,3,none⟩)) rfl (by kernel_rfl) (by kernel_rfl) (by kernel_rfl) (fun _ _ _ h =>h) (by kernel_rfl) hS (fun _ _ =>by kernel_rfl) ?_
       refine zAB 1 (.slice (some ad) n c) rfl (by kernel_rfl) (by kernel_rfl) (by kernel_rfl) (fun _ _ _ h =>h) (by kernel_rfl) hS (by intro v1 hv;have q:=(zAM hv _).trans e3;go_simp) ?_
       refine zAB 2 (.int .i64 (j:Int)) rfl (by kernel_rfl) (by kernel_rfl) (by kernel_rfl) (fun _ _ _ h =>h) (by kernel_rfl) hS (fun _ _ =>by kernel_rfl) ?_
       refine zAB 3 (.pointer (some (ad.add (j * 3)))) rfl (by kernel_rfl) (by kernel_rfl) (by kernel_rfl) (fun _ _ _ h =>h) (by kernel_rfl) hS (by intro v1 hv;go_simp) ?_
       refine zAB 4 (.pointer (some (ad.add (j * 3)))) rfl (by kernel_rfl) (by kernel_rfl) (by kernel_rfl) (fun _ _ _ h =>h) (by kernel_rfl) hS (by intro v1 hv;go_simp) ?_
       refine zAB 5 (.string (tx zn)) rfl (by kernel_rfl) (by kernel_rfl) (by kernel_rfl) (fun _ _ _ h =>h) (by kernel_rfl) hS (by intro v1 hv;have q:=(zAM hv _).trans m0;go_simp) ?_
       refine zAB 6 (.pointer (some ⟨wo.heap.size,0,none⟩)) rfl (by kernel_rfl) (by kernel_rfl) (by kernel_rfl) (fun _ _ _ h =>h) (by kernel_rfl) hS (fun _ _ =>by kernel_rfl) ?_
       refine zAB 7 (.string (tx zn)) rfl (by kernel_rfl) (by kernel_rfl) (by kernel_rfl) (fun _ _ _ h =>h) (by kernel_rfl) hS (by intro v1 hv;have q:=(zAM hv _).trans e0;go_simp) ?_
       refine zAB 8 (.bool true) rfl (by kernel_rfl) (by kernel_rfl) (by kernel_rfl) (fun _ _ _ h =>h) (by kernel_rfl) hS (by intro v1 hv;go_simp) ?_
       refine wpAnyH_done (by kernel_rfl) ?_ _
       go_simp
       go_wp2
       go_ret
       exact ⟨zAF HNO.out,HB2.out.drew⟩
      ·have hul:=zAh hzx
       have HN2:Hid (xn ∉ (zAN l).take (j+1)):=fun h =>by
        rw [List.take_add_one,HNZ.out,List.mem_append] at h
        rcases h with h | h
        ·exact HNM2.out h
        ·simp at h;exact hzx h.symm
       clear hzx
       go_wp2_with fail
       refine wp_region_held (S:=fun v1 =>v1.heap=wr.heap) (by kernel_rfl) ?_
       have hS:wr.drew.heap=wr.heap:=rfl
       refine zAB 0 (.pointer (some ⟨w.heap.size,3,none⟩)) rfl (by kernel_rfl) (by kernel_rfl) (by kernel_rfl) (fun _ _ _ h =>h) (by kernel_rfl) hS (fun _ _ =>by kernel_rfl) ?_
       refine zAB 1 (.slice (some ad) n c) rfl (by kernel_rfl) (by kernel_rfl) (by kernel_rfl) (fun _ _ _ h =>h) (by kernel_rfl) hS (by intro v1 hv;have q:=(zAM hv _).trans e3;go_simp) ?_
       refine zAB 2 (.int .i64 (j:Int)) rfl (by kernel_rfl) (by kernel_rfl) (by kernel_rfl) (fun _ _ _ h =>h) (by kernel_rfl) hS (fun _ _ =>by kernel_rfl) ?_
       refine zAB 3 (.pointer (some (ad.add (j * 3)))) rfl (by kernel_rfl) (by kernel_rfl) (by kernel_rfl) (fun _ _ _ h =>h) (by kernel_rfl) hS (by intro v1 hv;go_simp) ?_
       refine zAB 4 (.pointer (some (ad.add (j * 3)))) rfl (by kernel_rfl) (by kernel_rfl) (by kernel_rfl) (fun _ _ _ h =>h) (by kernel_rfl) hS (by intro v1 hv;go_simp) ?_
       refine zAB 5 (.string (tx zn)) rfl (by kernel_rfl) (by kernel_rfl) (by kernel_rfl) (fun _ _ _ h =>h) (by kernel_rfl) hS (by intro v1 hv;have q:=(zAM hv _).trans m0;go_simp) ?_
       refine zAB 6 (.pointer (some ⟨wo.heap.size,0,none⟩)) rfl (by kernel_rfl) (by kernel_rfl) (by kernel_rfl) (fun _ _ _ h =>h) (by kernel_rfl) hS (fun _ _ =>by kernel_rfl) ?_
       refine zAB 7 (.string (tx xn)) rfl (by kernel_rfl) (by kernel_rfl) (by kernel_rfl) (fun _ _ _ h =>h) (by kernel_rfl) hS (by intro v1 hv;have q:=(zAM hv _).trans e0;go_simp) ?_
       refine zAB 8 (.bool false) rfl (by kernel_rfl) (by kernel_rfl) (by kernel_rfl) (fun _ _ _ h =>h) (by kernel_rfl) hS (by intro v1 hv;go_simp) ?_
       refine wpAnyH_done (by kernel_rfl) ?_ _
       go_simp
       go_wp2
       exact ⟨⟨j+1,by omega,by go_num,HN2.out,HB2.out.drew,HBX2.out,HZ2.out,HNB2.out,HNZ2.out⟩,by simp [intOf];omega⟩
     ·obtain rfl:j=i:=by omega
      have HND2:Hid ((t :: (zAN l).take (j+1)).Nodup):=by
       show List.Nodup _
       rw [List.take_add_one,HNM.out]
       exact zBH.2 ⟨HND.out,HET.out,HNM2.out⟩
      clear hnm hb2 hbx2 hnb2
      go_wp2
      exact ⟨⟨j+1,by rw [HL.out];omega,by go_num,HGO.out,HND2.out,HB2.out,HBX2.out,HZ2.out⟩,by simp [intOf];omega⟩
   ·go_wp2_with (go_at_call 87;refine (hname.out _).mono ?_;rintro e w2 ⟨rfl,rfl⟩)
    go_loopw [7] (fun idx wr =>zEC w (.cells #[.int .i64 1,.string (tx t),.int .u64 u,.slice (some ad) n c,.int .u64 o,.int .u64 m,.string (tx [])] 37) (.cells #[.string (tx xn),.int .u64 xh,.bool true] 73) wo.heap.size i xn l idx wr) (fun idx wr =>i - (intOf idx).toNat)
    case atStart =>exact ⟨0,by omega,rfl,by simp,hbn.out,hbxn.out,hzn.out,HNB.out,HNBZ.out⟩
    case round =>
     obtain ⟨j,hj,rfl,hnm,hb2,hbx2,hz2,hnb2,hnz2⟩:=hrel
     have HNM2:=yh hnm
     have HB2:=yh hb2
     have HBX2:=yh hbx2
     have HNB2:=yh hnb2
     have HZ2:=yh hz2
     have HNZ2:=yh hnz2
     have e3:=zAA (i:=3) hbx2 rfl
     have e0:=zAA (i:=0) hnb2 rfl
     by_cases hjlt:j<i
     ·obtain ⟨z,hzz⟩:∃ z,l[j]? = some z:=⟨_,List.getElem?_eq_getElem (by rw [HL.out];omega)⟩
      obtain ⟨ad',had,_,hcz⟩:=(H1.out.below hb2).2 (by omega)
      obtain rfl:ad=ad':=by injection had
      have m0:=hcz _ _ (zAt l j z hzz).1
      have HNZ:Hid ((zAN l)[j]? = some z.name):=by show _=_;unfold zAN;rw [List.getElem?_map,hzz];rfl
      obtain ⟨zn,zh,zo⟩:=z
      unfold rsv at m0
      simp only at m0 HNZ
      have hj0:(0:Int)≤(j:Int):=by omega
      have hj1:(j:Int)<(n:Int):=by omega
      clear hcz hzz hnm hb2 hbx2 hnb2 had
      by_cases hzx:zn=xn
      ·subst hzx
       have hlk:=zAj zn
       have HNO:=yh (HDUP.out (.inr (List.mem_of_getElem? (show ((zAN l).take i)[j]? = some zn by rw [List.getElem?_take,if_pos hjlt];exact HNZ.out))))
       go_wp2_with fail
       refine wp_region_held (S:=fun v1 =>v1.heap=wr.heap) (by kernel_rfl) ?_
       have hS:wr.drew.heap=wr.heap:=rfl
       refine zAB 0 (.pointer (some ⟨w.heap.size,3,none⟩)) rfl (by kernel_rfl) (by kernel_rfl) (by kernel_rfl) (fun _ _ _ h =>h) (by kernel_rfl) hS (fun _ _ =>by kernel_rfl) ?_
       refine zAB 1 (.slice (some ad) n c) rfl (by kernel_rfl) (by kernel_rfl) (by kernel_rfl) (fun _ _ _ h =>h) (by kernel_rfl) hS (by intro v1 hv;have q:=(zAM hv _).trans e3;go_simp) ?_
       refine zAB 2 (.int .i64 (j:Int)) rfl (by kernel_rfl) (by kernel_rfl) (by kernel_rfl) (fun _ _ _ h =>h) (by kernel_rfl) hS (fun _ _ =>by kernel_rfl) ?_
       refine zAB 3 (.pointer (some (ad.add (j * 3)))) rfl (by kernel_rfl) (by kernel_rfl) (by kernel_rfl) (fun _ _ _ h =>h) (by kernel_rfl) hS (by intro v1 hv;go_simp) ?_
       refine zAB 4 (.pointer (some (ad.add (j * 3)))) rfl (by kernel_rfl) (by kernel_rfl) (by kernel_rfl) (fun _ _ _ h =>h) (by kernel_rfl) hS (by intro v1 hv;go_simp) ?_
       refine zAB 5 (.string (tx zn)) rfl (by kernel_rfl) (by kernel_rfl) (by kernel_rfl) (fun _ _ _ h =>h) (by kernel_rfl) hS (by intro v1 hv;have q:=(zAM hv _).trans m0;go_simp) ?_
       refine zAB 6 (.pointer (some ⟨wo.heap.size,0,none⟩)) rfl (by kernel_rfl) (by kernel_rfl) (by kernel_rfl) (fun _ _ _ h =>h) (by kernel_rfl) hS (fun _ _ =>by kernel_rfl) ?_
       refine zAB 7 (.string (tx zn)) rfl (by kernel_rfl) (by kernel_rfl) (by kernel_rfl) (fun _ _ _ h =>h) (by kernel_rfl) hS (by intro v1 hv;have q:=(zAM hv _).trans e0;go_simp) ?_
       refine zAB 8 (.bool true) rfl (by kernel_rfl) (by kernel_rfl) (by kernel_rfl) (fun _ _ _ h =>h) (by kernel_rfl) hS (by intro v1 hv;go_simp) ?_
       refine wpAnyH_done (by kernel_rfl) ?_ _
       go_simp
       go_wp2
       go_ret
       exact ⟨zAF HNO.out,HB2.out.drew⟩
      ·have hul:=zAh hzx
       have HN2:Hid (xn ∉ (zAN l).take (j+1)):=fun h =>by
        rw [List.take_add_one,HNZ.out,List.mem_append] at h
        rcases h with h | h
        ·exact HNM2.out h
        ·simp at h;exact hzx h.symm
       clear hzx
       go_wp2_with fail
       refine wp_region_held (S:=fun v1 =>v1.heap=wr.heap) (by kernel_rfl) ?_
       have hS:wr.drew.heap=wr.heap:=rfl
       refine zAB 0 (.pointer (some ⟨w.heap.size,3,none⟩)) rfl (by kernel_rfl) (by kernel_rfl) (by kernel_rfl) (fun _ _ _ h =>h) (by kernel_rfl) hS (fun _ _ =>by kernel_rfl) ?_
       refine zAB 1 (.slice (some ad) n c) rfl (by kernel_rfl) (by kernel_rfl) (by kernel_rfl) (fun _ _ _ h =>h) (by kernel_rfl) hS (by intro v1 hv;have q:=(zAM hv _).trans e3;go_simp) ?_
       refine zAB 2 (.int .i64 (j:Int)) rfl (by kernel_rfl) (by kernel_rfl) (by kernel_rfl) (fun _ _ _ h =>h) (by kernel_rfl) hS (fun _ _ =>by kernel_rfl) ?_
       refine zAB 3 (.pointer (some (ad.add (j * 3)))) rfl (by kernel_rfl) (by kernel_rfl) (by kernel_rfl) (fun _ _ _ h =>h) (by kernel_rfl) hS (by intro v1 hv;go_simp) ?_
       refine zAB 4 (.pointer (some (ad.add (j * 3)))) rfl (by kernel_rfl) (by kernel_rfl) (by kernel_rfl) (fun _ _ _ h =>h) (by kernel_rfl) hS (by intro v1 hv;go_simp) ?_
       refine zAB 5 (.string (tx zn)) rfl (by kernel_rfl) (by kernel_rfl) (by kernel_rfl) (fun _ _ _ h =>h) (by kernel_rfl) hS (by intro v1 hv;have q:=(zAM hv _).trans m0;go_simp) ?_
       refine zAB 6 (.pointer (some ⟨wo.heap.size,0,none⟩)) rfl (by kernel_rfl) (by kernel_rfl) (by kernel_rfl) (fun _ _ _ h =>h) (by kernel_rfl) hS (fun _ _ =>by kernel_rfl) ?_
       refine zAB 7 (.string (tx xn)) rfl (by kernel_rfl) (by kernel_rfl) (by kernel_rfl) (fun _ _ _ h =>h) (by kernel_rfl) hS (by intro v1 hv;have q:=(zAM hv _).trans e0;go_simp) ?_
       refine zAB 8 (.bool false) rfl (by kernel_rfl) (by kernel_rfl) (by kernel_rfl) (fun _ _ _ h =>h) (by kernel_rfl) hS (by intro v1 hv;go_simp) ?_
       refine wpAnyH_done (by kernel_rfl) ?_ _
       go_simp
       go_wp2
       exact ⟨⟨j+1,by omega,by go_num,HN2.out,HB2.out.drew,HBX2.out,HZ2.out,HNB2.out,HNZ2.out⟩,by simp [intOf];omega⟩
     ·obtain rfl:j=i:=by omega
      have HND2:Hid ((t :: (zAN l).take (j+1)).Nodup):=by
       show List.Nodup _
       rw [List.take_add_one,HNM.out]
       exact zBH.2 ⟨HND.out,HET.out,HNM2.out⟩
      clear hnm hb2 hbx2 hnb2
      go_wp2
      exact ⟨⟨j+1,by rw [HL.out];omega,by go_num,HGO.out,HND2.out,HB2.out,HBX2.out,HZ2.out⟩,by simp [intOf];omega⟩
  ·obtain rfl:i=n:=by omega
   rw [List.take_of_length_le (by rw [HL.out];omega)] at HOK
   rw [List.take_of_length_le (by unfold zAN;rw [List.length_map,HL.out];omega)] at HND
   have HP:Hid (MayP 3 ⟨1,t,u,o,m,[]⟩ l):=HIFF.out.2 ⟨by rw [HL.out];exact H16.out,HOK.out,HND.out⟩
   clear hok hnd hb hbx
   go_wp2
   go_ret
   exact ⟨zAq HP.out,HBR.out⟩
theorem zKt (t:List UInt8) (u o:Int) (m:Int) (g:List UInt8) (A:Option Addr) (n c:Nat) (l:List Dp) (hn:n≤1000) (hfit:Fits ⟨1,t,u,o,m,g⟩ l) (hq:zAf t=true) (h16:n≤16) (hg:g≠[]) (h64:g.length≤64) (w:World) (h:zAE w w.heap.size 3 A n (dps l)) :
  Calls Tryz.prog 63 #[.int .i64 3,rcv ⟨1,t,u,o,m,g⟩ A n c] w fun e w' =>zAX (MayP 3 ⟨1,t,u,o,m,g⟩ l) e∧Below w.heap.size w w':=by
 have HL:Hid (l.length=n):=by have:=h.1;rw [zAd] at this;show _=_;omega
 have H1:=yh h
 have H0:=yh (zAI w (.cells (zAO ⟨1,t,u,o,m,g⟩ A n c) 37))
 have HB0:=yh ((Below.refl w.heap.size w).alloc (Nat.le_refl _) (.cells (zAO ⟨1,t,u,o,m,g⟩ A n c) 37))
 have HS0:Hid (w.heap.size<(w.alloc (.cells (zAO ⟨1,t,u,o,m,g⟩ A n c) 37)).heap.size):=by show w.heap.size<_;simp
 have hst:=zAk t
 have hsg:=zAk g
 obtain ⟨hft,hfg,hfd⟩:=hfit
 have HFD:=yh hfd
 have HNAME:=yh (zBU t)
 have q0:=zAA (i:=0) H0.out rfl
 have q1:=zAA (i:=1) H0.out rfl
 have q2:=zAA (i:=2) H0.out rfl
 have q3:=zAA (i:=3) H0.out rfl
 have q4:=zAA (i:=4) H0.out rfl
 have q5:=zAA (i:=5) H0.out rfl
 have q6:=zAA (i:=6) H0.out rfl
 unfold maxLen at hft hfg
 simp only at hft hfg
 clear h hfd
 unfold zAO at *
 unfold rcv rsv at *
 rw [hq] at HNAME
 have d16:decide ((n:Int) > 16)=false:=decide_eq_false (by omega)
 obtain ⟨x,hx⟩:∃ x,x=g.length:=⟨_,rfl⟩
 rw [← hx] at hsg hfg h64
 have d64:decide ((x:Int) > 64)=false:=decide_eq_false (by omega)
 have he:=zCM g hg
 have HG64:Hid (g.length≤64):=by show _≤_;omega
 clear hg hx
 have HIFF:Hid (MayP 3 ⟨1,t,u,o,m,g⟩ l ↔ zCG 3 ⟨1,t,u,o,m,g⟩ l):=⟨fun h =>by rcases h.2.2.2 with h | h;exact h.2.2.2;exact absurd h.1 (by simp),fun h =>⟨by omega,by omega,hq,.inl ⟨rfl,.inr (by omega),.inr ⟨by omega,HG64.out⟩,h⟩⟩⟩
 have H16:Hid (n≤16):=h16
 go_enter Tryz.func63,Tryz.ntmps63
 go_wp2_with (go_at_call 87;refine (HNAME.out _).mono ?_;rintro e w2 ⟨rfl,rfl⟩)
 go_loopw [5] (fun idx wr =>zFx 3 w (.cells #[.int .i64 1,.string (tx t),.int .u64 u,.slice A n c,.int .u64 o,.int .u64 m,.string (tx g)] 37) t l idx wr) (fun idx wr =>n - (intOf idx).toNat)
 case atStart =>exact ⟨0,by omega,rfl,by simp,by simp,HB0.out,H0.out,HS0.out⟩
 case round =>
  obtain ⟨i,hi,rfl,hok,hnd,hb,hbx,hz⟩:=hrel
  obtain ⟨wo,hwo⟩:∃ x,x=wr:=⟨wr,rfl⟩
  subst hwo
  have HOK:=yh hok
  have HND:=yh hnd
  have HBR:=yh hb
  have HBX:=yh hbx
  have HZ:=yh hz
  rw [HL.out] at hi
  have b1:=zAA (i:=1) hbx rfl
  have b3:=zAA (i:=3) hbx rfl
  by_cases hlt:i<n
  ·obtain ⟨y,hy⟩:∃ y,l[i]? = some y:=⟨_,List.getElem?_eq_getElem (by rw [HL.out];exact hlt)⟩
   obtain ⟨ad,rfl,_,hcx⟩:=(H1.out.below hb).2 (by omega)
   obtain ⟨x0,x1,x2⟩:=zAt l i y hy
   have k0:=hcx _ _ x0
   have k1:=hcx _ _ x1
   have k2:=hcx _ _ x2
   rw [zBO] at k1
   rw [zBP] at k2
   have hnb:=zAI wo (.cells #[.string (tx y.name),.int .u64 y.hash,.bool y.order] 73)
   have p0:=zAA (i:=0) hnb rfl
   have p2:=zAA (i:=2) hnb rfl
   have hbn:=yh (hb.alloc (by omega) (.cells #[.string (tx y.name),.int .u64 y.hash,.bool y.order] 73))
   have hbxn:=yh ((Below.heap_alloc wo (.cells #[.string (tx y.name),.int .u64 y.hash,.bool y.order] 73) w.heap.size hz).trans hbx)
   have hzn:Hid (w.heap.size<(wo.alloc (.cells #[.string (tx y.name),.int .u64 y.hash,.bool y.order] 73)).heap.size):=by show w.heap.size<_;simp;omega
   have HNB:=yh hnb
   have HNBZ:Hid (wo.heap.size<(wo.alloc (.cells #[.string (tx y.name),.int .u64 y.hash,.bool y.order] 73)).heap.size):=by show _<_;simp
   have c1:=(World.cell?_alloc_lt wo (.cells #[.string (tx y.name),.int .u64 y.hash,.bool y.order] 73) ⟨w.heap.size,1,none⟩ hz).trans b1
   have hname:=yh (zBU y.name)
   have hi0:(0:Int)≤(i:Int):=by omega
   have hi1:(i:Int)<(n:Int):=by omega
   have HNM:Hid ((zAN l)[i]? = some y.name):=by show _=_;unfold zAN;rw [List.getElem?_map,hy];rfl
   have HIN:Hid (DepP 3 y→∀ d ∈ l.take (i+1),DepP 3 d):=fun hp d hd =>by
    rw [List.take_add_one,hy,List.mem_append] at hd
    rcases hd with hd | hd
    ·exact HOK.out d hd
    ·simp at hd;subst hd;exact hp
   have HOUT:Hid (¬ DepP 3 y→¬ MayP 3 ⟨1,t,u,o,m,g⟩ l):=fun hp hd =>hp ((HIFF.out.1 hd).2.1 y (List.mem_of_getElem? hy))
   have HDUP:Hid (y.name=t∨y.name ∈ (zAN l).take i→¬ MayP 3 ⟨1,t,u,o,m,g⟩ l):=fun hp hd =>by
    have h1:=zCW (HIFF.out.1 hd).2.2 (i+1)
    rw [List.take_add_one,HNM.out] at h1
    have h2:=zBH.1 h1
    rcases hp with hp | hp
    ·exact h2.2.1 hp
    ·exact h2.2.2 hp
   obtain ⟨xn,xh,xo⟩:=y
   unfold rsv at k0 hname
   simp only at k0 k1 k2 p0 p2 hbn hbxn hzn HNB HNBZ c1 hname HNM HDUP
   clear hcx x0 x1 x2 hok hnd hb hbx hnb hy
   cases hqn:zAf xn
   ·have HNO:=yh (HOUT.out (fun hp =>by have:=hp.1;simp only at this;rw [hqn] at this;cases this))
    rw [hqn] at hname
    go_wp2_with (go_at_call 87;refine (hname.out _).mono ?_;rintro e w2 ⟨rfl,rfl⟩)
    go_ret
    exact ⟨zAF HNO.out,hbn.out⟩
   rw [hqn] at hname
   by_cases het:xn=t
   ·subst het
    have HNO:=yh (HDUP.out (.inl rfl))
    have hlk:=zAj xn
    go_wp2_with (go_at_call 87;refine (hname.out _).mono ?_;rintro e w2 ⟨rfl,rfl⟩)
    go_ret
    exact ⟨zAF HNO.out,hbn.out⟩
   have hun:=zAh het
   have HET:=yh het
   clear het
   have HGO:=yh (HIN.out ⟨hqn,fun h =>by omega⟩)
   cases xo
   ·go_wp2_with (go_at_call 87;refine (hname.out _).mono ?_;rintro e w2 ⟨rfl,rfl⟩)
    go_loopw [7] (fun idx wr =>zEC w (.cells #[.int .i64 1,.string (tx t),.int .u64 u,.slice (some ad) n c,.int .u64 o,.int .u64 m,.string (tx g)] 37) (.cells #[.string (tx xn),.int .u64 xh,.bool false] 73) wo.heap.size i xn l idx wr) (fun idx wr =>i - (intOf idx).toNat)
    case atStart =>exact ⟨0,by omega,rfl,by simp,hbn.out,hbxn.out,hzn.out,HNB.out,HNBZ.out⟩
    case round =>
     obtain ⟨j,hj,rfl,hnm,hb2,hbx2,hz2,hnb2,hnz2⟩:=hrel
     have HNM2:=yh hnm
     have HB2:=yh hb2
     have HBX2:=yh hbx2
     have HNB2:=yh hnb2
     have HZ2:=yh hz2
     have HNZ2:=yh hnz2
     have e3:=zAA (i:=3) hbx2 rfl
     have e0:=zAA (i:=0) hnb2 rfl
     by_cases hjlt:j<i
     ·obtain ⟨z,hzz⟩:∃ z,l[j]? = some z:=⟨_,List.getElem?_eq_getElem (by rw [HL.out];omega)⟩
      obtain ⟨ad',had,_,hcz⟩:=(H1.out.below hb2).2 (by omega)
      obtain rfl:ad=ad':=by injection had
      have m0:=hcz _ _ (zAt l j z hzz).1
      have HNZ:Hid ((zAN l)[j]? = some z.name):=by show _=_;unfold zAN;rw [List.getElem?_map,hzz];rfl
      obtain ⟨zn,zh,zo⟩:=z
      unfold rsv at m0
      simp only at m0 HNZ
      have hj0:(0:Int)≤(j:Int):=by omega
      have hj1:(j:Int)<(n:Int):=by omega
      clear hcz hzz hnm hb2 hbx2 hnb2 had
      by_cases hzx:zn=xn
      ·subst hzx
       have hlk:=zAj zn
       have HNO:=yh (HDUP.out (.inr (List.mem_of_getElem? (show ((zAN l).take i)[j]? = some zn by rw [List.getElem?_take,if_pos hjlt];exact HNZ.out))))
       go_wp2_with fail
       refine wp_region_held (S:=fun v1 =>v1.heap=wr.heap) (by kernel_rfl) ?_
       have hS:wr.drew.heap=wr.heap:=rfl
       refine zAB 0 (.pointer (some ⟨w.heap.size,3,none⟩)) rfl (by kernel_rfl) (by kernel_rfl) (by kernel_rfl) (fun _ _ _ h =>h) (by kernel_rfl) hS (fun _ _ =>by kernel_rfl) ?_
       refine zAB 1 (.slice (some ad) n c) rfl (by kernel_rfl) (by kernel_rfl) (by kernel_rfl) (fun _ _ _ h =>h) (by kernel_rfl) hS (by intro v1 hv;have q:=(zAM hv _).trans e3;go_simp) ?_
       refine zAB 2 (.int .i64 (j:Int)) rfl (by kernel_rfl) (by kernel_rfl) (by kernel_rfl) (fun _ _ _ h =>h) (by kernel_rfl) hS (fun _ _ =>by kernel_rfl) ?_
       refine zAB 3 (.pointer (some (ad.add (j * 3)))) rfl (by kernel_rfl) (by kernel_rfl) (by kernel_rfl) (fun _ _ _ h =>h) (by kernel_rfl) hS (by intro v1 hv;go_simp) ?_
       refine zAB 4 (.pointer (some (ad.add (j * 3)))) rfl (by kernel_rfl) (by kernel_rfl) (by kernel_rfl) (fun _ _ _ h =>h) (by kernel_rfl) hS (by intro v1 hv;go_simp) ?_
       refine zAB 5 (.string (tx zn)) rfl (by kernel_rfl) (by kernel_rfl) (by kernel_rfl) (fun _ _ _ h =>h) (by kernel_rfl) hS (by intro v1 hv;have q:=(zAM hv _).trans m0;go_simp) ?_
       refine zAB 6 (.pointer (some ⟨wo.heap.size,0,none⟩)) rfl (by kernel_rfl) (by kernel_rfl) (by kernel_rfl) (fun _ _ _ h =>h) (by kernel_rfl) hS (fun _ _ =>by kernel_rfl) ?_
       refine zAB 7 (.string (tx zn)) rfl (by kernel_rfl) (by kernel_rfl) (by kernel_rfl) (fun _ _ _ h =>h) (by kernel_rfl) hS (by intro v1 hv;have q:=(zAM hv _).trans e0;go_simp) ?_
       refine zAB 8 (.bool true) rfl (by kernel_rfl) (by kernel_rfl) (by kernel_rfl) (fun _ _ _ h =>h) (by kernel_rfl) hS (by intro v1 hv;go_simp) ?_
       refine wpAnyH_done (by kernel_rfl) ?_ _
       go_simp
       go_wp2
       go_ret
       exact ⟨zAF HNO.out,HB2.out.drew⟩
      ·have hul:=zAh hzx
       have HN2:Hid (xn ∉ (zAN l).take (j+1)):=fun h =>by
        rw [List.take_add_one,HNZ.out,List.mem_append] at h
        rcases h with h | h
        ·exact HNM2.out h
        ·simp at h;exact hzx h.symm
       clear hzx
       go_wp2_with fail
       refine wp_region_held (S:=fun v1 =>v1.heap=wr.heap) (by kernel_rfl) ?_
       have hS:wr.drew.heap=wr.heap:=rfl
       refine zAB 0 (.pointer (some ⟨w.heap.size,3,none⟩)) rfl (by kernel_rfl) (by kernel_rfl) (by kernel_rfl) (fun _ _ _ h =>h) (by kernel_rfl) hS (fun _ _ =>by kernel_rfl) ?_
       refine zAB 1 (.slice (some ad) n c) rfl (by kernel_rfl) (by kernel_rfl) (by kernel_rfl) (fun _ _ _ h =>h) (by kernel_rfl) hS (by intro v1 hv;have q:=(zAM hv _).trans e3;go_simp) ?_
       refine zAB 2 (.int .i64 (j:Int)) rfl (by kernel_rfl) (by kernel_rfl) (by kernel_rfl) (fun _ _ _ h =>h) (by kernel_rfl) hS (fun _ _ =>by kernel_rfl) ?_
       refine zAB 3 (.pointer (some (ad.add (j * 3)))) rfl (by kernel_rfl) (by kernel_rfl) (by kernel_rfl) (fun _ _ _ h =>h) (by kernel_rfl) hS (by intro v1 hv;go_simp) ?_
       refine zAB 4 (.pointer (some (ad.add (j * 3)))) rfl (by kernel_rfl) (by kernel_rfl) (by kernel_rfl) (fun _ _ _ h =>h) (by kernel_rfl) hS (by intro v1 hv;go_simp) ?_
       refine zAB 5 (.string (tx zn)) rfl (by kernel_rfl) (by kernel_rfl) (by kernel_rfl) (fun _ _ _ h =>h) (by kernel_rfl) hS (by intro v1 hv;have q:=(zAM hv _).trans m0;go_simp) ?_
       refine zAB 6 (.pointer (some ⟨wo.heap.size,0,none⟩)) rfl (by kernel_rfl) (by kernel_rfl) (by kernel_rfl) (fun _ _ _ h =>h) (by kernel_rfl) hS (fun _ _ =>by kernel_rfl) ?_
       refine zAB 7 (.string (tx xn)) rfl (by kernel_rfl) (by kernel_rfl) (by kernel_rfl) (fun _ _ _ h =>h) (by kernel_rfl) hS (by intro v1 hv;have q:=(zAM hv _).trans e0;go_simp) ?_
       refine zAB 8 (.bool false) rfl (by kernel_rfl) (by kernel_rfl) (by kernel_rfl) (fun _ _ _ h =>h) (by kernel_rfl) hS (by intro v1 hv;go_simp) ?_
       refine wpAnyH_done (by kernel_rfl) ?_ _
       go_simp
       go_wp2
       exact ⟨⟨j+1,by omega,by go_num,HN2.out,HB2.out.drew,HBX2.out,HZ2.out,HNB2.out,HNZ2.out⟩,by simp [intOf];omega⟩
     ·obtain rfl:j=i:=by omega
      have HND2:Hid ((t :: (zAN l).take (j+1)).Nodup):=by
       show List.Nodup _
       rw [List.take_add_one,HNM.out]
       exact zBH.2 ⟨HND.out,HET.out,HNM2.out⟩
      clear hnm hb2 hbx2 hnb2
      go_wp2
      exact ⟨⟨j+1,by rw [HL.out];omega,by go_num,HGO.out,HND2.out,HB2.out,HBX2.out,HZ2.out⟩,by simp [intOf];omega⟩
   ·go_wp2_with (go_at_call 87;refine (hname.out _).mono ?_;rintro e w2 ⟨rfl,rfl⟩)
    go_loopw [7] (fun idx wr =>zEC w (.cells #[.int .i64 1,.string (tx t),.int .u64 u,.slice (some ad) n c,.int .u64 o,.int .u64 m,.string (tx g)] 37) (.cells #[.string (tx xn),.int .u64 xh,.bool true] 73) wo.heap.size i xn l idx wr) (fun idx wr =>i - (intOf idx).toNat)
    case atStart =>exact ⟨0,by omega,rfl,by simp,hbn.out,hbxn.out,hzn.out,HNB.out,HNBZ.out⟩
    case round =>
     obtain ⟨j,hj,rfl,hnm,hb2,hbx2,hz2,hnb2,hnz2⟩:=hrel
     have HNM2:=yh hnm
     have HB2:=yh hb2
     have HBX2:=yh hbx2
     have HNB2:=yh hnb2
     have HZ2:=yh hz2
     have HNZ2:=yh hnz2
     have e3:=zAA (i:=3) hbx2 rfl
     have e0:=zAA (i:=0) hnb2 rfl
     by_cases hjlt:j<i
     ·obtain ⟨z,hzz⟩:∃ z,l[j]? = some z:=⟨_,List.getElem?_eq_getElem (by rw [HL.out];omega)⟩
      obtain ⟨ad',had,_,hcz⟩:=(H1.out.below hb2).2 (by omega)
      obtain rfl:ad=ad':=by injection had
      have m0:=hcz _ _ (zAt l j z hzz).1
      have HNZ:Hid ((zAN l)[j]? = some z.name):=by show _=_;unfold zAN;rw [List.getElem?_map,hzz];rfl
      obtain ⟨zn,zh,zo⟩:=z
      unfold rsv at m0
      simp only at m0 HNZ
      have hj0:(0:Int)≤(j:Int):=by omega
      have hj1:(j:Int)<(n:Int):=by omega
      clear hcz hzz hnm hb2 hbx2 hnb2 had
      by_cases hzx:zn=xn
      ·subst hzx
       have hlk:=zAj zn
       have HNO:=yh (HDUP.out (.inr (List.mem_of_getElem? (show ((zAN l).take i)[j]? = some zn by rw [List.getElem?_take,if_pos hjlt];exact HNZ.out))))
       go_wp2_with fail
       refine wp_region_held (S:=fun v1 =>v1.heap=wr.heap) (by kernel_rfl) ?_
       have hS:wr.drew.heap=wr.heap:=rfl
       refine zAB 0 (.pointer (some ⟨w.heap.size,3,none⟩)) rfl (by kernel_rfl) (by kernel_rfl) (by kernel_rfl) (fun _ _ _ h =>h) (by kernel_rfl) hS (fun _ _ =>by kernel_rfl) ?_
       refine zAB 1 (.slice (some ad) n c) rfl (by kernel_rfl) (by kernel_rfl) (by kernel_rfl) (fun _ _ _ h =>h) (by kernel_rfl) hS (by intro v1 hv;have q:=(zAM hv _).trans e3;go_simp) ?_
       refine zAB 2 (.int .i64 (j:Int)) rfl (by kernel_rfl) (by kernel_rfl) (by kernel_rfl) (fun _ _ _ h =>h) (by kernel_rfl) hS (fun _ _ =>by kernel_rfl) ?_
       refine zAB 3 (.pointer (some (ad.add (j * 3)))) rfl (by kernel_rfl) (by kernel_rfl) (by kernel_rfl) (fun _ _ _ h =>h) (by kernel_rfl) hS (by intro v1 hv;go_simp) ?_
       refine zAB 4 (.pointer (some (ad.add (j * 3)))) rfl (by kernel_rfl) (by kernel_rfl) (by kernel_rfl) (fun _ _ _ h =>h) (by kernel_rfl) hS (by intro v1 hv;go_simp) ?_
       refine zAB 5 (.string (tx zn)) rfl (by kernel_rfl) (by kernel_rfl) (by kernel_rfl) (fun _ _ _ h =>h) (by kernel_rfl) hS (by intro v1 hv;have q:=(zAM hv _).trans m0;go_simp) ?_
       refine zAB 6 (.pointer (some ⟨wo.heap.size,0,none⟩)) rfl (by kernel_rfl) (by kernel_rfl) (by kernel_rfl) (fun _ _ _ h =>h) (by kernel_rfl) hS (fun _ _ =>by kernel_rfl) ?_
       refine zAB 7 (.string (tx zn)) rfl (by kernel_rfl) (by kernel_rfl) (by kernel_rfl) (fun _ _ _ h =>h) (by kernel_rfl) hS (by intro v1 hv;have q:=(zAM hv _).trans e0;go_simp) ?_
       refine zAB 8 (.bool true) rfl (by kernel_rfl) (by kernel_rfl) (by kernel_rfl) (fun _ _ _ h =>h) (by kernel_rfl) hS (by intro v1 hv;go_simp) ?_
       refine wpAnyH_done (by kernel_rfl) ?_ _
       go_simp
       go_wp2
       go_ret
       exact ⟨zAF HNO.out,HB2.out.drew⟩
      ·have hul:=zAh hzx
       have HN2:Hid (xn ∉ (zAN l).take (j+1)):=fun h =>by
        rw [List.take_add_one,HNZ.out,List.mem_append] at h
        rcases h with h | h
        ·exact HNM2.out h
        ·simp at h;exact hzx h.symm
       clear hzx
       go_wp2_with fail
       refine wp_region_held (S:=fun v1 =>v1.heap=wr.heap) (by kernel_rfl) ?_
       have hS:wr.drew.heap=wr.heap:=rfl
       refine zAB 0 (.pointer (some ⟨w.heap.size,3,none⟩)) rfl (by kernel_rfl) (by kernel_rfl) (by kernel_rfl) (fun _ _ _ h =>h) (by kernel_rfl) hS (fun _ _ =>by kernel_rfl) ?_
       refine zAB 1 (.slice (some ad) n c) rfl (by kernel_rfl) (by kernel_rfl) (by kernel_rfl) (fun _ _ _ h =>h) (by kernel_rfl) hS (by intro v1 hv;have q:=(zAM hv _).trans e3;go_simp) ?_
       refine zAB 2 (.int .i64 (j:Int)) rfl (by kernel_rfl) (by kernel_rfl) (by kernel_rfl) (fun _ _ _ h =>h) (by kernel_rfl) hS (fun _ _ =>by kernel_rfl) ?_
       refine zAB 3 (.pointer (some (ad.add (j * 3)))) rfl (by kernel_rfl) (by kernel_rfl) (by kernel_rfl) (fun _ _ _ h =>h) (by kernel_rfl) hS (by intro v1 hv;go_simp) ?_
       refine zAB 4 (.pointer (some (ad.add (j * 3)))) rfl (by kernel_rfl) (by kernel_rfl) (by kernel_rfl) (fun _ _ _ h =>h) (by kernel_rfl) hS (by intro v1 hv;go_simp) ?_
       refine zAB 5 (.string (tx zn)) rfl (by kernel_rfl) (by kernel_rfl) (by kernel_rfl) (fun _ _ _ h =>h) (by kernel_rfl) hS (by intro v1 hv;have q:=(zAM hv _).trans m0;go_simp) ?_
       refine zAB 6 (.pointer (some ⟨wo.heap.size,0,none⟩)) rfl (by kernel_rfl) (by kernel_rfl) (by kernel_rfl) (fun _ _ _ h =>h) (by kernel_rfl) hS (fun _ _ =>by kernel_rfl) ?_
       refine zAB 7 (.string (tx xn)) rfl (by kernel_rfl) (by kernel_rfl) (by kernel_rfl) (fun _ _ _ h =>h) (by kernel_rfl) hS (by intro v1 hv;have q:=(zAM hv _).trans e0;go_simp) ?_
       refine zAB 8 (.bool false) rfl (by kernel_rfl) (by kernel_rfl) (by kernel_rfl) (fun _ _ _ h =>h) (by kernel_rfl) hS (by intro v1 hv;go_simp) ?_
       refine wpAnyH_done (by kernel_rfl) ?_ _
       go_simp
       go_wp2
       exact ⟨⟨j+1,by omega,by go_num,HN2.out,HB2.out.drew,HBX2.out,HZ2.out,HNB2.out,HNZ2.out⟩,by simp [intOf];omega⟩
     ·obtain rfl:j=i:=by omega
      have HND2:Hid ((t :: (zAN l).take (j+1)).Nodup):=by
       show List.Nodup _
       rw [List.take_add_one,HNM.out]
       exact zBH.2 ⟨HND.out,HET.out,HNM2.out⟩
      clear hnm hb2 hbx2 hnb2
      go_wp2
      exact ⟨⟨j+1,by rw [HL.out];omega,by go_num,HGO.out,HND2.out,HB2.out,HBX2.out,HZ2.out⟩,by simp [intOf];omega⟩
  ·obtain rfl:i=n:=by omega
   rw [List.take_of_length_le (by rw [HL.out];omega)] at HOK
   rw [List.take_of_length_le (by unfold zAN;rw [List.length_map,HL.out];omega)] at HND
   have HP:Hid (MayP 3 ⟨1,t,u,o,m,g⟩ l):=HIFF.out.2 ⟨by rw [HL.out];exact H16.out,HOK.out,HND.out⟩
   clear hok hnd hb hbx
   go_wp2
   go_ret
   exact ⟨zAq HP.out,HBR.out⟩
end Go.Proofs.YtgoklhoaedceaaaGreatDoor
