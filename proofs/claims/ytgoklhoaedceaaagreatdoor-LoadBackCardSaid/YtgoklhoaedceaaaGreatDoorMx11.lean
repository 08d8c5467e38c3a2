/- Texts of one proof. -/
import Derived.Test.YtgoklhoaedceaaaGreatDoorMx10
set_option maxRecDepth 100000
set_option maxHeartbeats 8000000
namespace Go.Proofs.YtgoklhoaedceaaaGreatDoor
open Go.RowKit
theorem zFp (s:ByteArray) (k m n:Nat) (hs:s.size=n) (h:k+m≤n) (W:World):(Instr.slice 9 (.string s) (some (.int .i64 (k:Int))) (some (.int .i64 ((k:Int)+(m:Int)))) none).run Tryz.prog W=.ok (.string (s.extract k (k+m))) W:=by
 have h1:=run_slice_string (P:=Tryz.prog) W 9 s .i64 .i64 (k:Int) ((k:Int)+(m:Int)) Tryz.underlying9 (by omega) (by omega) (by omega)
 rw [show (k:Int).toNat=k from by omega,show ((k:Int)+(m:Int)).toNat=k+m from by omega] at h1
 exact h1
def PRel (all:Bool) (l:List UInt8) (w:World) (v3 v4:Value) (wr:World):Prop :=
 ∃ i:Nat,i≤l.length∧v4=.int .i64 (i:Int)∧v3=.string (tx ((l.take i).flatMap (sgn all)))∧Below w.heap.size w wr
theorem zEc (l:List UInt8) (hl:l.length≤5000) (w:World) :
  Calls Tryz.prog 64 #[.string (tx l)] w fun e w' =>e=.returned (.string (tx (eput l)))∧Below w.heap.size w w':=by
 by_cases h0:l=[]
 ·subst h0
  have h1:(tx []).toList.isEmpty=true:=by rw [zBV];decide
  go_enter Tryz.func64,Tryz.ntmps64
  go_wp2
  go_ret
  exact ⟨rfl,Below.refl _ _⟩
 ·have h1:(tx l).toList.isEmpty=false:=by rw [zBV,decide_eq_false h0]
  obtain ⟨all,hall⟩:∃ all,all=decide (l=[45]):=⟨_,rfl⟩
  have hall2:((tx l).toList == [45])=all:=by rw [zAo,hall]
  have hfin:eput l=l.flatMap (sgn all):=by unfold eput;rw [if_neg h0,hall]
  have H0:Hid (PRel all l w (.string ⟨#[]⟩) (.int .i64 0) w):=⟨0,by omega,rfl,rfl,Below.refl _ _⟩
  rw [hfin]
  obtain ⟨n,hn⟩:∃ n,n=l.length:=⟨_,rfl⟩
  have hsz:(tx l).size=n:=by rw [zAK,hn]
  have HN:=yh hn
  have HAT:=yh (fun i x h hp =>zDf l i x h hp)
  rw [← hn] at hl
  generalize hs:tx l=s at *
  clear hs hfin h0 hall hn
  go_enter Tryz.func64,Tryz.ntmps64
  go_wp2
  go_loopw [3,4] (fun v3 v4 wr =>PRel all l w v3 v4 wr) (fun _ v4 _ =>n - (intOf v4).toNat)
  case atStart =>exact H0.out
  case round =>
   obtain ⟨i,hi,rfl,rfl,hb⟩:=hrel
   clear H0
   rw [← HN.out] at hi
   have HB:=yh hb
   by_cases hlt:i<n
   ·obtain ⟨b,hbi⟩:∃ b,l[i]? = some b:=⟨_,List.getElem?_eq_getElem (by rw [← HN.out];exact hlt)⟩
    have hk:i<s.size:=by omega
    have hat:=HAT.out i b hbi hk
    have hsn:=zFU (all:=all) hbi
    have hl3:=zDp all (l.take i)
    rw [List.length_take] at hl3
    have hsl:=zCd all b
    have hadd:=fun W:World =>zAc (P:=Tryz.prog) W ((l.take i).flatMap (sgn all)) (sgn all b) (by omega)
    rw [← hsn] at hadd
    have HSG:=yh (fun W =>zGj b all W)
    generalize sgn all b=g at *
    generalize hfa:(l.take i).flatMap (sgn all)=fa at *
    have hi0:(0:Int)≤(i:Int):=by omega
    have hi1:(i:Int)<(n:Int):=by omega
    clear hsn hl3 hsl hbi hb HAT hfa
    have HX:Hid ((s[i].toNat:Int)=(b.toNat:Int)):=congrArg Int.ofNat hat
    clear hat
    go_wp2_with fail
    rw [HX.out]
    refine (HSG.out _).mono ?_
    rintro e w3 ⟨rfl,hb3⟩
    have HB3:=yh (HB.out.trans (hb3.mono HB.out.size))
    clear hb3
    go_wp2
    exact ⟨⟨i+1,by rw [← HN.out];omega,by go_num,rfl,HB3.out⟩,by simp [intOf];omega⟩
   ·obtain rfl:i=n:=by omega
    rw [List.take_of_length_le (by rw [← HN.out];omega)]
    obtain ⟨fa,hfa⟩:∃ fa,fa=l.flatMap (sgn all):=⟨_,rfl⟩
    rw [← hfa]
    have HFA:=yh hfa
    clear hb hfa
    go_wp2
    go_ret
    exact ⟨by rw [← HFA.out];rfl,HB.out⟩
theorem zBU (t:List UInt8) (w:World):Calls Tryz.prog 87 #[rsv t] w fun e w' =>e=.returned (.bool (zAf t))∧w=w':=by
 unfold rsv
 have hsz:=zAk t
 by_cases h0:t=[]
 ·subst h0
  have he:(tx ([]:List UInt8)).toList=[]:=by simp [tx]
  go_enter Tryz.func87,Tryz.ntmps87
  go_wp2
  go_ret
  exact ⟨rfl,rfl⟩
 ·have h1:=zCM t h0
  have hl:1≤t.length:=by
   rcases t with _ | ⟨a,t⟩
   ·exact absurd rfl h0
   ·simp
  obtain ⟨n,hn⟩:∃ n,n=t.length:=⟨_,rfl⟩
  rw [← hn] at hsz hl
  by_cases h2:n≤64
  ·have hi:Hid (zAf t=true):=by show zAf t=true;unfold zAf;rw [← hn];exact decide_eq_true ⟨hl,h2⟩
   have h3:decide ((n:Int)<65)=true:=by rw [decide_eq_true_iff];omega
   clear hn h0
   go_enter Tryz.func87,Tryz.ntmps87
   go_wp2
   go_ret
   exact ⟨by rw [hi.out];first | rfl | (congr 2;simp;omega),rfl⟩
  ·have hi:Hid (zAf t=false):=by show zAf t=false;unfold zAf;rw [← hn];exact decide_eq_false (by omega)
   have h3:decide ((n:Int)<65)=false:=by rw [decide_eq_false_iff_not];omega
   clear hn h0
   go_enter Tryz.func87,Tryz.ntmps87
   go_wp2
   go_ret
   exact ⟨by rw [hi.out];first | rfl | (congr 2;simp;omega),rfl⟩
theorem zBH {t:List UInt8} {ns:List (List UInt8)} {s:List UInt8}:(t :: (ns++[s])).Nodup ↔ (t :: ns).Nodup∧s≠t∧s ∉ ns:=by
 rw [List.nodup_cons,List.nodup_cons,List.nodup_append]
 simp only [List.mem_append,List.mem_singleton,List.nodup_cons,List.not_mem_nil,not_false_iff,List.nodup_nil,and_true,true_and]
 constructor
 ·rintro ⟨h1,h2,h3⟩
  exact ⟨⟨fun h =>h1 (.inl h),h2⟩,fun h =>h1 (.inr h.symm),fun h =>h3 s h s rfl rfl⟩
 ·rintro ⟨⟨h1,h2⟩,h3,h4⟩
  refine ⟨fun h =>?_,h2,fun a ha b hb e =>?_⟩
  ·rcases h with h | h
   ·exact h1 h
   ·exact h3 h.symm
  ·subst hb;subst e;exact h4 ha
theorem zCW {t:List UInt8} {ns:List (List UInt8)} (h:(t :: ns).Nodup) (i:Nat):(t :: ns.take i).Nodup:=by
 rw [List.nodup_cons] at h ⊢
 exact ⟨fun hm =>h.1 (List.mem_of_mem_take hm),h.2.sublist (List.take_sublist _ _)⟩
def zFx (v:Int) (w:World) (o:Obj) (t:List UInt8) (l:List Dp) (idx:Value) (wr:World):Prop :=
 ∃ i:Nat,i≤l.length∧idx=.int .i64 (i:Int)∧(∀ d ∈ l.take i,DepP v d)∧(t :: (zAN l).take i).Nodup∧Below w.heap.size w wr∧wr.heap[w.heap.size]? = some o∧w.heap.size<wr.heap.size
def zEC (w:World) (o x:Obj) (b i:Nat) (s:List UInt8) (l:List Dp) (idx:Value) (wr:World):Prop :=
 ∃ j:Nat,j≤i∧idx=.int .i64 (j:Int)∧s ∉ (zAN l).take j∧Below w.heap.size w wr∧wr.heap[w.heap.size]? = some o∧w.heap.size<wr.heap.size∧wr.heap[b]? = some x∧b<wr.heap.size
theorem zKs (t:List UInt8) (u o:Int) (A:Option Addr) (n c:Nat) (l:List Dp) (hn:n≤1000) (hfit:Fits ⟨1,t,u,o,0,[]⟩ l) (hq:zAf t=true) (h16:n≤16) (w:World) (h:zAE w w.heap.size 3 A n (dps l)) :
  Calls Tryz.prog 63 #[.int .i64 1,rcv ⟨1,t,u,o,0,[]⟩ A n c] w fun e w' =>zAX (MayP 1 ⟨1,t,u,o,0,[]⟩ l) e∧Below w.heap.size w w':=by
 have HL:Hid (l.length=n):=by have:=h.1;rw [zAd] at this;show _=_;omega
 have H1:=yh h
 have H0:=yh (zAI w (.cells (zAO ⟨1,t,u,o,0,[]⟩ A n c) 37))
 have HB0:=yh ((Below.refl w.heap.size w).alloc (Nat.le_refl _) (.cells (zAO ⟨1,t,u,o,0,[]⟩ A n c) 37))
 have HS0:Hid (w.heap.size<(w.alloc (.cells (zAO ⟨1,t,u,o,0,[]⟩ A n c) 37)).heap.size):=by show w.heap.size<_;simp
 have hst:=zAk t
 have hsg:=zAk []
 obtain ⟨hft,hfg,hfd⟩:=hfit
 have HFD:=yh hfd
 have HNAME:=yh (zBU t)
 have q0:=zAA (i:=0) H0.out rfl
 have q1:=zAA (i:=1) H0.out rfl
 have q2:=zAA (i:=2) H0.out rfl
 have q3:=zAA (i:=3) H0.out rfl
 have q4:=zAA (i:=4) H0.out rfl
 have q5:=zAA (i:=5) H0.out rfl
 have q6:=zAA (i:=6) H0.out rfl
 unfold maxLen at hft hfg
 simp only at hft hfg
 clear h hfd
 unfold zAO at *
 unfold rcv rsv at *
 rw [hq] at HNAME
 have d16:decide ((n:Int) > 16)=false:=decide_eq_false (by omega)
 have he:(tx ([]:List UInt8)).toList=[]:=by simp [tx]
 have HIFF:Hid (MayP 1 ⟨1,t,u,o,0,[]⟩ l ↔ zCG 1 ⟨1,t,u,o,0,[]⟩ l):=⟨fun h =>by rcases h.2.2.2 with h | h;exact h.2.2.2;exact absurd h.1 (by simp),fun h =>⟨by omega,by omega,hq,.inl ⟨rfl,.inl rfl,.inl rfl,h⟩⟩⟩
 have H16:Hid (n≤16):=h16
 go_enter Tryz.func63,Tryz.ntmps63
 go_wp2_with (go_at_call 87;refine (HNAME.out _).mono ?_;rintro e w2 ⟨rfl,rfl⟩)
 go_loopw [5] (fun idx wr =>zFx 1 w (.cells #[.int .i64 1,.string (tx t),.int .u64 u,.slice A n c,.int .u64 o,.int .u64 0,.string (tx [])] 37) t l idx wr) (fun idx wr =>n - (intOf idx).toNat)
 case atStart =>exact ⟨0,by omega,rfl,by simp,by simp,HB0.out,H0.out,HS0.out⟩
 case round =>
  obtain ⟨i,hi,rfl,hok,hnd,hb,hbx,hz⟩:=hrel
  obtain ⟨wo,hwo⟩:∃ x,x=wr:=⟨wr,rfl⟩
  subst hwo
  have HOK:=yh hok
  have HND:=yh hnd
  have HBR:=yh hb
  have HBX:=yh hbx
  have HZ:=yh hz
  rw [HL.out] at hi
  have b1:=zAA (i:=1) hbx rfl
  have b3:=zAA (i:=3) hbx rfl
  by_cases hlt:i<n
  ·obtain ⟨y,hy⟩:∃ y,l[i]? = some y:=⟨_,List.getElem?_eq_getElem (by rw [HL.out];exact hlt)⟩
   obtain ⟨ad,rfl,_,hcx⟩:=(H1.out.below hb).2 (by omega)
   obtain ⟨x0,x1,x2⟩:=zAt l i y hy
   have k0:=hcx _ _ x0
   have k1:=hcx _ _ x1
   have k2:=hcx _ _ x2
   rw [zBO] at k1
   rw [zBP] at k2
   have hnb:=zAI wo (.cells #[.string (tx y.name),.int .u64 y.hash,.bool y.order] 73)
   have p0:=zAA (i:=0) hnb rfl
   have p2:=zAA (i:=2) hnb rfl
   have hbn:=yh (hb.alloc (by omega) (.cells #[.string (tx y.name),.int .u64 y.hash,.bool y.order] 73))
   have hbxn:=yh ((Below.heap_alloc wo (.cells #[.string (tx y.name),.int .u64 y.hash,.bool y.order] 73) w.heap.size hz).trans hbx)
   have hzn:Hid (w.heap.size<(wo.alloc (.cells #[.string (tx y.name),.int .u64 y.hash,.bool y.order] 73)).heap.size):=by show w.heap.size<_;simp;omega
   have HNB:=yh hnb
   have HNBZ:Hid (wo.heap.size<(wo.alloc (.cells #[.string (tx y.name),.int .u64 y.hash,.bool y.order] 73)).heap.size):=by show _<_;simp
   have c1:=(World.cell?_alloc_lt wo (.cells #[.string (tx y.name),.int .u64 y.hash,.bool y.order] 73) ⟨w.heap.size,1,none⟩ hz).trans b1
   have hname:=yh (zBU y.name)
   have hi0:(0:Int)≤(i:Int):=by omega
   have hi1:(i:Int)<(n:Int):=by omega
   have HNM:Hid ((zAN l)[i]? = some y.name):=by show _=_;unfold zAN;rw [List.getElem?_map,hy];rfl
   have HIN:Hid (DepP 1 y→∀ d ∈ l.take (i+1),DepP 1 d):=fun hp d hd =>by
    rw [List.take_add_one,hy,List.mem_append] at hd
    rcases hd with hd | hd
    ·exact HOK.out d hd
    ·simp at hd;subst hd;exact hp
   have HOUT:Hid (¬ DepP 1 y→¬ MayP 1 ⟨1,t,u,o,0,[]⟩ l):=fun hp hd =>hp ((HIFF.out.1 hd).2.1 y (List.mem_of_getElem? hy))
   have HDUP:Hid (y.name=t∨y.name ∈ (zAN l).take i→¬ MayP 1 ⟨1,t,u,o,0,[]⟩ l):=fun hp hd =>by
    have h1:=zCW (HIFF.out.1 hd).2.2 (i+1)
    rw [List.take_add_one,HNM.out] at h1
    have h2:=zBH.1 h1
    rcases hp with hp | hp
    ·exact h2.2.1 hp
    ·exact h2.2.2 hp
   obtain ⟨xn,xh,xo⟩:=y
   unfold rsv at k0 hname
   simp only at k0 k1 k2 p0 p2 hbn hbxn hzn HNB HNBZ c1 hname HNM HDUP
   clear hcx x0 x1 x2 hok hnd hb hbx hnb hy
   cases hqn:zAf xn
   ·have HNO:=yh (HOUT.out (fun hp =>by have:=hp.1;simp only at this;rw [hqn] at this;cases this))
    rw [hqn] at hname
    go_wp2_with (go_at_call 87;refine (hname.out _).mono ?_;rintro e w2 ⟨rfl,rfl⟩)
    go_ret
    exact ⟨zAF HNO.out,hbn.out⟩
   rw [hqn] at hname
   by_cases het:xn=t
   ·subst het
    have HNO:=yh (HDUP.out (.inl rfl))
    have hlk:=zAj xn
    go_wp2_with (go_at_call 87;refine (hname.out _).mono ?_;rintro e w2 ⟨rfl,rfl⟩)
    go_ret
    exact ⟨zAF HNO.out,hbn.out⟩
   have hun:=zAh het
   have HET:=yh het
   clear het
   cases xo
   rotate_left
   ·have HNO:=yh (HOUT.out (fun hp =>by have:=hp.2 rfl;omega))
    go_wp2_with (go_at_call 87;refine (hname.out _).mono ?_;rintro e w2 ⟨rfl,rfl⟩)
    go_ret
    exact ⟨zAF HNO.out,hbn.out⟩
   have HGO:=yh (HIN.out ⟨hqn,fun h =>by cases h⟩)
   ·go_wp2_with (go_at_call 87;refine (hname.out _).mono ?_;rintro e w2 ⟨rfl,rfl⟩)
    go_loopw [7] (fun idx wr =>zEC w (.cells #[.int .i64 1,.string (tx t),.int .u64 u,.slice (some ad) n c,.int .u64 o,.int .u64 0,.string (tx [])] 37) (.cells #[.string (tx xn),.int .u64 xh,.bool false] 73) wo.heap.size i xn l idx wr) (fun idx wr =>i - (intOf idx).toNat)
    case atStart =>exact ⟨0,by omega,rfl,by simp,hbn.out,hbxn.out,hzn.out,HNB.out,HNBZ.out⟩
    case round =>
     obtain ⟨j,hj,rfl,hnm,hb2,hbx2,hz2,hnb2,hnz2⟩:=hrel
     have HNM2:=yh hnm
     have HB2:=yh hb2
     have HBX2:=yh hbx2
     have HNB2:=yh hnb2
     have HZ2:=yh hz2
     have HNZ2:=yh hnz2
     have e3:=zAA (i:=3) hbx2 rfl
     have e0:=zAA (i:=0) hnb2 rfl
     by_cases hjlt:j<i
     ·obtain ⟨z,hzz⟩:∃ z,l[j]? = some z:=⟨_,List.getElem?_eq_getElem (by rw [HL.out];omega)⟩
      obtain ⟨ad',had,_,hcz⟩:=(H1.out.below hb2).2 (by omega)
      obtain rfl:ad=ad':=by injection had
      have m0:=hcz _ _ (zAt l j z hzz).1
      have HNZ:Hid ((zAN l)[j]? = some z.name):=by show _=_;unfold zAN;rw [List.getElem?_map,hzz];rfl
      obtain ⟨zn,zh,zo⟩:=z
      unfold rsv at m0
      simp only at m0 HNZ
      have hj0:(0:Int)≤(j:Int):=by omega
      have hj1:(j:Int)<(n:Int):=by omega
      clear hcz hzz hnm hb2 hbx2 hnb2 had
      by_cases hzx:zn=xn
      ·subst hzx
       have hlk:=zAj zn
       have HNO:=yh (HDUP.out (.inr (List.mem_of_getElem? (show ((zAN l).take i)[j]? = some zn by rw [List.getElem?_take,if_pos hjlt];exact HNZ.out))))
       go_wp2_with fail
       refine wp_region_held (S:=fun v1 =>v1.heap=wr.heap) (by kernel_rfl) ?_
       have hS:wr.drew.heap=wr.heap:=rfl
       refine zAB 0 (.pointer (some ⟨w.heap.size,3,none⟩)) rfl (by kernel_rfl) (by kernel_rfl) (by kernel_rfl) (fun _ _ _ h =>h) (by kernel_rfl) hS (fun _ _ =>by kernel_rfl) ?_
       refine zAB 1 (.slice (some ad) n c) rfl (by kernel_rfl) (by kernel_rfl) (by kernel_rfl) (fun _ _ _ h =>h) (by kernel_rfl) hS (by intro v1 hv;have q:=(zAM hv _).trans e3;go_simp) ?_
       refine zAB 2 (.int .i64 (j:Int)) rfl (by kernel_rfl) (by kernel_rfl) (by kernel_rfl) (fun _ _ _ h =>h) (by kernel_rfl) hS (fun _ _ =>by kernel_rfl) ?_
       refine zAB 3 (.pointer (some (ad.add (j * 3)))) rfl (by kernel_rfl) (by kernel_rfl) (by kernel_rfl) (fun _ _ _ h =>h) (by kernel_rfl) hS (by intro v1 hv;go_simp) ?_
       refine zAB 4 (.pointer (some (ad.add (j * 3)))) rfl (by kernel_rfl) (by kernel_rfl) (by kernel_rfl) (fun _ _ _ h =>h) (by kernel_rfl) hS (by intro v1 hv;go_simp) ?_
       refine zAB 5 (.string (tx zn)) rfl (by kernel_rfl) (by kernel_rfl) (by kernel_rfl) (fun _ _ _ h =>h) (by kernel_rfl) hS (by intro v1 hv;have q:=(zAM hv _).trans m0;go_simp) ?_
       refine zAB 6 (.pointer (some ⟨wo.heap.size,0,none⟩)) rfl (by kernel_rfl) (by kernel_rfl) (by kernel_rfl) (fun _ _ _ h =>h) (by kernel_rfl) hS (fun _ _ =>by kernel_rfl) ?_
       refine zAB 7 (.string (tx zn)) rfl (by kernel_rfl) (by kernel_rfl) (by kernel_rfl) (fun _ _ _ h =>h) (by kernel_rfl) hS (by intro v1 hv;have q:=(zAM hv _).trans e0;go_simp) ?_
       refine zAB 8 (.bool true) rfl (by kernel_rfl) (by kernel_rfl) (by kernel_rfl) (fun _ _ _ h =>h) (by kernel_rfl) hS (by intro v1 hv;go_simp) ?_
       refine wpAnyH_done (by kernel_rfl) ?_ _
       go_simp
       go_wp2
       go_ret
       exact ⟨zAF HNO.out,HB2.out.drew⟩
      ·have hul:=zAh hzx
       have HN2:Hid (xn ∉ (zAN l).take (j+1)):=fun h =>by
        rw [List.take_add_one,HNZ.out,List.mem_append] at h
        rcases h with h | h
        ·exact HNM2.out h
        ·simp at h;exact hzx h.symm
       clear hzx
       go_wp2_with fail
       refine wp_region_held (S:=fun v1 =>v1.heap=wr.heap) (by kernel_rfl) ?_
       have hS:wr.drew.heap=wr.heap:=rfl
       refine zAB 0 (.pointer (some ⟨w.heap.size,3,none⟩)) rfl (by kernel_rfl) (by kernel_rfl) (by kernel_rfl) (fun _ _ _ h =>h) (by kernel_rfl) hS (fun _ _ =>by kernel_rfl) ?_
       refine zAB 1 (.slice (some ad) n c) rfl (by kernel_rfl) (by kernel_rfl) (by kernel_rfl) (fun _ _ _ h =>h) (by kernel_rfl) hS (by intro v1 hv;have q:=(zAM hv _).trans e3;go_simp) ?_
       refine zAB 2 (.int .i64 (j:Int)) rfl (by kernel_rfl) (by kernel_rfl) (by kernel_rfl) (fun _ _ _ h =>h) (by kernel_rfl) hS (fun _ _ =>by kernel_rfl) ?_
       refine zAB 3 (.pointer (some (ad.add (j * 3)))) rfl (by kernel_rfl) (by kernel_rfl) (by kernel_rfl) (fun _ _ _ h =>h) (by kernel_rfl) hS (by intro v1 hv;go_simp) ?_
       refine zAB 4 (.pointer (some (ad.add (j * 3)))) rfl (by kernel_rfl) (by kernel_rfl) (by kernel_rfl) (fun _ _ _ h =>h) (by kernel_rfl) hS (by intro v1 hv;go_simp) ?_
       refine zAB 5 (.string (tx zn)) rfl (by kernel_rfl) (by kernel_rfl) (by kernel_rfl) (fun _ _ _ h =>h) (by kernel_rfl) hS (by intro v1 hv;have q:=(zAM hv _).trans m0;go_simp) ?_
       refine zAB 6 (.pointer (some ⟨wo.heap.size,0,none⟩)) rfl (by kernel_rfl) (by kernel_rfl) (by kernel_rfl) (fun _ _ _ h =>h) (by kernel_rfl) hS (fun _ _ =>by kernel_rfl) ?_
       refine zAB 7 (.string (tx xn)) rfl (by kernel_rfl) (by kernel_rfl) (by kernel_rfl) (fun _ _ _ h =>h) (by kernel_rfl) hS (by intro v1 hv;have q:=(zAM hv _).trans e0;go_simp) ?_
       refine zAB 8 (.bool false) rfl (by kernel_rfl) (by kernel_rfl) (by kernel_rfl) (fun _ _ _ h =>h) (by kernel_rfl) hS (by intro v1 hv;go_simp) ?_
       refine wpAnyH_done (by kernel_rfl) ?_ _
       go_simp
       go_wp2
       exact ⟨⟨j+1,by omega,by go_num,HN2.out,HB2.out.drew,HBX2.out,HZ2.out,HNB2.out,HNZ2.out⟩,by simp [intOf];omega⟩
     ·obtain rfl:j=i:=by omega
      have HND2:Hid ((t :: (zAN l).take (j+1)).Nodup):=by
       show List.Nodup _
       rw [List.take_add_one,HNM.out]
       exact zBH.2 ⟨HND.out,HET.out,HNM2.out⟩
      clear hnm hb2 hbx2 hnb2
      go_wp2
      exact ⟨⟨j+1,by rw [HL.out];omega,by go_num,HGO.out,HND2.out,HB2.out,HBX2.out,HZ2.out⟩,by simp [intOf];omega⟩
  ·obtain rfl:i=n:=by omega
   rw [List.take_of_length_le (by rw [HL.out];omega)] at HOK
   rw [List.take_of_length_le (by unfold zAN;rw [List.length_map,HL.out];omega)] at HND
   have HP:Hid (MayP 1 ⟨1,t,u,o,0,[]⟩ l):=HIFF.out.2 ⟨by rw [HL.out];exact H16.out,HOK.out,HND.out⟩
   clear hok hnd hb hbx
   go_wp2
   go_ret
   exact ⟨zAq HP.out,HBR.out⟩
theorem zHb (t:List UInt8) (u o:Int) (m:Int) (A:Option Addr) (n c:Nat) (l:List Dp) (hn:n≤1000) (hfit:Fits ⟨1,t,u,o,m,[]⟩ l) (hq:zAf t=true) (h16:n≤16) (w:World) (h:zAE w w.heap.size 3 A n (dps l)) :
  Calls Tryz.prog 63 #[.int .i64 2,rcv ⟨1,t,u,o,m,[]⟩ A n c] w fun e w' =>zAX (MayP 2 ⟨1,t,u,o,m,[]⟩ l) e∧Below w.heap.size w w':=by
 have HL:Hid (l.length=n):=by have:=h.1;rw [zAd] at this;show _=_;omega
 have H1:=yh h
 have H0:=yh (zAI w (.cells (zAO ⟨1,t,u,o,m,[]⟩ A n c) 37))
 have HB0:=yh ((Below.refl w.heap.size w).alloc (Nat.le_refl _) (.cells (zAO ⟨1,t,u,o,m,[]⟩ A n c) 37))
 have HS0:Hid (w.heap.size<(w.alloc (.cells (zAO ⟨1,t,u,o,m,[]⟩ A n c) 37)).heap.size):=by show w.heap.size<_;simp
 have hst:=zAk t
 have hsg:=zAk []
 obtain ⟨hft,hfg,hfd⟩:=hfit
 have HFD:=yh hfd
 have HNAME:=yh (zBU t)
 have q0:=zAA (i:=0) H0.out rfl
 have q1:=zAA (i:=1) H0.out rfl
 have q2:=zAA (i:=2) H0.out rfl
 have q3:=zAA (i:=3) H0.out rfl
 have q4:=zAA (i:=4) H0.out rfl
 have q5:=zAA (i:=5) H0.out rfl
 have q6:=zAA (i:=6) H0.out rfl
 unfold maxLen at hft hfg
 simp only at hft hfg
 clear h hfd
 unfold zAO at *
 unfold rcv rsv at *
 rw [hq] at HNAME
 have d16:decide ((n:Int) > 16)=false:=decide_eq_false (by omega)
 have he:(tx ([]:List UInt8)).toList=[]:=by simp [tx]
 have HIFF:Hid (MayP 2 ⟨1,t,u,o,m,[]⟩ l ↔ zCG 2 ⟨1,t,u,o,m,[]⟩ l):=⟨fun h =>by rcases h.2.2.2 with h | h;exact h.2.2.2;exact absurd h.1 (by simp),fun h =>⟨by omega,by omega,hq,.inl ⟨rfl,.inr (by omega),.inl rfl,h⟩⟩⟩
 have H16:Hid (n≤16):=h16
 go_enter Tryz.func63,Tryz.ntmps63
 go_wp2_with (go_at_call 87;refine (HNAME.out _).mono ?_;rintro e w2 ⟨rfl,rfl⟩)
 go_loopw [5] (fun idx wr =>zFx 2 w (.cells #[.int .i64 1,.string (tx t),.int .u64 u,.slice A n c,.int .u64 o,.int .u64 m,.string (tx [])] 37) t l idx wr) (fun idx wr =>n - (intOf idx).toNat)
 case atStart =>exact ⟨0,by omega,rfl,by simp,by simp,HB0.out,H0.out,HS0.out⟩
 case round =>
  obtain ⟨i,hi,rfl,hok,hnd,hb,hbx,hz⟩:=hrel
  obtain ⟨wo,hwo⟩:∃ x,x=wr:=⟨wr,rfl⟩
  subst hwo
  have HOK:=yh hok
  have HND:=yh hnd
  have HBR:=yh hb
  have HBX:=yh hbx
  have HZ:=yh hz
  rw [HL.out] at hi
  have b1:=zAA (i:=1) hbx rfl
  have b3:=zAA (i:=3) hbx rfl
  by_cases hlt:i<n
  ·obtain ⟨y,hy⟩:∃ y,l[i]? = some y:=⟨_,List.getElem?_eq_getElem (by rw [HL.out];exact hlt)⟩
   obtain ⟨ad,rfl,_,hcx⟩:=(H1.out.below hb).2 (by omega)
   obtain ⟨x0,x1,x2⟩:=zAt l i y hy
   have k0:=hcx _ _ x0
   have k1:=hcx _ _ x1
   have k2:=hcx _ _ x2
   rw [zBO] at k1
   rw [zBP] at k2
   have hnb:=zAI wo (.cells #[.string (tx y.name),.int .u64 y.hash,.bool y.order] 73)
   have p0:=zAA (i:=0) hnb rfl
   have p2:=zAA (i:=2) hnb rfl
   have hbn:=yh (hb.alloc (by omega) (.cells #[.string (tx y.name),.int .u64 y.hash,.bool y.order] 73))
   have hbxn:=yh ((Below.heap_alloc wo (.cells #[.string (tx y.name),.int .u64 y.hash,.bool y.order] 73) w.heap.size hz).trans hbx)
   have hzn:Hid (w.heap.size<(wo.alloc (.cells #[.string (tx y.name),.int .u64 y.hash,.bool y.order] 73)).heap.size):=by show w.heap.size<_;simp;omega
   have HNB:=yh hnb
   have HNBZ:Hid (wo.heap.size<(wo.alloc (.cells #[.string (tx y.name),.int .u64 y.hash,.bool y.order] 73)).heap.size):=by show _<_;simp
   have c1:=(World.cell?_alloc_lt wo (.cells #[.string (tx y.name),.int .u64 y.hash,.bool y.order] 73) ⟨w.heap.size,1,none⟩ hz).trans b1
   have hname:=yh (zBU y.name)
   have hi0:(0:Int)≤(i:Int):=by omega
   have hi1:(i:Int)<(n:Int):=by omega
   have HNM:Hid ((zAN l)[i]? = some y.name):=by show _=_;unfold zAN;rw [List.getElem?_map,hy];rfl
   have HIN:Hid (DepP 2 y→∀ d ∈ l.take (i+1),DepP 2 d):=fun hp d hd =>by
    rw [List.take_add_one,hy,List.mem_append] at hd
    rcases hd with hd | hd
    ·exact HOK.out d hd
    ·simp at hd;subst hd;exact hp
   have HOUT:Hid (¬ DepP 2 y→¬ MayP 2 ⟨1,t,u,o,m,[]⟩ l):=fun hp hd =>hp ((HIFF.out.1 hd).2.1 y (List.mem_of_getElem? hy))
   have HDUP:Hid (y.name=t∨y.name ∈ (zAN l).take i→¬ MayP 2 ⟨1,t,u,o,m,[]⟩ l):=fun hp hd =>by
    have h1:=zCW (HIFF.out.1 hd).2.2 (i+1)
    rw [List.take_add_one,HNM.out] at h1
    have h2:=zBH.1 h1
    rcases hp with hp | hp
    ·exact h2.2.1 hp
    ·exact h2.2.2 hp
   obtain ⟨xn,xh,xo⟩:=y
   unfold rsv at k0 hname
   simp only at k0 k1 k2 p0 p2 hbn hbxn hzn HNB HNBZ c1 hname HNM HDUP
   clear hcx x0 x1 x2 hok hnd hb hbx hnb hy
   cases hqn:zAf xn
   ·have HNO:=yh (HOUT.out (fun hp =>by have:=hp.1;simp only at this;rw [hqn] at this;cases this))
    rw [hqn] at hname
    go_wp2_with (go_at_call 87;refine (hname.out _).mono ?_;rintro e w2 ⟨rfl,rfl⟩)
    go_ret
    exact ⟨zAF HNO.out,hbn.out⟩
   rw [hqn] at hname
   by_cases het:xn=t
   ·subst het
    have HNO:=yh (HDUP.out (.inl rfl))
    have hlk:=zAj xn
    go_wp2_with (go_at_call 87;refine (hname.out _).mono ?_;rintro e w2 ⟨rfl,rfl⟩)
    go_ret
    exact ⟨zAF HNO.out,hbn.out⟩
   have hun:=zAh het
   have HET:=yh het
   clear het
   cases xo
   rotate_left
   ·have HNO:=yh (HOUT.out (fun hp =>by have:=hp.2 rfl;omega))
    go_wp2_with (go_at_call 87;refine (hname.out _).mono ?_;rintro e w2 ⟨rfl,rfl⟩)
    go_ret
    exact ⟨zAF HNO.out,hbn.out⟩
   have HGO:=yh (HIN.out ⟨hqn,fun h =>by cases h⟩)
   ·go_wp2_with (go_at_call 87;refine (hname.out _).mono ?_;rintro e w2 ⟨rfl,rfl⟩)
    go_loopw [7] (fun idx wr =>zEC w (.cells #[.int .i64 1,.string (tx t),.int .u64 u,.slice (some ad) n c,.int .u64 o,.int .u64 m,.string (tx [])] 37) (.cells #[.string (tx xn),.int .u64 xh,.bool false] 73) wo.heap.size i xn l idx wr) (fun idx wr =>i - (intOf idx).toNat)
    case atStart =>exact ⟨0,by omega,rfl,by simp,hbn.out,hbxn.out,hzn.out,HNB.out,HNBZ.out⟩
    case round =>
     obtain ⟨j,hj,rfl,hnm,hb2,hbx2,hz2,hnb2,hnz2⟩:=hrel
     have HNM2:=yh hnm
     have HB2:=yh hb2
     have HBX2:=yh hbx2
     have HNB2:=yh hnb2
     have HZ2:=yh hz2
     have HNZ2:=yh hnz2
     have e3:=zAA (i:=3) hbx2 rfl
     have e0:=zAA (i:=0) hnb2 rfl
     by_cases hjlt:j<i
     ·obtain ⟨z,hzz⟩:∃ z,l[j]? = some z:=⟨_,List.getElem?_eq_getElem (by rw [HL.out];omega)⟩
      obtain ⟨ad',had,_,hcz⟩:=(H1.out.below hb2).2 (by omega)
      obtain rfl:ad=ad':=by injection had
      have m0:=hcz _ _ (zAt l j z hzz).1
      have HNZ:Hid ((zAN l)[j]? = some z.name):=by show _=_;unfold zAN;rw [List.getElem?_map,hzz];rfl
      obtain ⟨zn,zh,zo⟩:=z
      unfold rsv at m0
      simp only at m0 HNZ
      have hj0:(0:Int)≤(j:Int):=by omega
      have hj1:(j:Int)<(n:Int):=by omega
      clear hcz hzz hnm hb2 hbx2 hnb2 had
      by_cases hzx:zn=xn
      ·subst hzx
       have hlk:=zAj zn
       have HNO:=yh (HDUP.out (.inr (List.mem_of_getElem? (show ((zAN l).take i)[j]? = some zn by rw [List.getElem?_take,if_pos hjlt];exact HNZ.out))))
       go_wp2_with fail
       refine wp_region_held (S:=fun v1 =>v1.heap=wr.heap) (by kernel_rfl) ?_
       have hS:wr.drew.heap=wr.heap:=rfl
       refine zAB 0 (.pointer (some ⟨w.heap.size,3,none⟩)) rfl (by kernel_rfl) (by kernel_rfl) (by kernel_rfl) (fun _ _ _ h =>h) (by kernel_rfl) hS (fun _ _ =>by kernel_rfl) ?_
       refine zAB 1 (.slice (some ad) n c) rfl (by kernel_rfl) (by kernel_rfl) (by kernel_rfl) (fun _ _ _ h =>h) (by kernel_rfl) hS (by intro v1 hv;have q:=(zAM hv _).trans e3;go_simp) ?_
       refine zAB 2 (.int .i64 (j:Int)) rfl (by kernel_rfl) (by kernel_rfl) (by kernel_rfl) (fun _ _ _ h =>h) (by kernel_rfl) hS (fun _ _ =>by kernel_rfl) ?_
       refine zAB 3 (.pointer (some (ad.add (j * 3)))) rfl (by kernel_rfl) (by kernel_rfl) (by kernel_rfl) (fun _ _ _ h =>h) (by kernel_rfl) hS (by intro v1 hv;go_simp) ?_
       refine zAB 4 (.pointer (some (ad.add (j * 3)))) rfl (by kernel_rfl) (by kernel_rfl) (by kernel_rfl) (fun _ _ _ h =>h) (by kernel_rfl) hS (by intro v1 hv;go_simp) ?_
       refine zAB 5 (.string (tx zn)) rfl (by kernel_rfl) (by kernel_rfl) (by kernel_rfl) (fun _ _ _ h =>h) (by kernel_rfl) hS (by intro v1 hv;have q:=(zAM hv _).trans m0;go_simp) ?_
       refine zAB 6 (.pointer (some ⟨wo.heap.size,0,none⟩)) rfl (by kernel_rfl) (by kernel_rfl) (by kernel_rfl) (fun _ _ _ h =>h) (by kernel_rfl) hS (fun _ _ =>by kernel_rfl) ?_
       refine zAB 7 (.string (tx zn)) rfl (by kernel_rfl) (by kernel_rfl) (by kernel_rfl) (fun _ _ _ h =>h) (by kernel_rfl) hS (by intro v1 hv;have q:=(zAM hv _).trans e0;go_simp) ?_
       refine zAB 8 (.bool true) rfl (by kernel_rfl) (by kernel_rfl) (by kernel_rfl) (fun _ _ _ h =>h) (by kernel_rfl) hS (by intro v1 hv;go_simp) ?_
       refine wpAnyH_done (by kernel_rfl) ?_ _
       go_simp
       go_wp2
       go_ret
       exact ⟨zAF HNO.out,HB2.out.drew⟩
      ·have hul:=zAh hzx
       have HN2:Hid (xn ∉ (zAN l).take (j+1)):=fun h =>by
        rw [List.take_add_one,HNZ.out,List.mem_append] at h
        rcases h with h | h
        ·exact HNM2.out h
        ·simp at h;exact hzx h.symm
       clear hzx
       go_wp2_with fail
       refine wp_region_held (S:=fun v1 =>v1.heap=wr.heap) (by kernel_rfl) ?_
       have hS:wr.drew.heap=wr.heap:=rfl
       refine zAB 0 (.pointer (some ⟨w.heap.size,3,none⟩)) rfl (by kernel_rfl) (by kernel_rfl) (by kernel_rfl) (fun _ _ _ h =>h) (by kernel_rfl) hS (fun _ _ =>by kernel_rfl) ?_
       refine zAB 1 (.slice (some ad) n c) rfl (by kernel_rfl) (by kernel_rfl) (by kernel_rfl) (fun _ _ _ h =>h) (by kernel_rfl) hS (by intro v1 hv;have q:=(zAM hv _).trans e3;go_simp) ?_
       refine zAB 2 (.int .i64 (j:Int)) rfl (by kernel_rfl) (by kernel_rfl) (by kernel_rfl) (fun _ _ _ h =>h) (by kernel_rfl) hS (fun _ _ =>by kernel_rfl) ?_
       refine zAB 3 (.pointer (some (ad.add (j * 3)))) rfl (by kernel_rfl) (by kernel_rfl) (by kernel_rfl) (fun _ _ _ h =>h) (by kernel_rfl) hS (by intro v1 hv;go_simp) ?_
       refine zAB 4 (.pointer (some (ad.add (j * 3)))) rfl (by kernel_rfl) (by kernel_rfl) (by kernel_rfl) (fun _ _ _ h =>h) (by kernel_rfl) hS (by intro v1 hv;go_simp) ?_
       refine zAB 5 (.string (tx zn)) rfl (by kernel_rfl) (by kernel_rfl) (by kernel_rfl) (fun _ _ _ h =>h) (by kernel_rfl) hS (by intro v1 hv;have q:=(zAM hv _).trans m0;go_simp) ?_
       refine zAB 6 (.pointer (some ⟨wo.heap.size,0,none⟩)) rfl (by kernel_rfl) (by kernel_rfl) (by kernel_rfl) (fun _ _ _ h =>h) (by kernel_rfl) hS (fun _ _ =>by kernel_rfl) ?_
       refine zAB 7 (.string (tx xn)) rfl (by kernel_rfl) (by kernel_rfl) (by kernel_rfl) (fun _ _ _ h =>h) (by kernel_rfl) hS (by intro v1 hv;have q:=(zAM hv _).trans e0;go_simp) ?_
       refine zAB 8 (.bool false) rfl (by kernel_rfl) (by kernel_rfl) (by kernel_rfl) (fun _ _ _ h =>h) (by kernel_rfl) hS (by intro v1 hv;go_simp) ?_
       refine wpAnyH_done (by kernel_rfl) ?_ _
       go_simp
       go_wp2
       exact ⟨⟨j+1,by omega,by go_num,HN2.out,HB2.out.drew,HBX2.out,HZ2.out,HNB2.out,HNZ2.out⟩,by simp [intOf];omega⟩
     ·obtain rfl:j=i:=by omega
      have HND2:Hid ((t :: (zAN l).take (j+1)).Nodup):=by
       show List.Nodup _
       rw [List.take_add_one,HNM.out]
       exact zBH.2 ⟨HND.out,HET.out,HNM2.out⟩
      clear hnm hb2 hbx2 hnb2
      go_wp2
      exact ⟨⟨j+1,by rw [HL.out];omega,by go_num,HGO.out,HND2.out,HB2.out,HBX2.out,HZ2.out⟩,by simp [intOf];omega⟩
  ·obtain rfl:i=n:=by omega
   rw [List.take_of_length_le (by rw [HL.out];omega)] at HOK
   rw [List.take_of_length_le (by unfold zAN;rw [List.length_map,HL.out];omega)] at HND
   have HP:Hid (MayP 2 ⟨1,t,u,o,m,[]⟩ l):=HIFF.out.2 ⟨by rw [HL.out];exact H16.out,HOK.out,HND.out⟩
   clear hok hnd hb hbx
   go_wp2
   go_ret
   exact ⟨zAq HP.out,HBR.out⟩
end Go.Proofs.YtgoklhoaedceaaaGreatDoor
