/- Texts of one proof. -/
import Derived.Test.YtekchkfjgofnkaaGreatDoorMy37
set_option maxRecDepth 100000
set_option maxHeartbeats 8000000
namespace Go.Proofs.YtekchkfjgofnkaaGreatDoor
open Go.RowKit
structure GrSt (w:World) (B g i:Nat) (vi:Int) (e:Int) (xs:List Rw) (wr:World):Prop where
 rows:∃ Ag cg zs,wr.ownsRow B 41 7 (.slice Ag i cg) i (rws zs)∧zs.map Rw.say=(xs.take i).map Rw.say∧(∀ z ∈ zs,wr.ownsRow B 95 3 (.slice z.A z.n z.c) z.n (dps z.l))∧wr.heap[g]? = some (.cells #[.int .i64 vi,.slice Ag i cg,.slice none 0 0,.int .i64 e] 48 (0,0))
 b:Below g w wr
 lt:B≤wr.heap.size
 gB:g<B
theorem zBq {o:Oper} {a:Act} {w:World} {K:Act→World→Prop} {Q:Exit→Act→World→Prop} (x y:Operand) (ho:o.op=.store 33 x y) (g:Nat) (c0 c1 c2 c3:Value) (A:Option Addr) (n c:Nat)
  (hx:a.eval x=.pointer (some ⟨g,1,none⟩)) (hy:a.eval y=.slice A n c) (hg:w.heap[g]? = some (.cells #[c0,c1,c2,c3] 48 (0,0)))
  (h:∀ w',w'.heap[g]? = some (.cells #[c0,.slice A n c,c2,c3] 48 (0,0))→w.grownBy w' (some g)→K (a.put o.dst undef) w'):o.wp Tryz.prog a w K Q:=by
 have hown:w.ownsRow 0 48 4 (.slice (some ⟨g,0,none⟩) 1 1) 1 [c0,c1,c2,c3]:=⟨rfl,.inr ⟨g,1,#[c0,c1,c2,c3],rfl,Nat.zero_le _,hg,Nat.le_refl _,by unfold maxLen;omega,rfl,rfl⟩⟩
 have hcell:w.cell? ⟨g,1,none⟩=some c1:=zAA (i:=1) hg rfl
 have hfr:w.frozen? ⟨g,1,none⟩=false:=hown.frozenAt 1
 unfold Oper.wp execOp
 simp only [ho,hx,hy]
 go_simp
 exact h _ (zAF hg 1 _) (hown.stored 1 _).2
theorem zNI (vi:Int) (xs:List Rw) (A E:Option Addr) (n c d:Nat) (G sz:Int) (hG:0≤G∧0≤sz∧G+sz≤1000000000) (es:List Value) (hn:n≤1000) (hok:∀ x ∈ xs,x.n≤1000000) (r:Rc) (xA:Option Addr) (xn xc:Nat) (l:List Dp) (hxn:xn≤1000000) (hxA:xA=none→xc=0) (hE:E=none→d=0) (hone:∀ u ∈ es,u.oneCell'=true) (w:World) (h:Recs w w.heap.size A n xs) (he:zAD w w.heap.size 1 E n es) (hr:zAD w w.heap.size 3 xA xn (dps l)) :
  Calls Tryz.prog 89 #[.agg #[.int .i64 vi,.slice A n c,.slice E n d,.int .i64 G],.agg #[.int .i64 r.kind,.string (tx r.target),.int .u64 r.rule,.slice xA xn xc,.int .u64 r.out,.int .u64 r.time,.string (tx r.tag)],.int .i64 sz] w fun e w' =>(∃ A' c' E' d' zs,e=.returned (.agg #[.int .i64 vi,.slice A' (n+1) c',.slice E' (n+1) d',.int .i64 (G+sz)])∧zs.map Rw.say=(xs++[(⟨r,xA,xn,xc,l⟩:Rw)]).map Rw.say∧zAj w' w.heap.size (n+1) (.slice A' (n+1) c') (.slice E' (n+1) d') zs (es++[.int .i64 (G+sz)]))∧Below w.heap.size w w':=by
 have z1:(w.alloc (.cells #[.int .i64 vi,.slice A n c,.slice E n d,.int .i64 G] 48)).heap.size=w.heap.size+1:=by simp
 have z2:((w.alloc (.cells #[.int .i64 vi,.slice A n c,.slice E n d,.int .i64 G] 48)).alloc (.cells #[.int .i64 r.kind,.string (tx r.target),.int .u64 r.rule,.slice xA xn xc,.int .u64 r.out,.int .u64 r.time,.string (tx r.tag)] 41)).heap.size=w.heap.size+2:=by simp
 have b1:Below w.heap.size w (w.alloc (.cells #[.int .i64 vi,.slice A n c,.slice E n d,.int .i64 G] 48)):=(Below.refl _ _).alloc (Nat.le_refl _) _
 have b2:Below w.heap.size w ((w.alloc (.cells #[.int .i64 vi,.slice A n c,.slice E n d,.int .i64 G] 48)).alloc (.cells #[.int .i64 r.kind,.string (tx r.target),.int .u64 r.rule,.slice xA xn xc,.int .u64 r.out,.int .u64 r.time,.string (tx r.tag)] 41)):=b1.alloc b1.size _
 have e2:=zAE (w.alloc (.cells #[.int .i64 vi,.slice A n c,.slice E n d,.int .i64 G] 48)) (.cells #[.int .i64 r.kind,.string (tx r.target),.int .u64 r.rule,.slice xA xn xc,.int .u64 r.out,.int .u64 r.time,.string (tx r.tag)] 41)
 rw [z1] at e2
 have e1:=(Below.heap_alloc (w.alloc (.cells #[.int .i64 vi,.slice A n c,.slice E n d,.int .i64 G] 48)) (.cells #[.int .i64 r.kind,.string (tx r.target),.int .u64 r.rule,.slice xA xn xc,.int .u64 r.out,.int .u64 r.time,.string (tx r.tag)] 41) w.heap.size (by rw [z1];omega)).trans (zAE w (.cells #[.int .i64 vi,.slice A n c,.slice E n d,.int .i64 G] 48))
 have f0:=zAA (i:=0) e1 rfl
 have f1:=zAA (i:=1) e1 rfl
 have f3:=zAA (i:=3) e1 rfl
 obtain ⟨ig,hig,hz0,hz1,hz2⟩:=info_parts (show (Tryz.prog.info? 41).map (fun i =>(i.zero,i.size,i.bytes))=some (some (.agg #[.int .i64 0,.string ⟨#[]⟩,.int .u64 0,.slice none 0 0,.int .u64 0,.int .u64 0,.string ⟨#[]⟩]),7,88) from by kernel_rfl)
 obtain ⟨w3,hw3⟩:∃ x,x=((w.alloc (.cells #[.int .i64 vi,.slice A n c,.slice E n d,.int .i64 G] 48)).alloc (.cells #[.int .i64 r.kind,.string (tx r.target),.int .u64 r.rule,.slice xA xn xc,.int .u64 r.out,.int .u64 r.time,.string (tx r.tag)] 41)).alloc (.cells #[.int .i64 0,.slice none 0 0,.slice none 0 0,.int .i64 0] 48):=⟨_,rfl⟩
 have z3:w3.heap.size=w.heap.size+3:=by rw [hw3];simp
 have hz3:=Below.heap_alloc ((w.alloc (.cells #[.int .i64 vi,.slice A n c,.slice E n d,.int .i64 G] 48)).alloc (.cells #[.int .i64 r.kind,.string (tx r.target),.int .u64 r.rule,.slice xA xn xc,.int .u64 r.out,.int .u64 r.time,.string (tx r.tag)] 41)) (.cells #[.int .i64 0,.slice none 0 0,.slice none 0 0,.int .i64 0] 48)
 have g1:w3.heap[w.heap.size]? = some (.cells #[.int .i64 vi,.slice A n c,.slice E n d,.int .i64 G] 48):=by rw [hw3];exact (hz3 _ (by rw [z2];omega)).trans e1
 have g2:w3.heap[w.heap.size+1]? = some (.cells #[.int .i64 r.kind,.string (tx r.target),.int .u64 r.rule,.slice xA xn xc,.int .u64 r.out,.int .u64 r.time,.string (tx r.tag)] 41):=by rw [hw3];exact (hz3 _ (by rw [z2];omega)).trans e2
 have g3:w3.heap[w.heap.size+1+1]? = some (.cells #[.int .i64 0,.slice none 0 0,.slice none 0 0,.int .i64 0] 48):=by
  rw [hw3];have q:=zAE ((w.alloc (.cells #[.int .i64 vi,.slice A n c,.slice E n d,.int .i64 G] 48)).alloc (.cells #[.int .i64 r.kind,.string (tx r.target),.int .u64 r.rule,.slice xA xn xc,.int .u64 r.out,.int .u64 r.time,.string (tx r.tag)] 41)) (.cells #[.int .i64 0,.slice none 0 0,.slice none 0 0,.int .i64 0] 48);rw [z2] at q;exact q
 have b3:Below w.heap.size w w3:=by rw [hw3];exact b2.alloc b2.size _
 obtain ⟨ii,hii,hj0,hj1,hj2⟩:=info_parts zIZ
 have hw64:wrap64 (G+sz)=G+sz:=by simp [wrap64];omega
 have HL:Hid (xs.length=n):=h.len
 have HR:=yh h
 have HE:=yh he
 have HRR:=yh hr
 have HOK:=yh hok
 have HW64:=yh hw64
 have HW3:=yh hw3
 have HZ3:=yh z3
 have HG1:=yh g1
 have HG2:=yh g2
 have HG3:=yh g3
 have HB3:=yh b3
 have HST:Hid (GrSt w3 (w.heap.size+4) (w.heap.size+1+1+1) 0 vi (G+sz) xs (w3.alloc (.cells #[.int .i64 vi,.slice none 0 0,.slice none 0 0,.int .i64 (G+sz)] 48))):=by
  refine ⟨⟨none,0,[],World.ownsRow_nil _ _ _ _,by simp,by simp,?_⟩,?_,by simp [z3],by omega⟩
  ·have q:=zAE w3 (.cells #[.int .i64 vi,.slice none 0 0,.slice none 0 0,.int .i64 (G+sz)] 48)
   rw [z3] at q
   exact q
  ·rw [← z3];exact (Below.refl _ _).alloc (Nat.le_refl _) _
 clear h hok hr he hw64 hw3 z3 g1 g2 g3 b3 hz3 z1 z2 b1 b2 e1 e2
 go_enter Tryz.func89,Tryz.ntmps89
 go_wp2
 rw [← HW3.out]
 clear f0 f1 f3
 go_loopw [22] (fun v22 wr =>∃ (i:Nat),i≤n∧v22=.int .i64 (i:Int)∧GrSt w3 (w.heap.size+4) (w.heap.size+1+1+1) i vi (G+sz) xs wr) (fun v22 _ =>n - (intOf v22).toNat)
 case atStart =>exact ⟨0,Nat.zero_le _,rfl,HST.out⟩
 case round =>
  obtain ⟨i,hin,rfl,hst⟩:=hrel
  have HST:=yh hst
  have HBW:Hid (Below w.heap.size w wr):=HB3.out.trans (hst.b.mono (by omega))
  clear hst
  by_cases hlt:i<n
  ·obtain ⟨x,hx⟩:∃ x,xs[i]? = some x:=⟨_,List.getElem?_eq_getElem (by rw [HL.out];exact hlt)⟩
   have hxm:=List.mem_of_getElem? hx
   have hxn:=HOK.out x hxm
   obtain ⟨ad,rfl,_,c0,c1,c2,c3,c4,c5,c6⟩:=zBX (HR.out.below HBW.out).1 i x hx
   obtain ⟨hrd0,hxA0⟩:=HR.out.2 x hxm
   have HXI:=yh hx
   have hix0:(0:Int)≤(i:Int):=by omega
   have hix1:(i:Int)<(n:Int):=by omega
   have HI:Hid (i<n):=hlt
   obtain ⟨q,qA,qn,qc,ql⟩:=x
   simp only at c0 c1 c2 c3 c4 c5 c6 hxn hrd0 hxA0
   have HRD:=yh hrd0
   have HXA:=yh hxA0
   have HXN:=yh hxn
   clear hx hxm hxn hrd0 hxA0
   obtain ⟨Ag,cg,zs,ho,hzs,hz,hg⟩:=HST.out.rows
   have hd:Below wr.heap.size wr (wr.alloc (.cells #[.int .i64 q.kind,.string (tx q.target),.int .u64 q.rule,.slice qA qn qc,.int .u64 q.out,.int .u64 q.time,.string (tx q.tag)] 41)).drew:=((Below.refl _ wr).alloc (Nat.le_refl _) _).drew
   have hlt1:wr.heap.size<(wr.alloc (.cells #[.int .i64 q.kind,.string (tx q.target),.int .u64 q.rule,.slice qA qn qc,.int .u64 q.out,.int .u64 q.time,.string (tx q.tag)] 41)).drew.heap.size:=by simp [World.drew]
   have HX:Hid ((wr.alloc (.cells #[.int .i64 q.kind,.string (tx q.target),.int .u64 q.rule,.slice qA qn qc,.int .u64 q.out,.int .u64 q.time,.string (tx q.tag)] 41)).drew.heap[wr.heap.size]? = some (.cells #[.int .i64 q.kind,.string (tx q.target),.int .u64 q.rule,.slice qA qn qc,.int .u64 q.out,.int .u64 q.time,.string (tx q.tag)] 41)):=zAE wr (.cells #[.int .i64 q.kind,.string (tx q.target),.int .u64 q.rule,.slice qA qn qc,.int .u64 q.out,.int .u64 q.time,.string (tx q.tag)] 41)
   have HGB:Hid ((wr.alloc (.cells #[.int .i64 q.kind,.string (tx q.target),.int .u64 q.rule,.slice qA qn qc,.int .u64 q.out,.int .u64 q.time,.string (tx q.tag)] 41)).drew.heap[w.heap.size+1+1+1]? = some (.cells #[.int .i64 vi,.slice Ag i cg,.slice none 0 0,.int .i64 (G+sz)] 48 (0,0))):=(hd.block _ (by have:=HST.out.lt;omega)).trans hg
   have HO:=yh (zAK ho hd)
   have HZ:Hid (∀ z ∈ zs,(wr.alloc (.cells #[.int .i64 q.kind,.string (tx q.target),.int .u64 q.rule,.slice qA qn qc,.int .u64 q.out,.int .u64 q.time,.string (tx q.tag)] 41)).drew.ownsRow (w.heap.size+4) 95 3 (.slice z.A z.n z.c) z.n (dps z.l)):=fun z hz2 =>zAK (hz z hz2) hd
   have HB:=yh (HST.out.b.trans (hd.mono (by have:=HST.out.lt;omega)))
   have HLT:=yh HST.out.lt
   have HLO:Hid (∀ g,(Value.slice Ag i cg).ownBlock=some g→g<wr.heap.size):=zAP ho
   have HSY:=yh hzs
   have HRDq:=yh ((HRD.out.below (HBW.out.trans (hd.mono HBW.out.size))).more (by have:=HBW.out.size;omega:w.heap.size≤(wr.alloc (.cells #[.int .i64 q.kind,.string (tx q.target),.int .u64 q.rule,.slice qA qn qc,.int .u64 q.out,.int .u64 q.time,.string (tx q.tag)] 41)).drew.heap.size))
   go_wp2
   refine wp_region_held (S:=fun v =>v.heap[wr.heap.size]? = some (.cells #[.int .i64 q.kind,.string (tx q.target),.int .u64 q.rule,.slice qA qn qc,.int .u64 q.out,.int .u64 q.time,.string (tx q.tag)] 41)) (by kernel_rfl) (show wpAnyH _ _ _ _ _ _ _ _ ((wr.alloc (.cells #[.int .i64 q.kind,.string (tx q.target),.int .u64 q.rule,.slice qA qn qc,.int .u64 q.out,.int .u64 q.time,.string (tx q.tag)] 41)).drew) from ?_)
   generalize (wr.alloc (.cells #[.int .i64 q.kind,.string (tx q.target),.int .u64 q.rule,.slice qA qn qc,.int .u64 q.out,.int .u64 q.time,.string (tx q.tag)] 41)).drew=wq at *
   generalize hbx:wr.heap.size=bx at *
   have HBX:Hid (bx<wq.heap.size):=hlt1
   clear ho hz hg hd hlt1 hzs
   refine zAB 0 (.pointer (some ⟨w.heap.size+1+1+1,1,none⟩)) rfl (by kernel_rfl) (by kernel_rfl) (by kernel_rfl) (fun _ _ _ h =>h) (by kernel_rfl) HX.out (fun _ _ =>by kernel_rfl) ?_
   refine zAB 2 (.agg #[.int .i64 q.kind,.string (tx q.target),.int .u64 q.rule,.slice qA qn qc,.int .u64 q.out,.int .u64 q.time,.string (tx q.tag)]) rfl (by kernel_rfl) (by kernel_rfl) (by kernel_rfl) (fun _ _ _ h =>h) (by kernel_rfl) HX.out (by intro v hv;have k0:=zAA (i:=0) hv rfl;have k1:=zAA (i:=1) hv rfl;have k2:=zAA (i:=2) hv rfl;have k3:=zAA (i:=3) hv rfl;have k4:=zAA (i:=4) hv rfl;have k5:=zAA (i:=5) hv rfl;have k6:=zAA (i:=6) hv rfl;go_simp) ?_
   refine zCq 1 3 rfl rfl (by kernel_rfl) (by kernel_rfl) (by kernel_rfl) (fun K hK =>?_) (fun K hK =>?_)
   ·have k1:=zAA (i:=1) HGB.out rfl
    go_simp
    refine hK _ _ HX.out ?_
    clear hK K k1
    refine zAO 3 rfl (by kernel_rfl) (by kernel_rfl) (fun K hK =>?_)
    go_simp
    have hcl:=zCN q qA qn qc ql HXA.out HXN.out wq HRDq.out
    unfold rcv rsv at hcl
    refine hcl.mono ?_
    rintro e wc ⟨A6,c6,rfl,hd6,hbc⟩
    replace HX:=yh ((hbc.block bx HBX.out).trans HX.out)
    replace HGB:=yh ((hbc.block _ (by have:=HLT.out;have:=HBX.out;omega)).trans HGB.out)
    replace HO:=yh (zAK HO.out hbc)
    replace HZ:Hid (∀ z ∈ zs,wc.ownsRow (w.heap.size+4) 95 3 (.slice z.A z.n z.c) z.n (dps z.l)):=fun z hz =>zAK (HZ.out z hz) hbc
    replace HB:=yh (HB.out.trans (hbc.mono (by have:=HLT.out;have:=HBX.out;omega)))
    have HD6:=yh hd6
    have HSZ:Hid (wq.heap.size≤wc.heap.size):=hbc.size
    refine hK _ _ HX.out ?_
    clear hK K hcl hd6 hbc
    refine zAO 4 rfl (by kernel_rfl) (by kernel_rfl) (fun K hK =>?_)
    go_simp
    have hal:Below wc.heap.size wc (wc.alloc (.cells #[.int .i64 q.kind,.string (tx q.target),.int .u64 q.rule,.slice A6 qn c6,.int .u64 q.out,.int .u64 q.time,.string (tx q.tag)] 41)):=(Below.refl _ wc).alloc (Nat.le_refl _) _
    have hnew:=zCZ wc ⟨q,A6,qn,c6,ql⟩
    replace HX:=yh ((hal.block bx (by have:=HBX.out;have:=HSZ.out;omega)).trans HX.out)
    replace HGB:=yh ((hal.block _ (by have:=HLT.out;have:=HBX.out;have:=HSZ.out;omega)).trans HGB.out)
    replace HO:=yh (zAK HO.out hal)
    replace HZ:Hid (∀ z ∈ zs,(wc.alloc (.cells #[.int .i64 q.kind,.string (tx q.target),.int .u64 q.rule,.slice A6 qn c6,.int .u64 q.out,.int .u64 q.time,.string (tx q.tag)] 41)).ownsRow (w.heap.size+4) 95 3 (.slice z.A z.n z.c) z.n (dps z.l)):=fun z hz =>zAK (HZ.out z hz) hal
    replace HB:=yh (HB.out.trans (hal.mono (by have:=HLT.out;have:=HBX.out;have:=HSZ.out;omega)))
    replace HD6:Hid (Deps (wc.alloc (.cells #[.int .i64 q.kind,.string (tx q.target),.int .u64 q.rule,.slice A6 qn c6,.int .u64 q.out,.int .u64 q.time,.string (tx q.tag)] 41)) wq.heap.size A6 qn c6 ql):=zCM HD6.out _
    have HNW:=yh hnew
    refine hK _ _ HX.out ?_
    clear hK K hal hnew
    have hsz1:(wc.alloc (.cells #[.int .i64 q.kind,.string (tx q.target),.int .u64 q.rule,.slice A6 qn c6,.int .u64 q.out,.int .u64 q.time,.string (tx q.tag)] 41)).heap.size=wc.heap.size+1:=by simp
    generalize (wc.alloc (.cells #[.int .i64 q.kind,.string (tx q.target),.int .u64 q.rule,.slice A6 qn c6,.int .u64 q.out,.int .u64 q.time,.string (tx q.tag)] 41))=wd at *
    have hA1:=HLT.out
    have hA2:=HBX.out
    have hA3:=HSZ.out
    refine zAO 5 rfl (by kernel_rfl) (by kernel_rfl) (fun K hK =>?_)
    refine zAk (.tmp 27) (.tmp 30) 33 rfl (w.heap.size+4) 41 ig _ 7 88 Tryz.underlying33 hig hz0 hz1 hz2 rfl (by decide) (.slice Ag i cg) i (rws zs) rfl HO.out (some ⟨wc.heap.size,0,none⟩) 1 1 (wc.heap.size+1) (rws [⟨q,A6,qn,c6,ql⟩]) rfl (by intro h;cases h) HNW.out (zDZ _) (by unfold maxLen;omega) (by omega) (by omega) ?_
    intro v9 w9 ho9 hg9 _
    obtain ⟨A9,c9,rfl,_⟩:=zAL ho9
    rw [← zCH] at ho9
    have hs9:=hg9.size
    replace HX:=yh ((hg9.block bx (by omega) (fun e =>by have:=HLO.out _ e.symm;omega)).trans HX.out)
    replace HGB:=yh ((hg9.block _ (by omega) (fun e =>by have:=zAG HO.out _ e.symm;omega)).trans HGB.out)
    replace HZ:Hid (∀ z ∈ zs,w9.ownsRow (w.heap.size+4) 95 3 (.slice z.A z.n z.c) z.n (dps z.l)):=fun z hz =>zBL (HZ.out z hz) (zBE HO.out (HZ.out z hz) (by decide)) hg9
    replace HD6:=yh (zAT (zBt HD6.out HO.out hg9).1 (by omega:w.heap.size+4≤wq.heap.size))
    replace HB:=yh (HB.out.grown hg9 (by omega) (fun j hj =>by have:=zAG HO.out j hj;omega))
    refine hK _ _ HX.out ?_
    clear hK K
    refine zAB 6 (.pointer (some ⟨w.heap.size+1+1+1,1,none⟩)) rfl (by kernel_rfl) (by kernel_rfl) (by kernel_rfl) (fun _ _ _ h =>h) (by kernel_rfl) HX.out (fun _ _ =>by kernel_rfl) ?_
    refine zAO 7 rfl (by kernel_rfl) (by kernel_rfl) (fun K hK =>?_)
    refine zBq (.tmp 32) (.tmp 31) rfl (w.heap.size+1+1+1) _ _ _ _ A9 (i+1) c9 rfl rfl HGB.out ?_
    intro w10 hh10 hg10
    have hs10:=hg10.size
    refine hK _ _ ((hg10.block bx (by omega) (fun e =>by have:=Option.some.inj e;omega)).trans HX.out) ?_
    clear hK K
    have HGN:Hid (GrSt w3 (w.heap.size+4) (w.heap.size+1+1+1) (i+1) vi (G+sz) xs w10):=by
     have hkp:∀ {e:TypeId} {s m:Nat} {v:Value} {ys:List Value},w9.ownsRow (w.heap.size+4) e s v m ys→w10.ownsRow (w.heap.size+4) e s v m ys:=fun ho =>zAR ho (fun k hk =>hg10.block k (zAP ho k hk) (fun e =>by have:=zAG ho k hk;have:=Option.some.inj e;omega))
     refine ⟨⟨A9,c9,zs++[⟨q,A6,qn,c6,ql⟩],hkp ho9,?_,fun z hz =>?_,hh10⟩,HB.out.grown hg10 (by omega) (fun j hj =>by have:=Option.some.inj hj;omega),by omega,by omega⟩
     ·rw [List.take_add_one,HXI.out,List.map_append,List.map_append,HSY.out];rfl
     ·rcases List.mem_append.1 hz with hz | hz
      ·exact hkp (HZ.out z hz)
      ·obtain rfl:=List.mem_singleton.1 hz
       exact hkp HD6.out
    clear hh10 hg10 ho9 hg9 HX HGB HO HZ HD6 HB HNW
    refine wpAnyH_done (by kernel_rfl) ?_ _
    go_simp
    go_wp2
    exact ⟨⟨i+1,by have:=HI.out;omega,by go_num,HGN.out⟩,by simp [intOf];have:=HI.out;omega⟩
   ·go_simp
    have hcl:=zCN q qA qn qc ql HXA.out HXN.out wq HRDq.out
    unfold rcv rsv at hcl
    refine hcl.mono ?_
    rintro e wc ⟨A6,c6,rfl,hd6,hbc⟩
    replace HX:=yh ((hbc.block bx HBX.out).trans HX.out)
    replace HGB:=yh ((hbc.block _ (by have:=HLT.out;have:=HBX.out;omega)).trans HGB.out)
    replace HO:=yh (zAK HO.out hbc)
    replace HZ:Hid (∀ z ∈ zs,wc.ownsRow (w.heap.size+4) 95 3 (.slice z.A z.n z.c) z.n (dps z.l)):=fun z hz =>zAK (HZ.out z hz) hbc
    replace HB:=yh (HB.out.trans (hbc.mono (by have:=HLT.out;have:=HBX.out;omega)))
    have HD6:=yh hd6
    have HSZ:Hid (wq.heap.size≤wc.heap.size):=hbc.size
    refine hK _ _ HX.out ?_
    clear hK K hcl hd6 hbc
    refine zCq 1 4 rfl rfl (by kernel_rfl) (by kernel_rfl) (by kernel_rfl) (fun K hK =>?_) (fun K hK =>?_)
    ·have k1:=zAA (i:=1) HGB.out rfl
     go_simp
     refine hK _ _ HX.out ?_
     clear hK K k1
     refine zAO 4 rfl (by kernel_rfl) (by kernel_rfl) (fun K hK =>?_)
     go_simp
     have hal:Below wc.heap.size wc (wc.alloc (.cells #[.int .i64 q.kind,.string (tx q.target),.int .u64 q.rule,.slice A6 qn c6,.int .u64 q.out,.int .u64 q.time,.string (tx q.tag)] 41)):=(Below.refl _ wc).alloc (Nat.le_refl _) _
     have hnew:=zCZ wc ⟨q,A6,qn,c6,ql⟩
     replace HX:=yh ((hal.block bx (by have:=HBX.out;have:=HSZ.out;omega)).trans HX.out)
     replace HGB:=yh ((hal.block _ (by have:=HLT.out;have:=HBX.out;have:=HSZ.out;omega)).trans HGB.out)
     replace HO:=yh (zAK HO.out hal)
     replace HZ:Hid (∀ z ∈ zs,(wc.alloc (.cells #[.int .i64 q.kind,.string (tx q.target),.int .u64 q.rule,.slice A6 qn c6,.int .u64 q.out,.int .u64 q.time,.string (tx q.tag)] 41)).ownsRow (w.heap.size+4) 95 3 (.slice z.A z.n z.c) z.n (dps z.l)):=fun z hz =>zAK (HZ.out z hz) hal
     replace HB:=yh (HB.out.trans (hal.mono (by have:=HLT.out;have:=HBX.out;have:=HSZ.out;omega)))
     replace HD6:Hid (Deps (wc.alloc (.cells #[.int .i64 q.kind,.string (tx q.target),.int .u64 q.rule,.slice A6 qn c6,.int .u64 q.out,.int .u64 q.time,.string (tx q.tag)] 41)) wq.heap.size A6 qn c6 ql):=zCM HD6.out _
     have HNW:=yh hnew
     refine hK _ _ HX.out ?_
     clear hK K hal hnew
     have hsz1:(wc.alloc (.cells #[.int .i64 q.kind,.string (tx q.target),.int .u64 q.rule,.slice A6 qn c6,.int .u64 q.out,.int .u64 q.time,.string (tx q.tag)] 41)).heap.size=wc.heap.size+1:=by simp
     generalize (wc.alloc (.cells #[.int .i64 q.kind,.string (tx q.target),.int .u64 q.rule,.slice A6 qn c6,.int .u64 q.out,.int .u64 q.time,.string (tx q.tag)] 41))=wd at *
     have hA1:=HLT.out
     have hA2:=HBX.out
     have hA3:=HSZ.out
     refine zAO 5 rfl (by kernel_rfl) (by kernel_rfl) (fun K hK =>?_)
     refine zAk (.tmp 27) (.tmp 30) 33 rfl (w.heap.size+4) 41 ig _ 7 88 Tryz.underlying33 hig hz0 hz1 hz2 rfl (by decide) (.slice Ag i cg) i (rws zs) rfl HO.out (some ⟨wc.heap.size,0,none⟩) 1 1 (wc.heap.size+1) (rws [⟨q,A6,qn,c6,ql⟩]) rfl (by intro h;cases h) HNW.out (zDZ _) (by unfold maxLen;omega) (by omega) (by omega) ?_
     intro v9 w9 ho9 hg9 _
     obtain ⟨A9,c9,rfl,_⟩:=zAL ho9
     rw [← zCH] at ho9
     have hs9:=hg9.size
     replace HX:=yh ((hg9.block bx (by omega) (fun e =>by have:=HLO.out _ e.symm;omega)).trans HX.out)
     replace HGB:=yh ((hg9.block _ (by omega) (fun e =>by have:=zAG HO.out _ e.symm;omega)).trans HGB.out)
     replace HZ:Hid (∀ z ∈ zs,w9.ownsRow (w.heap.size+4) 95 3 (.slice z.A z.n z.c) z.n (dps z.l)):=fun z hz =>zBL (HZ.out z hz) (zBE HO.out (HZ.out z hz) (by decide)) hg9
     replace HD6:=yh (zAT (zBt HD6.out HO.out hg9).1 (by omega:w.heap.size+4≤wq.heap.size))
     replace HB:=yh (HB.out.grown hg9 (by omega) (fun j hj =>by have:=zAG HO.out j hj;omega))
     refine hK _ _ HX.out ?_
     clear hK K
     refine zAB 6 (.pointer (some ⟨w.heap.size+1+1+1,1,none⟩)) rfl (by kernel_rfl) (by kernel_rfl) (by kernel_rfl) (fun _ _ _ h =>h) (by kernel_rfl) HX.out (fun _ _ =>by kernel_rfl) ?_
     refine zAO 7 rfl (by kernel_rfl) (by kernel_rfl) (fun K hK =>?_)
     refine zBq (.tmp 32) (.tmp 31) rfl (w.heap.size+1+1+1) _ _ _ _ A9 (i+1) c9 rfl rfl HGB.out ?_
     intro w10 hh10 hg10
     have hs10:=hg10.size
     refine hK _ _ ((hg10.block bx (by omega) (fun e =>by have:=Option.some.inj e;omega)).trans HX.out) ?_
     clear hK K
     have HGN:Hid (GrSt w3 (w.heap.size+4) (w.heap.size+1+1+1) (i+1) vi (G+sz) xs w10):=by
      have hkp:∀ {e:TypeId} {s m:Nat} {v:Value} {ys:List Value},w9.ownsRow (w.heap.size+4) e s v m ys→w10.ownsRow (w.heap.size+4) e s v m ys:=fun ho =>zAR ho (fun k hk =>hg10.block k (zAP ho k hk) (fun e =>by have:=zAG ho k hk;have:=Option.some.inj e;omega))
      refine ⟨⟨A9,c9,zs++[⟨q,A6,qn,c6,ql⟩],hkp ho9,?_,fun z hz =>?_,hh10⟩,HB.out.grown hg10 (by omega) (fun j hj =>by have:=Option.some.inj hj;omega),by omega,by omega⟩
      ·rw [List.take_add_one,HXI.out,List.map_append,List.map_append,HSY.out];rfl
      ·rcases List.mem_append.1 hz with hz | hz
       ·exact hkp (HZ.out z hz)
       ·obtain rfl:=List.mem_singleton.1 hz
        exact hkp HD6.out
     clear hh10 hg10 ho9 hg9 HX HGB HO HZ HD6 HB HNW
     refine wpAnyH_done (by kernel_rfl) ?_ _
     go_simp
     go_wp2
     exact ⟨⟨i+1,by have:=HI.out;omega,by go_num,HGN.out⟩,by simp [intOf];have:=HI.out;omega⟩
    ·go_simp
     have hal:Below wc.heap.size wc (wc.alloc (.cells #[.int .i64 q.kind,.string (tx q.target),.int .u64 q.rule,.slice A6 qn c6,.int .u64 q.out,.int .u64 q.time,.string (tx q.tag)] 41)):=(Below.refl _ wc).alloc (Nat.le_refl _) _
     have hnew:=zCZ wc ⟨q,A6,qn,c6,ql⟩
     replace HX:=yh ((hal.block bx (by have:=HBX.out;have:=HSZ.out;omega)).trans HX.out)
     replace HGB:=yh ((hal.block _ (by have:=HLT.out;have:=HBX.out;have:=HSZ.out;omega)).trans HGB.out)
     replace HO:=yh (zAK HO.out hal)
     replace HZ:Hid (∀ z ∈ zs,(wc.alloc (.cells #[.int .i64 q.kind,.string (tx q.target),.int .u64 q.rule,.slice A6 qn c6,.int .u64 q.out,.int .u64 q.time,.string (tx q.tag)] 41)).ownsRow (w.heap.size+4) 95 3 (.slice z.A z.n z.c) z.n (dps z.l)):=fun z hz =>zAK (HZ.out z hz) hal
     replace HB:=yh (HB.out.trans (hal.mono (by have:=HLT.out;have:=HBX.out;have:=HSZ.out;omega)))
     replace HD6:Hid (Deps (wc.alloc (.cells #[.int .i64 q.kind,.string (tx q.target),.int .u64 q.rule,.slice A6 qn c6,.int .u64 q.out,.int .u64 q.time,.string (tx q.tag)] 41)) wq.heap.size A6 qn c6 ql):=zCM HD6.out _
     have HNW:=yh hnew
     refine hK _ _ HX.out ?_
     clear hK K hal hnew
     refine zAO 1 rfl (by kernel_rfl) (by kernel_rfl) (fun K hK =>?_)
     have k1:=zAA (i:=1) HGB.out rfl
     go_simp
     refine hK _ _ HX.out ?_
     clear hK K k1
     have hsz1:(wc.alloc (.cells #[.int .i64 q.kind,.string (tx q.target),.int .u64 q.rule,.slice A6 qn c6,.int .u64 q.out,.int .u64 q.time,.string (tx q.tag)] 41)).heap.size=wc.heap.size+1:=by simp
     generalize (wc.alloc (.cells #[.int .i64 q.kind,.string (tx q.target),.int .u64 q.rule,.slice A6 qn c6,.int .u64 q.out,.int .u64 q.time,.string (tx q.tag)] 41))=wd at *
     have hA1:=HLT.out
     have hA2:=HBX.out
     have hA3:=HSZ.out
     refine zAO 5 rfl (by kernel_rfl) (by kernel_rfl) (fun K hK =>?_)
     refine zAk (.tmp 27) (.tmp 30) 33 rfl (w.heap.size+4) 41 ig _ 7 88 Tryz.underlying33 hig hz0 hz1 hz2 rfl (by decide) (.slice Ag i cg) i (rws zs) rfl HO.out (some ⟨wc.heap.size,0,none⟩) 1 1 (wc.heap.size+1) (rws [⟨q,A6,qn,c6,ql⟩]) rfl (by intro h;cases h) HNW.out (zDZ _) (by unfold maxLen;omega) (by omega) (by omega) ?_
     intro v9 w9 ho9 hg9 _
     obtain ⟨A9,c9,rfl,_⟩:=zAL ho9
     rw [← zCH] at ho9
     have hs9:=hg9.size
     replace HX:=yh ((hg9.block bx (by omega) (fun e =>by have:=HLO.out _ e.symm;omega)).trans HX.out)
     replace HGB:=yh ((hg9.block _ (by omega) (fun e =>by have:=zAG HO.out _ e.symm;omega)).trans HGB.out)
     replace HZ:Hid (∀ z ∈ zs,w9.ownsRow (w.heap.size+4) 95 3 (.slice z.A z.n z.c) z.n (dps z.l)):=fun z hz =>zBL (HZ.out z hz) (zBE HO.out (HZ.out z hz) (by decide)) hg9
     replace HD6:=yh (zAT (zBt HD6.out HO.out hg9).1 (by omega:w.heap.size+4≤wq.heap.size))
     replace HB:=yh (HB.out.grown hg9 (by omega) (fun j hj =>by have:=zAG HO.out j hj;omega))
     refine hK _ _ HX.out ?_
     clear hK K
     refine zAB 6 (.pointer (some ⟨w.heap.size+1+1+1,1,none⟩)) rfl (by kernel_rfl) (by kernel_rfl) (by kernel_rfl) (fun _ _ _ h =>h) (by kernel_rfl) HX.out (fun _ _ =>by kernel_rfl) ?_
     refine zAO 7 rfl (by kernel_rfl) (by kernel_rfl) (fun K hK =>?_)
     refine zBq (.tmp 32) (.tmp 31) rfl (w.heap.size+1+1+1) _ _ _ _ A9 (i+1) c9 rfl rfl HGB.out ?_
     intro w10 hh10 hg10
     have hs10:=hg10.size
     refine hK _ _ ((hg10.block bx (by omega) (fun e =>by have:=Option.some.inj e;omega)).trans HX.out) ?_
     clear hK K
     have HGN:Hid (GrSt w3 (w.heap.size+4) (w.heap.size+1+1+1) (i+1) vi (G+sz) xs w10):=by
      have hkp:∀ {e:TypeId} {s m:Nat} {v:Value} {ys:List Value},w9.ownsRow (w.heap.size+4) e s v m ys→w10.ownsRow (w.heap.size+4) e s v m ys:=fun ho =>zAR ho (fun k hk =>hg10.block k (zAP ho k hk) (fun e =>by have:=zAG ho k hk;have:=Option.some.inj e;omega))
      refine ⟨⟨A9,c9,zs++[⟨q,A6,qn,c6,ql⟩],hkp ho9,?_,fun z hz =>?_,hh10⟩,HB.out.grown hg10 (by omega) (fun j hj =>by have:=Option.some.inj hj;omega),by omega,by omega⟩
      ·rw [List.take_add_one,HXI.out,List.map_append,List.map_append,HSY.out];rfl
      ·rcases List.mem_append.1 hz with hz | hz
       ·exact hkp (HZ.out z hz)
       ·obtain rfl:=List.mem_singleton.1 hz
        exact hkp HD6.out
     clear hh10 hg10 ho9 hg9 HX HGB HO HZ HD6 HB HNW
     refine wpAnyH_done (by kernel_rfl) ?_ _
     go_simp
     go_wp2
     exact ⟨⟨i+1,by have:=HI.out;omega,by go_num,HGN.out⟩,by simp [intOf];have:=HI.out;omega⟩
  ·obtain rfl:n=i:=by omega
   obtain ⟨Ag,cg,zs,ho,hzs,hz,hg⟩:=HST.out.rows
   have hd:Below wr.heap.size wr wr.drew:=(Below.refl _ wr).drew
   have hsz0:w.heap.size+1<w3.heap.size:=by have:=HZ3.out;omega
   have hrx:=(HST.out.b.block (w.heap.size+1) (by omega)).trans HG2.out
   have HX:Hid (wr.drew.heap[w.heap.size+1]? = some (.cells #[.int .i64 r.kind,.string (tx r.target),.int .u64 r.rule,.slice xA xn xc,.int .u64 r.out,.int .u64 r.time,.string (tx r.tag)] 41)):=hrx
   have HGB:Hid (wr.drew.heap[w.heap.size+1+1+1]? = some (.cells #[.int .i64 vi,.slice Ag n cg,.slice none 0 0,.int .i64 (G+sz)] 48 (0,0))):=hg
   have HO:=yh (zAK ho hd)
   have HZ:Hid (∀ z ∈ zs,wr.drew.ownsRow (w.heap.size+4) 95 3 (.slice z.A z.n z.c) z.n (dps z.l)):=fun z hz2 =>zAK (hz z hz2) hd
   have HB:=yh (HST.out.b.trans (hd.mono (by have:=HST.out.lt;omega)))
   have HLT:Hid (w.heap.size+4≤wr.drew.heap.size):=HST.out.lt
   have HSY:=yh hzs
   have HRDq:=yh ((HRR.out.below (HBW.out.trans (hd.mono HBW.out.size))).more (by have:=HBW.out.size;exact this:w.heap.size≤wr.drew.heap.size))
   go_wp2
   refine wp_region_held (S:=fun v =>v.heap[w.heap.size+1]? = some (.cells #[.int .i64 r.kind,.string (tx r.target),.int .u64 r.rule,.slice xA xn xc,.int .u64 r.out,.int .u64 r.time,.string (tx r.tag)] 41)) (by kernel_rfl) (show wpAnyH _ _ _ _ _ _ _ _ (wr.drew) from ?_)
   generalize wr.drew=wq at *
   have HBX:Hid (w.heap.size+1<wq.heap.size):=(by have:=HLT.out;show _<_;omega)
   clear ho hz hg hd hzs hrx hsz0
   refine zAB 0 (.pointer (some ⟨w.heap.size+1+1+1,1,none⟩)) rfl (by kernel_rfl) (by kernel_rfl) (by kernel_rfl) (fun _ _ _ h =>h) (by kernel_rfl) HX.out (fun _ _ =>by kernel_rfl) ?_
   refine zAB 2 (.agg #[.int .i64 r.kind,.string (tx r.target),.int .u64 r.rule,.slice xA xn xc,.int .u64 r.out,.int .u64 r.time,.string (tx r.tag)]) rfl (by kernel_rfl) (by kernel_rfl) (by kernel_rfl) (fun _ _ _ h =>h) (by kernel_rfl) HX.out (by intro v hv;have k0:=zAA (i:=0) hv rfl;have k1:=zAA (i:=1) hv rfl;have k2:=zAA (i:=2) hv rfl;have k3:=zAA (i:=3) hv rfl;have k4:=zAA (i:=4) hv rfl;have k5:=zAA (i:=5) hv rfl;have k6:=zAA (i:=6) hv rfl;go_simp) ?_
   refine zCq 1 3 rfl rfl (by kernel_rfl) (by kernel_rfl) (by kernel_rfl) (fun K hK =>?_) (fun K hK =>?_)
   ·have k1:=zAA (i:=1) HGB.out rfl
    go_simp
    refine hK _ _ HX.out ?_
    clear hK K k1
    refine zAO 3 rfl (by kernel_rfl) (by kernel_rfl) (fun K hK =>?_)
    go_simp
    have hcl:=zCN r xA xn xc l hxA hxn wq HRDq.out
    unfold rcv rsv at hcl
    refine hcl.mono ?_
    rintro e wc ⟨A6,c6,rfl,hd6,hbc⟩
    replace HX:=yh ((hbc.block (w.heap.size+1) HBX.out).trans HX.out)
    replace HGB:=yh ((hbc.block _ (by have:=HLT.out;have:=HBX.out;omega)).trans HGB.out)
    replace HO:=yh (zAK HO.out hbc)
    replace HZ:Hid (∀ z ∈ zs,wc.ownsRow (w.heap.size+4) 95 3 (.slice z.A z.n z.c) z.n (dps z.l)):=fun z hz =>zAK (HZ.out z hz) hbc
    replace HB:=yh (HB.out.trans (hbc.mono (by have:=HLT.out;have:=HBX.out;omega)))
    have HD6:=yh hd6
    have HSZ:Hid (wq.heap.size≤wc.heap.size):=hbc.size
    refine hK _ _ HX.out ?_
    clear hK K hcl hd6 hbc
    refine zAO 4 rfl (by kernel_rfl) (by kernel_rfl) (fun K hK =>?_)
    go_simp
    have hal:Below wc.heap.size wc (wc.alloc (.cells #[.int .i64 r.kind,.string (tx r.target),.int .u64 r.rule,.slice A6 xn c6,.int .u64 r.out,.int .u64 r.time,.string (tx r.tag)] 41)):=(Below.refl _ wc).alloc (Nat.le_refl _) _
    have hnew:=zCZ wc ⟨r,A6,xn,c6,l⟩
    replace HX:=yh ((hal.block (w.heap.size+1) (by have:=HBX.out;have:=HSZ.out;omega)).trans HX.out)
    replace HGB:=yh ((hal.block _ (by have:=HLT.out;have:=HBX.out;have:=HSZ.out;omega)).trans HGB.out)
    replace HO:=yh (zAK HO.out hal)
    replace HZ:Hid (∀ z ∈ zs,(wc.alloc (.cells #[.int .i64 r.kind,.string (tx r.target),.int .u64 r.rule,.slice A6 xn c6,.int .u64 r.out,.int .u64 r.time,.string (tx r.tag)] 41)).ownsRow (w.heap.size+4) 95 3 (.slice z.A z.n z.c) z.n (dps z.l)):=fun z hz =>zAK (HZ.out z hz) hal
    replace HB:=yh (HB.out.trans (hal.mono (by have:=HLT.out;have:=HBX.out;have:=HSZ.out;omega)))
    replace HD6:Hid (Deps (wc.alloc (.cells #[.int .i64 r.kind,.string (tx r.target),.int .u64 r.rule,.slice A6 xn c6,.int .u64 r.out,.int .u64 r.time,.string (tx r.tag)] 41)) wq.heap.size A6 xn c6 l):=zCM HD6.out _
    have HNW:=yh hnew
    refine hK _ _ HX.out ?_
    clear hK K hal hnew
    have hsz1:(wc.alloc (.cells #[.int .i64 r.kind,.string (tx r.target),.int .u64 r.rule,.slice A6 xn c6,.int .u64 r.out,.int .u64 r.time,.string (tx r.tag)] 41)).heap.size=wc.heap.size+1:=by simp
    generalize (wc.alloc (.cells #[.int .i64 r.kind,.string (tx r.target),.int .u64 r.rule,.slice A6 xn c6,.int .u64 r.out,.int .u64 r.time,.string (tx r.tag)] 41))=wd at *
    have hA1:=HLT.out
    have hA2:=HBX.out
    have hA3:=HSZ.out
    refine zAO 5 rfl (by kernel_rfl) (by kernel_rfl) (fun K hK =>?_)
    refine zAk (.tmp 35) (.tmp 38) 33 rfl (w.heap.size+4) 41 ig _ 7 88 Tryz.underlying33 hig hz0 hz1 hz2 rfl (by decide) (.slice Ag n cg) n (rws zs) rfl HO.out (some ⟨wc.heap.size,0,none⟩) 1 1 (wc.heap.size+1) (rws [⟨r,A6,xn,c6,l⟩]) rfl (by intro h;cases h) HNW.out (zDZ _) (by unfold maxLen;omega) (by omega) (by omega) ?_
    intro v9 w9 ho9 hg9 _
    obtain ⟨A9,c9,rfl,_⟩:=zAL ho9
    rw [← zCH] at ho9
    have hs9:=hg9.size
    replace HX:=yh ((hg9.block (w.heap.size+1) (by omega) (fun e =>by have:=zAG HO.out _ e.symm;omega)).trans HX.out)
    replace HGB:=yh ((hg9.block _ (by omega) (fun e =>by have:=zAG HO.out _ e.symm;omega)).trans HGB.out)
    replace HZ:Hid (∀ z ∈ zs,w9.ownsRow (w.heap.size+4) 95 3 (.slice z.A z.n z.c) z.n (dps z.l)):=fun z hz =>zBL (HZ.out z hz) (zBE HO.out (HZ.out z hz) (by decide)) hg9
    replace HD6:=yh (zAT (zBt HD6.out HO.out hg9).1 (by omega:w.heap.size+4≤wq.heap.size))
    replace HB:=yh (HB.out.grown hg9 (by omega) (fun j hj =>by have:=zAG HO.out j hj;omega))
    refine hK _ _ HX.out ?_
    clear hK K
    refine zAB 6 (.pointer (some ⟨w.heap.size+1+1+1,1,none⟩)) rfl (by kernel_rfl) (by kernel_rfl) (by kernel_rfl) (fun _ _ _ h =>h) (by kernel_rfl) HX.out (fun _ _ =>by kernel_rfl) ?_
    refine zAO 7 rfl (by kernel_rfl) (by kernel_rfl) (fun K hK =>?_)
    refine zBq (.tmp 40) (.tmp 39) rfl (w.heap.size+1+1+1) _ _ _ _ A9 (n+1) c9 rfl rfl HGB.out ?_
    intro w10 hh10 hg10
    have hs10:=hg10.size
    refine hK _ _ ((hg10.block (w.heap.size+1) (by omega) (fun e =>by have:=Option.some.inj e;omega)).trans HX.out) ?_
    clear hK K
    have HB10:Hid (Below (w.heap.size+1+1+1) w3 w10):=HB.out.grown hg10 (by omega) (fun j hj =>by have:=Option.some.inj hj;omega)
    have HLE10:Hid (w.heap.size+4≤w10.heap.size):=(by omega:w.heap.size+4≤w10.heap.size)
    have hkp:∀ {e:TypeId} {s m:Nat} {v:Value} {ys:List Value},w9.ownsRow (w.heap.size+4) e s v m ys→w10.ownsRow (w.heap.size+4) e s v m ys:=fun ho =>zAR ho (fun k hk =>hg10.block k (zAP ho k hk) (fun e =>by have:=zAG ho k hk;have:=Option.some.inj e;omega))
    have HRO:=yh (hkp ho9)
    have HZO:Hid (∀ z ∈ zs++[⟨r,A6,xn,c6,l⟩],w10.ownsRow (w.heap.size+4) 95 3 (.slice z.A z.n z.c) z.n (dps z.l)):=fun z hz =>by
     rcases List.mem_append.1 hz with hz | hz
     ·exact hkp (HZ.out z hz)
     ·obtain rfl:=List.mem_singleton.1 hz
      exact hkp HD6.out
    have HGX:=yh hh10
    clear hh10 hg10 ho9 hg9 HX HGB HO HZ HD6 HB HNW hs9 hs10 hkp
    refine wpAnyH_done (by kernel_rfl) ?_ _
    go_simp
    have HF10:Hid (w10.heap[w.heap.size]? = some (.cells #[.int .i64 vi,.slice A n c,.slice E n d,.int .i64 G] 48)):=(HB10.out.block w.heap.size (by omega)).trans HG1.out
    have HZ10:Hid (w10.heap[w.heap.size+1+1]? = some (.cells #[.int .i64 0,.slice none 0 0,.slice none 0 0,.int .i64 0] 48)):=(HB10.out.block _ (by omega)).trans HG3.out
    have HE10:=yh ((HE.out.below (HB3.out.trans (HB10.out.mono (by omega)))).more (by have:=HLE10.out;omega:w.heap.size≤w10.heap.size))
    have k2:=zAA (i:=2) HF10.out rfl
    clear hA1 hA2 hA3 hsz1
    go_wp2_with fail
    refine (zFH E n d es (by omega) hE hone w10 HE10.out).mono ?_
    rintro e w11 ⟨v11,rfl,ho11,hb11⟩
    obtain ⟨E1,d1,rfl,_⟩:=zAL ho11
    have hal:=(Below.refl w11.heap.size w11).alloc (Nat.le_refl _) (.cells #[.int .i64 (G+sz)] 3)
    have hnw:zAD (w11.alloc (.cells #[.int .i64 (G+sz)] 3)) (w11.alloc (.cells #[.int .i64 (G+sz)] 3)).heap.size 1 (some ⟨w11.heap.size,0,none⟩) 1 [.int .i64 (G+sz)]:=⟨rfl,fun _ =>⟨_,rfl,by simp,fun j u hu =>by
     obtain ⟨rfl,rfl⟩:j=0∧u=.int .i64 (G+sz):=by
      cases j with
      | zero =>exact ⟨rfl,(Option.some.inj hu).symm⟩
      | succ j =>simp at hu
     exact zAA (i:=0) (zAE w11 (.cells #[.int .i64 (G+sz)] 3)) rfl⟩⟩
    have hsz12:(w11.alloc (.cells #[.int .i64 (G+sz)] 3)).heap.size=w11.heap.size+1:=by simp
    have ho12:=yh (zAK ho11 hal)
    have HB12:=yh (hb11.trans (hal.mono hb11.size))
    have HS12:Hid (w10.heap.size≤w11.heap.size):=hb11.size
    have HNW:=yh hnw
    have HSZ12:=yh hsz12
    clear ho11 hb11 hal hnw k2 hsz12
    go_wp2_with (first | (at_builtin;refine zAw _ rfl (.tmp 43) (.tmp 45) 46 rfl w10.heap.size 3 ii _ 1 8 Tryz.underlying46 hii hj0 hj1 hj2 rfl (by decide) (.slice E1 n d1) n es rfl ho12.out (some ⟨w11.heap.size,0,none⟩) 1 1 _ [.int .i64 (G+sz)] rfl (by intro h;cases h) HNW.out (by simp [Value.oneCell']) (by unfold maxLen;omega) (by omega) (by have:=HSZ12.out;have:=HS12.out;omega) ?_;intro v13 w13 ho13 hg13;obtain ⟨E2,d2,rfl,_⟩:=zAL ho13;have HO13:=yh ho13;have HG13:=yh hg13;clear ho13 hg13) | (refine zCj rfl (.tmp 47) (.tmp 46) rfl (w.heap.size+1+1+1) _ _ _ _ E2 (n+1) d2 rfl rfl ((HG13.out.block _ (by have:=HSZ12.out;have:=HS12.out;have:=HLE10.out;omega) (fun e =>by have:=zAG ho12.out _ e.symm;have:=HLE10.out;omega)).trans ((HB12.out.block _ (by have:=HLE10.out;omega)).trans HGX.out)) ?_;intro w14 hh14 hg14;have HH14:=yh hh14;have HG14:=yh hg14;have q0:=zAA (i:=0) hh14 rfl;have q1:=zAA (i:=1) hh14 rfl;have q2:=zAA (i:=2) hh14 rfl;have q3:=zAA (i:=3) hh14 rfl;have HZ14:Hid (w14.heap[w.heap.size+1+1]? = some (.cells #[.int .i64 0,.slice none 0 0,.slice none 0 0,.int .i64 0] 48)):=(HG14.out.block _ (by have:=HG13.out.size;have:=HSZ12.out;have:=HS12.out;have:=HLE10.out;omega) (fun e =>by have:=Option.some.inj e;omega)).trans ((HG13.out.block _ (by have:=HSZ12.out;have:=HS12.out;have:=HLE10.out;omega) (fun e =>by have:=zAG ho12.out _ e.symm;have:=HLE10.out;omega)).trans ((HB12.out.block _ (by have:=HLE10.out;omega)).trans HZ10.out));have r0:=zAA (i:=0) HZ14.out rfl;have r1:=zAA (i:=1) HZ14.out rfl;have r2:=zAA (i:=2) HZ14.out rfl;have r3:=zAA (i:=3) HZ14.out rfl;have y0:=zAC (i:=0) HZ14.out;have y1:=zAC (i:=1) HZ14.out;have y2:=zAC (i:=2) HZ14.out;have y3:=zAC (i:=3) HZ14.out;clear hh14 hg14))
    have g0:=zBg (W:=w14) (b:=w.heap.size+1+1) (.int .i64 vi) (.slice A9 (n+1) c9) (.slice E2 (n+1) d2) (.int .i64 (G+sz))
    have hx5:=zAF (zAF (zAF (zAF HZ14.out 0 (.int .i64 vi)) 1 (.slice A9 (n+1) c9)) 2 (.slice E2 (n+1) d2)) 3 (.int .i64 (G+sz))
    refine bodyPost_ret (results_cell_row rfl _ _ _ _ _ _ _ rfl hx5 Tryz.underlying48 rfl (by kernel_rfl)) rfl ?_
    have hs13:=HG13.out.size
    have hs12:=HSZ12.out
    have hs11:=HS12.out
    have hs10:=HLE10.out
    have hk1:∀ {e:TypeId} {s m:Nat} {v:Value} {ys:List Value},w10.ownsRow (w.heap.size+4) e s v m ys→w14.ownsRow (w.heap.size+4) e s v m ys:=fun ho =>zAR ho (fun k hk =>by
     have h1:=zAP ho k hk
     have h2:=zAG ho k hk
     exact (HG14.out.block k (by omega) (fun e =>by have:=Option.some.inj e;omega)).trans ((HG13.out.block k (by omega) (fun e =>by have:=zAG ho12.out k e.symm;omega)).trans (HB12.out.block k (by omega))))
    have hk2:∀ {e:TypeId} {s m:Nat} {v:Value} {ys:List Value},w14.ownsRow (w.heap.size+4) e s v m ys→World.ownsRow _ (w.heap.size+4) e s v m ys:=fun ho =>zAR ho (fun k hk =>g0.block k (zAP ho k hk) (fun e =>by have:=zAG ho k hk;have:=Option.some.inj e;omega))
    have hb14:Below (w.heap.size) w w14:=((HB3.out.trans ((HB10.out.trans (HB12.out.mono (by omega))).mono (by omega:w.heap.size≤w.heap.size+1+1+1))).grown HG13.out (by omega) (fun k hk =>by have:=zAG ho12.out k hk;omega)).grown HG14.out (by omega) (fun k hk =>by have:=Option.some.inj hk;omega)
    refine ⟨⟨A9,c9,E2,d2,zs++[⟨r,A6,xn,c6,l⟩],rfl,?_,⟨zAT (hk2 (hk1 HRO.out)) (by omega),fun z hz =>zAT (hk2 (hk1 (HZO.out z hz))) (by omega),?_⟩⟩,hb14.grown g0 (by have:=HG14.out.size;omega) (fun k hk =>by have:=Option.some.inj hk;omega)⟩
    ·rw [List.map_append,List.map_append,HSY.out,List.take_of_length_le (by have:=HL.out;omega)];rfl
    ·exact zAT (zAR HO13.out (fun k hk =>(g0.block k (by have:=zAP HO13.out k hk;have:=HG14.out.size;omega) (fun e =>by have:=zAG HO13.out k hk;have:=Option.some.inj e;omega)).trans (HG14.out.block k (zAP HO13.out k hk) (fun e =>by have:=zAG HO13.out k hk;have:=Option.some.inj e;omega)))) (by omega)
   ·go_simp
    have hcl:=zCN r xA xn xc l hxA hxn wq HRDq.out
    unfold rcv rsv at hcl
    refine hcl.mono ?_
    rintro e wc ⟨A6,c6,rfl,hd6,hbc⟩
    replace HX:=yh ((hbc.block (w.heap.size+1) HBX.out).trans HX.out)
    replace HGB:=yh ((hbc.block _ (by have:=HLT.out;have:=HBX.out;omega)).trans HGB.out)
    replace HO:=yh (zAK HO.out hbc)
    replace HZ:Hid (∀ z ∈ zs,wc.ownsRow (w.heap.size+4) 95 3 (.slice z.A z.n z.c) z.n (dps z.l)):=fun z hz =>zAK (HZ.out z hz) hbc
    replace HB:=yh (HB.out.trans (hbc.mono (by have:=HLT.out;have:=HBX.out;omega)))
    have HD6:=yh hd6
    have HSZ:Hid (wq.heap.size≤wc.heap.size):=hbc.size
    refine hK _ _ HX.out ?_
    clear hK K hcl hd6 hbc
    refine zCq 1 4 rfl rfl (by kernel_rfl) (by kernel_rfl) (by kernel_rfl) (fun K hK =>?_) (fun K hK =>?_)
    ·have k1:=zAA (i:=1) HGB.out rfl
     go_simp
     refine hK _ _ HX.out ?_
     clear hK K k1
     refine zAO 4 rfl (by kernel_rfl) (by kernel_rfl) (fun K hK =>?_)
     go_simp
     have hal:Below wc.heap.size wc (wc.alloc (.cells #[.int .i64 r.kind,.string (tx r.target),.int .u64 r.rule,.slice A6 xn c6,.int .u64 r.out,.int .u64 r.time,.string (tx r.tag)] 41)):=(Below.refl _ wc).alloc (Nat.le_refl _) _
     have hnew:=zCZ wc ⟨r,A6,xn,c6,l⟩
     replace HX:=yh ((hal.block (w.heap.size+1) (by have:=HBX.out;have:=HSZ.out;omega)).trans HX.out)
     replace HGB:=yh ((hal.block _ (by have:=HLT.out;have:=HBX.out;have:=HSZ.out;omega)).trans HGB.out)
     replace HO:=yh (zAK HO.out hal)
     replace HZ:Hid (∀ z ∈ zs,(wc.alloc (.cells #[.int .i64 r.kind,.string (tx r.target),.int .u64 r.rule,.slice A6 xn c6,.int .u64 r.out,.int .u64 r.time,.string (tx r.tag)] 41)).ownsRow (w.heap.size+4) 95 3 (.slice z.A z.n z.c) z.n (dps z.l)):=fun z hz =>zAK (HZ.out z hz) hal
     replace HB:=yh (HB.out.trans (hal.mono (by have:=HLT.out;have:=HBX.out;have:=HSZ.out;omega)))
     replace HD6:Hid (Deps (wc.alloc (.cells #[.int .i64 r.kind,.string (tx r.target),.int .u64 r.rule,.slice A6 xn c6,.int .u64 r.out,.int .u64 r.time,.string (tx r.tag)] 41)) wq.heap.size A6 xn c6 l):=zCM HD6.out _
     have HNW:=yh hnew
     refine hK _ _ HX.out ?_
     clear hK K hal hnew
     have hsz1:(wc.alloc (.cells #[.int .i64 r.kind,.string (tx r.target),.int .u64 r.rule,.slice A6 xn c6,.int .u64 r.out,.int .u64 r.time,.string (tx r.tag)] 41)).heap.size=wc.heap.size+1:=by simp
     generalize (wc.alloc (.cells #[.int .i64 r.kind,.string (tx r.target),.int .u64 r.rule,.slice A6 xn c6,.int .u64 r.out,.int .u64 r.time,.string (tx r.tag)] 41))=wd at *
     have hA1:=HLT.out
     have hA2:=HBX.out
     have hA3:=HSZ.out
     refine zAO 5 rfl (by kernel_rfl) (by kernel_rfl) (fun K hK =>?_)
     refine zAk (.tmp 35) (.tmp 38) 33 rfl (w.heap.size+4) 41 ig _ 7 88 Tryz.underlying33 hig hz0 hz1 hz2 rfl (by decide) (.slice Ag n cg) n (rws zs) rfl HO.out (some ⟨wc.heap.size,0,none⟩) 1 1 (wc.heap.size+1) (rws [⟨r,A6,xn,c6,l⟩]) rfl (by intro h;cases h) HNW.out (zDZ _) (by unfold maxLen;omega) (by omega) (by omega) ?_
     intro v9 w9 ho9 hg9 _
     obtain ⟨A9,c9,rfl,_⟩:=zAL ho9
     rw [← zCH] at ho9
     have hs9:=hg9.size
     replace HX:=yh ((hg9.block (w.heap.size+1) (by omega) (fun e =>by have:=zAG HO.out _ e.symm;omega)).trans HX.out)
     replace HGB:=yh ((hg9.block _ (by omega) (fun e =>by have:=zAG HO.out _ e.symm;omega)).trans HGB.out)
     replace HZ:Hid (∀ z ∈ zs,w9.ownsRow (w.heap.size+4) 95 3 (.slice z.A z.n z.c) z.n (dps z.l)):=fun z hz =>zBL (HZ.out z hz) (zBE HO.out (HZ.out z hz) (by decide)) hg9
     replace HD6:=yh (zAT (zBt HD6.out HO.out hg9).1 (by omega:w.heap.size+4≤wq.heap.size))
     replace HB:=yh (HB.out.grown hg9 (by omega) (fun j hj =>by have:=zAG HO.out j hj;omega))
     refine hK _ _ HX.out ?_
     clear hK K
     refine zAB 6 (.pointer (some ⟨w.heap.size+1+1+1,1,none⟩)) rfl (by kernel_rfl) (by kernel_rfl) (by kernel_rfl) (fun _ _ _ h =>h) (by kernel_rfl) HX.out (fun _ _ =>by kernel_rfl) ?_
     refine zAO 7 rfl (by kernel_rfl) (by kernel_rfl) (fun K hK =>?_)
     refine zBq (.tmp 40) (.tmp 39) rfl (w.heap.size+1+1+1) _ _ _ _ A9 (n+1) c9 rfl rfl HGB.out ?_
     intro w10 hh10 hg10
     have hs10:=hg10.size
     refine hK _ _ ((hg10.block (w.heap.size+1) (by omega) (fun e =>by have:=Option.some.inj e;omega)).trans HX.out) ?_
     clear hK K
     have HB10:Hid (Below (w.heap.size+1+1+1) w3 w10):=HB.out.grown hg10 (by omega) (fun j hj =>by have:=Option.some.inj hj;omega)
     have HLE10:Hid (w.heap.size+4≤w10.heap.size):=(by omega:w.heap.size+4≤w10.heap.size)
     have hkp:∀ {e:TypeId} {s m:Nat} {v:Value} {ys:List Value},w9.ownsRow (w.heap.size+4) e s v m ys→w10.ownsRow (w.heap.size+4) e s v m ys:=fun ho =>zAR ho (fun k hk =>hg10.block k (zAP ho k hk) (fun e =>by have:=zAG ho k hk;have:=Option.some.inj e;omega))
     have HRO:=yh (hkp ho9)
     have HZO:Hid (∀ z ∈ zs++[⟨r,A6,xn,c6,l⟩],w10.ownsRow (w.heap.size+4) 95 3 (.slice z.A z.n z.c) z.n (dps z.l)):=fun z hz =>by
      rcases List.mem_append.1 hz with hz | hz
      ·exact hkp (HZ.out z hz)
      ·obtain rfl:=List.mem_singleton.1 hz
       exact hkp HD6.out
     have HGX:=yh hh10
     clear hh10 hg10 ho9 hg9 HX HGB HO HZ HD6 HB HNW hs9 hs10 hkp
     refine wpAnyH_done (by kernel_rfl) ?_ _
     go_simp
     have HF10:Hid (w10.heap[w.heap.size]? = some (.cells #[.int .i64 vi,.slice A n c,.slice E n d,.int .i64 G] 48)):=(HB10.out.block w.heap.size (by omega)).trans HG1.out
     have HZ10:Hid (w10.heap[w.heap.size+1+1]? = some (.cells #[.int .i64 0,.slice none 0 0,.slice none 0 0,.int .i64 0] 48)):=(HB10.out.block _ (by omega)).trans HG3.out
     have HE10:=yh ((HE.out.below (HB3.out.trans (HB10.out.mono (by omega)))).more (by have:=HLE10.out;omega:w.heap.size≤w10.heap.size))
     have k2:=zAA (i:=2) HF10.out rfl
     clear hA1 hA2 hA3 hsz1
     go_wp2_with fail
     refine (zFH E n d es (by omega) hE hone w10 HE10.out).mono ?_
     rintro e w11 ⟨v11,rfl,ho11,hb11⟩
     obtain ⟨E1,d1,rfl,_⟩:=zAL ho11
     have hal:=(Below.refl w11.heap.size w11).alloc (Nat.le_refl _) (.cells #[.int .i64 (G+sz)] 3)
     have hnw:zAD (w11.alloc (.cells #[.int .i64 (G+sz)] 3)) (w11.alloc (.cells #[.int .i64 (G+sz)] 3)).heap.size 1 (some ⟨w11.heap.size,0,none⟩) 1 [.int .i64 (G+sz)]:=⟨rfl,fun _ =>⟨_,rfl,by simp,fun j u hu =>by
      obtain ⟨rfl,rfl⟩:j=0∧u=.int .i64 (G+sz):=by
       cases j with
       | zero =>exact ⟨rfl,(Option.some.inj hu).symm⟩
       | succ j =>simp at hu
      exact zAA (i:=0) (zAE w11 (.cells #[.int .i64 (G+sz)] 3)) rfl⟩⟩
     have hsz12:(w11.alloc (.cells #[.int .i64 (G+sz)] 3)).heap.size=w11.heap.size+1:=by simp
     have ho12:=yh (zAK ho11 hal)
     have HB12:=yh (hb11.trans (hal.mono hb11.size))
     have HS12:Hid (w10.heap.size≤w11.heap.size):=hb11.size
     have HNW:=yh hnw
     have HSZ12:=yh hsz12
     clear ho11 hb11 hal hnw k2 hsz12
     go_wp2_with (first | (at_builtin;refine zAw _ rfl (.tmp 43) (.tmp 45) 46 rfl w10.heap.size 3 ii _ 1 8 Tryz.underlying46 hii hj0 hj1 hj2 rfl (by decide) (.slice E1 n d1) n es rfl ho12.out (some ⟨w11.heap.size,0,none⟩) 1 1 _ [.int .i64 (G+sz)] rfl (by intro h;cases h) HNW.out (by simp [Value.oneCell']) (by unfold maxLen;omega) (by omega) (by have:=HSZ12.out;have:=HS12.out;omega) ?_;intro v13 w13 ho13 hg13;obtain ⟨E2,d2,rfl,_⟩:=zAL ho13;have HO13:=yh ho13;have HG13:=yh hg13;clear ho13 hg13) | (refine zCj rfl (.tmp 47) (.tmp 46) rfl (w.heap.size+1+1+1) _ _ _ _ E2 (n+1) d2 rfl rfl ((HG13.out.block _ (by have:=HSZ12.out;have:=HS12.out;have:=HLE10.out;omega) (fun e =>by have:=zAG ho12.out _ e.symm;have:=HLE10.out;omega)).trans ((HB12.out.block _ (by have:=HLE10.out;omega)).trans HGX.out)) ?_;intro w14 hh14 hg14;have HH14:=yh hh14;have HG14:=yh hg14;have q0:=zAA (i:=0) hh14 rfl;have q1:=zAA (i:=1) hh14 rfl;have q2:=zAA (i:=2) hh14 rfl;have q3:=zAA (i:=3) hh14 rfl;have HZ14:Hid (w14.heap[w.heap.size+1+1]? = some (.cells #[.int .i64 0,.slice none 0 0,.slice none 0 0,.int .i64 0] 48)):=(HG14.out.block _ (by have:=HG13.out.size;have:=HSZ12.out;have:=HS12.out;have:=HLE10.out;omega) (fun e =>by have:=Option.some.inj e;omega)).trans ((HG13.out.block _ (by have:=HSZ12.out;have:=HS12.out;have:=HLE10.out;omega) (fun e =>by have:=zAG ho12.out _ e.symm;have:=HLE10.out;omega)).trans ((HB12.out.block _ (by have:=HLE10.out;omega)).trans HZ10.out));have r0:=zAA (i:=0) HZ14.out rfl;have r1:=zAA (i:=1) HZ14.out rfl;have r2:=zAA (i:=2) HZ14.out rfl;have r3:=zAA (i:=3) HZ14.out rfl;have y0:=zAC (i:=0) HZ14.out;have y1:=zAC (i:=1) HZ14.out;have y2:=zAC (i:=2) HZ14.out;have y3:=zAC (i:=3) HZ14.out;clear hh14 hg14))
     have g0:=zBg (W:=w14) (b:=w.heap.size+1+1) (.int .i64 vi) (.slice A9 (n+1) c9) (.slice E2 (n+1) d2) (.int .i64 (G+sz))
     have hx5:=zAF (zAF (zAF (zAF HZ14.out 0 (.int .i64 vi)) 1 (.slice A9 (n+1) c9)) 2 (.slice E2 (n+1) d2)) 3 (.int .i64 (G+sz))
     refine bodyPost_ret (results_cell_row rfl _ _ _ _ _ _ _ rfl hx5 Tryz.underlying48 rfl (by kernel_rfl)) rfl ?_
     have hs13:=HG13.out.size
     have hs12:=HSZ12.out
     have hs11:=HS12.out
     have hs10:=HLE10.out
     have hk1:∀ {e:TypeId} {s m:Nat} {v:Value} {ys:List Value},w10.ownsRow (w.heap.size+4) e s v m ys→w14.ownsRow (w.heap.size+4) e s v m ys:=fun ho =>zAR ho (fun k hk =>by
      have h1:=zAP ho k hk
      have h2:=zAG ho k hk
      exact (HG14.out.block k (by omega) (fun e =>by have:=Option.some.inj e;omega)).trans ((HG13.out.block k (by omega) (fun e =>by have:=zAG ho12.out k e.symm;omega)).trans (HB12.out.block k (by omega))))
     have hk2:∀ {e:TypeId} {s m:Nat} {v:Value} {ys:List Value},w14.ownsRow (w.heap.size+4) e s v m ys→World.ownsRow _ (w.heap.size+4) e s v m ys:=fun ho =>zAR ho (fun k hk =>g0.block k (zAP ho k hk) (fun e =>by have:=zAG ho k hk;have:=Option.some.inj e;omega))
     have hb14:Below (w.heap.size) w w14:=((HB3.out.trans ((HB10.out.trans (HB12.out.mono (by omega))).mono (by omega:w.heap.size≤w.heap.size+1+1+1))).grown HG13.out (by omega) (fun k hk =>by have:=zAG ho12.out k hk;omega)).grown HG14.out (by omega) (fun k hk =>by have:=Option.some.inj hk;omega)
     refine ⟨⟨A9,c9,E2,d2,zs++[⟨r,A6,xn,c6,l⟩],rfl,?_,⟨zAT (hk2 (hk1 HRO.out)) (by omega),fun z hz =>zAT (hk2 (hk1 (HZO.out z hz))) (by omega),?_⟩⟩,hb14.grown g0 (by have:=HG14.out.size;omega) (fun k hk =>by have:=Option.some.inj hk;omega)⟩
     ·rw [List.map_append,List.map_append,HSY.out,List.take_of_length_le (by have:=HL.out;omega)];rfl
     ·exact zAT (zAR HO13.out (fun k hk =>(g0.block k (by have:=zAP HO13.out k hk;have:=HG14.out.size;omega) (fun e =>by have:=zAG HO13.out k hk;have:=Option.some.inj e;omega)).trans (HG14.out.block k (zAP HO13.out k hk) (fun e =>by have:=zAG HO13.out k hk;have:=Option.some.inj e;omega)))) (by omega)
    ·go_simp
     have hal:Below wc.heap.size wc (wc.alloc (.cells #[.int .i64 r.kind,.string (tx r.target),.int .u64 r.rule,.slice A6 xn c6,.int .u64 r.out,.int .u64 r.time,.string (tx r.tag)] 41)):=(Below.refl _ wc).alloc (Nat.le_refl _) _
     have hnew:=zCZ wc ⟨r,A6,xn,c6,l⟩
     replace HX:=yh ((hal.block (w.heap.size+1) (by have:=HBX.out;have:=HSZ.out;omega)).trans HX.out)
     replace HGB:=yh ((hal.block _ (by have:=HLT.out;have:=HBX.out;have:=HSZ.out;omega)).trans HGB.out)
     replace HO:=yh (zAK HO.out hal)
     replace HZ:Hid (∀ z ∈ zs,(wc.alloc (.cells #[.int .i64 r.kind,.string (tx r.target),.int .u64 r.rule,.slice A6 xn c6,.int .u64 r.out,.int .u64 r.time,.string (tx r.tag)] 41)).ownsRow (w.heap.size+4) 95 3 (.slice z.A z.n z.c) z.n (dps z.l)):=fun z hz =>zAK (HZ.out z hz) hal
     replace HB:=yh (HB.out.trans (hal.mono (by have:=HLT.out;have:=HBX.out;have:=HSZ.out;omega)))
     replace HD6:Hid (Deps (wc.alloc (.cells #[.int .i64 r.kind,.string (tx r.target),.int .u64 r.rule,.slice A6 xn c6,.int .u64 r.out,.int .u64 r.time,.string (tx r.tag)] 41)) wq.heap.size A6 xn c6 l):=zCM HD6.out _
     have HNW:=yh hnew
     refine hK _ _ HX.out ?_
     clear hK K hal hnew
     refine zAO 1 rfl (by kernel_rfl) (by kernel_rfl) (fun K hK =>?_)
     have k1:=zAA (i:=1) HGB.out rfl
     go_simp
     refine hK _ _ HX.out ?_
     clear hK K k1
     have hsz1:(wc.alloc (.cells #[.int .i64 r.kind,.string (tx r.target),.int .u64 r.rule,.slice A6 xn c6,.int .u64 r.out,.int .u64 r.time,.string (tx r.tag)] 41)).heap.size=wc.heap.size+1:=by simp
     generalize (wc.alloc (.cells #[.int .i64 r.kind,.string (tx r.target),.int .u64 r.rule,.slice A6 xn c6,.int .u64 r.out,.int .u64 r.time,.string (tx r.tag)] 41))=wd at *
     have hA1:=HLT.out
     have hA2:=HBX.out
     have hA3:=HSZ.out
     refine zAO 5 rfl (by kernel_rfl) (by kernel_rfl) (fun K hK =>?_)
     refine zAk (.tmp 35) (.tmp 38) 33 rfl (w.heap.size+4) 41 ig _ 7 88 Tryz.underlying33 hig hz0 hz1 hz2 rfl (by decide) (.slice Ag n cg) n (rws zs) rfl HO.out (some ⟨wc.heap.size,0,none⟩) 1 1 (wc.heap.size+1) (rws [⟨r,A6,xn,c6,l⟩]) rfl (by intro h;cases h) HNW.out (zDZ _) (by unfold maxLen;omega) (by omega) (by omega) ?_
     intro v9 w9 ho9 hg9 _
     obtain ⟨A9,c9,rfl,_⟩:=zAL ho9
     rw [← zCH] at ho9
     have hs9:=hg9.size
     replace HX:=yh ((hg9.block (w.heap.size+1) (by omega) (fun e =>by have:=zAG HO.out _ e.symm;omega)).trans HX.out)
     replace HGB:=yh ((hg9.block _ (by omega) (fun e =>by have:=zAG HO.out _ e.symm;omega)).trans HGB.out)
     replace HZ:Hid (∀ z ∈ zs,w9.ownsRow (w.heap.size+4) 95 3 (.slice z.A z.n z.c) z.n (dps z.l)):=fun z hz =>zBL (HZ.out z hz) (zBE HO.out (HZ.out z hz) (by decide)) hg9
     replace HD6:=yh (zAT (zBt HD6.out HO.out hg9).1 (by omega:w.heap.size+4≤wq.heap.size))
     replace HB:=yh (HB.out.grown hg9 (by omega) (fun j hj =>by have:=zAG HO.out j hj;omega))
     refine hK _ _ HX.out ?_
     clear hK K
     refine zAB 6 (.pointer (some ⟨w.heap.size+1+1+1,1,none⟩)) rfl (by kernel_rfl) (by kernel_rfl) (by kernel_rfl) (fun _ _ _ h =>h) (by kernel_rfl) HX.out (fun _ _ =>by kernel_rfl) ?_
     refine zAO 7 rfl (by kernel_rfl) (by kernel_rfl) (fun K hK =>?_)
     refine zBq (.tmp 40) (.tmp 39) rfl (w.heap.size+1+1+1) _ _ _ _ A9 (n+1) c9 rfl rfl HGB.out ?_
     intro w10 hh10 hg10
     have hs10:=hg10.size
     refine hK _ _ ((hg10.block (w.heap.size+1) (by omega) (fun e =>by have:=Option.some.inj e;omega)).trans HX.out) ?_
     clear hK K
     have HB10:Hid (Below (w.heap.size+1+1+1) w3 w10):=HB.out.grown hg10 (by omega) (fun j hj =>by have:=Option.some.inj hj;omega)
     have HLE10:Hid (w.heap.size+4≤w10.heap.size):=(by omega:w.heap.size+4≤w10.heap.size)
     have hkp:∀ {e:TypeId} {s m:Nat} {v:Value} {ys:List Value},w9.ownsRow (w.heap.size+4) e s v m ys→w10.ownsRow (w.heap.size+4) e s v m ys:=fun ho =>zAR ho (fun k hk =>hg10.block k (zAP ho k hk) (fun e =>by have:=zAG ho k hk;have:=Option.some.inj e;omega))
     have HRO:=yh (hkp ho9)
     have HZO:Hid (∀ z ∈ zs++[⟨r,A6,xn,c6,l⟩],w10.ownsRow (w.heap.size+4) 95 3 (.slice z.A z.n z.c) z.n (dps z.l)):=fun z hz =>by
      rcases List.mem_append.1 hz with hz | hz
      ·exact hkp (HZ.out z hz)
      ·obtain rfl:=List.mem_singleton.1 hz
       exact hkp HD6.out
     have HGX:=yh hh10
     clear hh10 hg10 ho9 hg9 HX HGB HO HZ HD6 HB HNW hs9 hs10 hkp
     refine wpAnyH_done (by kernel_rfl) ?_ _
     go_simp
     have HF10:Hid (w10.heap[w.heap.size]? = some (.cells #[.int .i64 vi,.slice A n c,.slice E n d,.int .i64 G] 48)):=(HB10.out.block w.heap.size (by omega)).trans HG1.out
     have HZ10:Hid (w10.heap[w.heap.size+1+1]? = some (.cells #[.int .i64 0,.slice none 0 0,.slice none 0 0,.int .i64 0] 48)):=(HB10.out.block _ (by omega)).trans HG3.out
     have HE10:=yh ((HE.out.below (HB3.out.trans (HB10.out.mono (by omega)))).more (by have:=HLE10.out;omega:w.heap.size≤w10.heap.size))
     have k2:=zAA (i:=2) HF10.out rfl
     clear hA1 hA2 hA3 hsz1
     go_wp2_with fail
     refine (zFH E n d es (by omega) hE hone w10 HE10.out).mono ?_
     rintro e w11 ⟨v11,rfl,ho11,hb11⟩
     obtain ⟨E1,d1,rfl,_⟩:=zAL ho11
     have hal:=(Below.refl w11.heap.size w11).alloc (Nat.le_refl _) (.cells #[.int .i64 (G+sz)] 3)
     have hnw:zAD (w11.alloc (.cells #[.int .i64 (G+sz)] 3)) (w11.alloc (.cells #[.int .i64 (G+sz)] 3)).heap.size 1 (some ⟨w11.heap.size,0,none⟩) 1 [.int .i64 (G+sz)]:=⟨rfl,fun _ =>⟨_,rfl,by simp,fun j u hu =>by
      obtain ⟨rfl,rfl⟩:j=0∧u=.int .i64 (G+sz):=by
       cases j with
       | zero =>exact ⟨rfl,(Option.some.inj hu).symm⟩
       | succ j =>simp at hu
      exact zAA (i:=0) (zAE w11 (.cells #[.int .i64 (G+sz)] 3)) rfl⟩⟩
     have hsz12:(w11.alloc (.cells #[.int .i64 (G+sz)] 3)).heap.size=w11.heap.size+1:=by simp
     have ho12:=yh (zAK ho11 hal)
     have HB12:=yh (hb11.trans (hal.mono hb11.size))
     have HS12:Hid (w10.heap.size≤w11.heap.size):=hb11.size
     have HNW:=yh hnw
     have HSZ12:=yh hsz12
     clear ho11 hb11 hal hnw k2 hsz12
     go_wp2_with (first | (at_builtin;refine zAw _ rfl (.tmp 43) (.tmp 45) 46 rfl w10.heap.size 3 ii _ 1 8 Tryz.underlying46 hii hj0 hj1 hj2 rfl (by decide) (.slice E1 n d1) n es rfl ho12.out (some ⟨w11.heap.size,0,none⟩) 1 1 _ [.int .i64 (G+sz)] rfl (by intro h;cases h) HNW.out (by simp [Value.oneCell']) (by unfold maxLen;omega) (by omega) (by have:=HSZ12.out;have:=HS12.out;omega) ?_;intro v13 w13 ho13 hg13;obtain ⟨E2,d2,rfl,_⟩:=zAL ho13;have HO13:=yh ho13;have HG13:=yh hg13;clear ho13 hg13) | (refine zCj rfl (.tmp 47) (.tmp 46) rfl (w.heap.size+1+1+1) _ _ _ _ E2 (n+1) d2 rfl rfl ((HG13.out.block _ (by have:=HSZ12.out;have:=HS12.out;have:=HLE10.out;omega) (fun e =>by have:=zAG ho12.out _ e.symm;have:=HLE10.out;omega)).trans ((HB12.out.block _ (by have:=HLE10.out;omega)).trans HGX.out)) ?_;intro w14 hh14 hg14;have HH14:=yh hh14;have HG14:=yh hg14;have q0:=zAA (i:=0) hh14 rfl;have q1:=zAA (i:=1) hh14 rfl;have q2:=zAA (i:=2) hh14 rfl;have q3:=zAA (i:=3) hh14 rfl;have HZ14:Hid (w14.heap[w.heap.size+1+1]? = some (.cells #[.int .i64 0,.slice none 0 0,.slice none 0 0,.int .i64 0] 48)):=(HG14.out.block _ (by have:=HG13.out.size;have:=HSZ12.out;have:=HS12.out;have:=HLE10.out;omega) (fun e =>by have:=Option.some.inj e;omega)).trans ((HG13.out.block _ (by have:=HSZ12.out;have:=HS12.out;have:=HLE10.out;omega) (fun e =>by have:=zAG ho12.out _ e.symm;have:=HLE10.out;omega)).trans ((HB12.out.block _ (by have:=HLE10.out;omega)).trans HZ10.out));have r0:=zAA (i:=0) HZ14.out rfl;have r1:=zAA (i:=1) HZ14.out rfl;have r2:=zAA (i:=2) HZ14.out rfl;have r3:=zAA (i:=3) HZ14.out rfl;have y0:=zAC (i:=0) HZ14.out;have y1:=zAC (i:=1) HZ14.out;have y2:=zAC (i:=2) HZ14.out;have y3:=zAC (i:=3) HZ14.out;clear hh14 hg14))
     have g0:=zBg (W:=w14) (b:=w.heap.size+1+1) (.int .i64 vi) (.slice A9 (n+1) c9) (.slice E2 (n+1) d2) (.int .i64 (G+sz))
     have hx5:=zAF (zAF (zAF (zAF HZ14.out 0 (.int .i64 vi)) 1 (.slice A9 (n+1) c9)) 2 (.slice E2 (n+1) d2)) 3 (.int .i64 (G+sz))
     refine bodyPost_ret (results_cell_row rfl _ _ _ _ _ _ _ rfl hx5 Tryz.underlying48 rfl (by kernel_rfl)) rfl ?_
     have hs13:=HG13.out.size
     have hs12:=HSZ12.out
     have hs11:=HS12.out
     have hs10:=HLE10.out
     have hk1:∀ {e:TypeId} {s m:Nat} {v:Value} {ys:List Value},w10.ownsRow (w.heap.size+4) e s v m ys→w14.ownsRow (w.heap.size+4) e s v m ys:=fun ho =>zAR ho (fun k hk =>by
      have h1:=zAP ho k hk
      have h2:=zAG ho k hk
      exact (HG14.out.block k (by omega) (fun e =>by have:=Option.some.inj e;omega)).trans ((HG13.out.block k (by omega) (fun e =>by have:=zAG ho12.out k e.symm;omega)).trans (HB12.out.block k (by omega))))
     have hk2:∀ {e:TypeId} {s m:Nat} {v:Value} {ys:List Value},w14.ownsRow (w.heap.size+4) e s v m ys→World.ownsRow _ (w.heap.size+4) e s v m ys:=fun ho =>zAR ho (fun k hk =>g0.block k (zAP ho k hk) (fun e =>by have:=zAG ho k hk;have:=Option.some.inj e;omega))
     have hb14:Below (w.heap.size) w w14:=((HB3.out.trans ((HB10.out.trans (HB12.out.mono (by omega))).mono (by omega:w.heap.size≤w.heap.size+1+1+1))).grown HG13.out (by omega) (fun k hk =>by have:=zAG ho12.out k hk;omega)).grown HG14.out (by omega) (fun k hk =>by have:=Option.some.inj hk;omega)
     refine ⟨⟨A9,c9,E2,d2,zs++[⟨r,A6,xn,c6,l⟩],rfl,?_,⟨zAT (hk2 (hk1 HRO.out)) (by omega),fun z hz =>zAT (hk2 (hk1 (HZO.out z hz))) (by omega),?_⟩⟩,hb14.grown g0 (by have:=HG14.out.size;omega) (fun k hk =>by have:=Option.some.inj hk;omega)⟩
     ·rw [List.map_append,List.map_append,HSY.out,List.take_of_length_le (by have:=HL.out;omega)];rfl
     ·exact zAT (zAR HO13.out (fun k hk =>(g0.block k (by have:=zAP HO13.out k hk;have:=HG14.out.size;omega) (fun e =>by have:=zAG HO13.out k hk;have:=Option.some.inj e;omega)).trans (HG14.out.block k (zAP HO13.out k hk) (fun e =>by have:=zAG HO13.out k hk;have:=Option.some.inj e;omega)))) (by omega)
end Go.Proofs.YtekchkfjgofnkaaGreatDoor
