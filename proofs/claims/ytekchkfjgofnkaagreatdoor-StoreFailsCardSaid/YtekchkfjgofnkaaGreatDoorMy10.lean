/- Texts of one proof. -/
import Derived.Test.YtekchkfjgofnkaaGreatDoorMy9
set_option maxRecDepth 100000
set_option maxHeartbeats 8000000
namespace Go.Proofs.YtekchkfjgofnkaaGreatDoor
open Go.RowKit
theorem zNv (r:Rc) (A B:Option Addr) (n c d:Nat) (l1 l2:List Dp) (hn:n≤1000000) (w:World) (h1:zAD w w.heap.size 3 A n (dps l1)) (h2:zAD w w.heap.size 3 B n (dps l2)) :
  Calls Tryz.prog 60 #[rcv r A n c,rcv r B n d] w fun e w' =>∃ q:Bool,(q=true ↔ l1=l2)∧e=.returned (.bool q)∧Below w.heap.size w w':=by
 have HL1:Hid (l1.length=n):=by have:=h1.1;rw [zAn] at this;show _=_;omega
 have HL2:Hid (l2.length=n):=by have:=h2.1;rw [zAn] at this;show _=_;omega
 have H1:=yh h1
 have H2:=yh h2
 clear h1 h2
 unfold rcv rsv
 obtain ⟨ha0,ha1,hsz⟩:=zGQ w (.cells #[.int .i64 r.kind,.string (tx r.target),.int .u64 r.rule,.slice A n c,.int .u64 r.out,.int .u64 r.time,.string (tx r.tag)] 41) (.cells #[.int .i64 r.kind,.string (tx r.target),.int .u64 r.rule,.slice B n d,.int .u64 r.out,.int .u64 r.time,.string (tx r.tag)] 41)
 have HB:=yh (((Below.refl w.heap.size w).alloc (Nat.le_refl _) (.cells #[.int .i64 r.kind,.string (tx r.target),.int .u64 r.rule,.slice A n c,.int .u64 r.out,.int .u64 r.time,.string (tx r.tag)] 41)).alloc (by simp) (.cells #[.int .i64 r.kind,.string (tx r.target),.int .u64 r.rule,.slice B n d,.int .u64 r.out,.int .u64 r.time,.string (tx r.tag)] 41))
 have HA0:=yh ha0
 have HA1:=yh ha1
 have HSZ:=yh hsz
 clear ha0 ha1 hsz
 have hneq:∀ v:World,(binOp .neq 133 (zCV r) (zCV r)).run Tryz.prog v=.ok (.bool false) v:=fun v =>by
  obtain ⟨q,h1,h2⟩:=zGn r r v
  rw [h2,show q=false from by rw [← Bool.not_eq_true,h1];simp]
 have hn2:decide ((n:Int)=(n:Int))=true:=by simp
 have hn4:((n:Int) != (n:Int))=false:=by simp
 go_enter Tryz.func60,Tryz.ntmps60
 go_wp2_with fail
 generalize hW:(World.alloc (World.alloc w _) _)=W0 at *
 have ha0:=HA0.out
 have ha1:=HA1.out
 have hsz:=HSZ.out
 refine wp_region_held (S:=fun v =>Below (w.heap.size+2) W0 v) (by kernel_rfl) ?_
 have hS:Below (w.heap.size+2) W0 W0.drew:=(Below.refl _ W0).drew
 refine zAB 0 (rcv r A n c) rfl (by kernel_rfl) (by kernel_rfl) (by kernel_rfl) (fun _ _ _ h =>h) (by kernel_rfl) hS (by intro v hv;have q0:=(hv.cell (p:=⟨w.heap.size,0,none⟩) (show w.heap.size<w.heap.size+2 by omega)).trans (zAA (i:=0) ha0 rfl);have q1:=(hv.cell (p:=⟨w.heap.size,1,none⟩) (show w.heap.size<w.heap.size+2 by omega)).trans (zAA (i:=1) ha0 rfl);have q2:=(hv.cell (p:=⟨w.heap.size,2,none⟩) (show w.heap.size<w.heap.size+2 by omega)).trans (zAA (i:=2) ha0 rfl);have q3:=(hv.cell (p:=⟨w.heap.size,3,none⟩) (show w.heap.size<w.heap.size+2 by omega)).trans (zAA (i:=3) ha0 rfl);have q4:=(hv.cell (p:=⟨w.heap.size,4,none⟩) (show w.heap.size<w.heap.size+2 by omega)).trans (zAA (i:=4) ha0 rfl);have q5:=(hv.cell (p:=⟨w.heap.size,5,none⟩) (show w.heap.size<w.heap.size+2 by omega)).trans (zAA (i:=5) ha0 rfl);have q6:=(hv.cell (p:=⟨w.heap.size,6,none⟩) (show w.heap.size<w.heap.size+2 by omega)).trans (zAA (i:=6) ha0 rfl);go_simp;rfl) ?_
 refine zAB 2 (rcv r B n d) rfl (by kernel_rfl) (by kernel_rfl) (by kernel_rfl) (fun _ _ _ h =>h) (by kernel_rfl) hS (by intro v hv;have q0:=(hv.cell (p:=⟨w.heap.size+1,0,none⟩) (show w.heap.size+1<w.heap.size+2 by omega)).trans (zAA (i:=0) ha1 rfl);have q1:=(hv.cell (p:=⟨w.heap.size+1,1,none⟩) (show w.heap.size+1<w.heap.size+2 by omega)).trans (zAA (i:=1) ha1 rfl);have q2:=(hv.cell (p:=⟨w.heap.size+1,2,none⟩) (show w.heap.size+1<w.heap.size+2 by omega)).trans (zAA (i:=2) ha1 rfl);have q3:=(hv.cell (p:=⟨w.heap.size+1,3,none⟩) (show w.heap.size+1<w.heap.size+2 by omega)).trans (zAA (i:=3) ha1 rfl);have q4:=(hv.cell (p:=⟨w.heap.size+1,4,none⟩) (show w.heap.size+1<w.heap.size+2 by omega)).trans (zAA (i:=4) ha1 rfl);have q5:=(hv.cell (p:=⟨w.heap.size+1,5,none⟩) (show w.heap.size+1<w.heap.size+2 by omega)).trans (zAA (i:=5) ha1 rfl);have q6:=(hv.cell (p:=⟨w.heap.size+1,6,none⟩) (show w.heap.size+1<w.heap.size+2 by omega)).trans (zAA (i:=6) ha1 rfl);go_simp;rfl) ?_
 refine zAO 1 rfl (by kernel_rfl) (by kernel_rfl) (fun K hK =>?_)
 go_simp
 refine (zDX r A n c _).mono ?_
 rintro e w2 ⟨rfl,hb2⟩
 have hS2:Below (w.heap.size+2) W0 w2:=hS.trans (hb2.mono (by have:=hS.size;omega))
 refine hK _ _ hS2 ?_
 clear hK K
 refine zAO 3 rfl (by kernel_rfl) (by kernel_rfl) (fun K hK =>?_)
 go_simp
 refine (zDX r B n d _).mono ?_
 rintro e w3 ⟨rfl,hb3⟩
 have hS3:Below (w.heap.size+2) W0 w3:=hS2.trans (hb3.mono (by have:=hS2.size;omega))
 refine hK _ _ hS3 ?_
 clear hK K
 refine zAB 4 (.bool false) rfl (by kernel_rfl) (by kernel_rfl) (by kernel_rfl) (fun _ _ _ h =>h) (by kernel_rfl) hS3 (by intro v hv;have q:=hneq v;have g:=zFF r r (.tmp 8) (.tmp 10) v;go_simp) ?_
 refine zAB 5 (.bool false) rfl (by kernel_rfl) (by kernel_rfl) (by kernel_rfl) (fun _ _ _ h =>h) (by kernel_rfl) hS3 (fun _ _ =>by kernel_rfl) ?_
 refine zAB 6 (.pointer (some ⟨w.heap.size,3,none⟩)) rfl (by kernel_rfl) (by kernel_rfl) (by kernel_rfl) (fun _ _ _ h =>h) (by kernel_rfl) hS3 (fun _ _ =>by kernel_rfl) ?_
 refine zAB 7 (.slice A n c) rfl (by kernel_rfl) (by kernel_rfl) (by kernel_rfl) (fun _ _ _ h =>h) (by kernel_rfl) hS3 (by intro v hv;have q3:=(hv.cell (p:=⟨w.heap.size,3,none⟩) (show w.heap.size<w.heap.size+2 by omega)).trans (zAA (i:=3) ha0 rfl);go_simp) ?_
 refine zAB 8 (.int .i64 (n:Int)) rfl (by kernel_rfl) (by kernel_rfl) (by kernel_rfl) (fun _ _ _ h =>h) (by kernel_rfl) hS3 (by intro v hv;go_simp) ?_
 refine zAB 9 (.pointer (some ⟨w.heap.size+1,3,none⟩)) rfl (by kernel_rfl) (by kernel_rfl) (by kernel_rfl) (fun _ _ _ h =>h) (by kernel_rfl) hS3 (fun _ _ =>by kernel_rfl) ?_
 refine zAB 10 (.slice B n d) rfl (by kernel_rfl) (by kernel_rfl) (by kernel_rfl) (fun _ _ _ h =>h) (by kernel_rfl) hS3 (by intro v hv;have q3:=(hv.cell (p:=⟨w.heap.size+1,3,none⟩) (show w.heap.size+1<w.heap.size+2 by omega)).trans (zAA (i:=3) ha1 rfl);go_simp) ?_
 refine zAB 11 (.int .i64 (n:Int)) rfl (by kernel_rfl) (by kernel_rfl) (by kernel_rfl) (fun _ _ _ h =>h) (by kernel_rfl) hS3 (by intro v hv;go_simp) ?_
 refine zAB 12 (.bool false) rfl (by kernel_rfl) (by kernel_rfl) (by kernel_rfl) (fun _ _ _ h =>h) (by kernel_rfl) hS3 (by intro v hv;go_simp) ?_
 refine zAB 13 (.bool false) rfl (by kernel_rfl) (by kernel_rfl) (by kernel_rfl) (fun _ _ _ h =>h) (by kernel_rfl) hS3 (fun _ _ =>by kernel_rfl) ?_
 refine wpAnyH_done (by kernel_rfl) ?_ _
 go_simp
 have q3:=(hS3.cell (p:=⟨w.heap.size,3,none⟩) (show w.heap.size<w.heap.size+2 by omega)).trans (zAA (i:=3) ha0 rfl)
 have HW0:Hid (Below w.heap.size w W0):=HB.out
 have HS3:=yh hS3
 have HSZ2:Hid (W0.heap.size=w.heap.size+2):=hsz
 have hw3:Hid (w.heap.size+2≤w3.heap.size):=by have h:=hS3.size;show _≤_;omega
 clear hb2 hb3 hS hS2 hS3 ha0 hneq hW HB HA0 hsz HSZ
 go_wp2_with fail
 go_loopw [24] (fun idx wr =>∃ i:Nat,i≤n∧idx=.int .i64 (i:Int)∧l1.take i=l2.take i∧Below (w.heap.size+2) W0 wr) (fun idx wr =>n - (intOf idx).toNat)
 case atStart =>exact ⟨0,by omega,rfl,by simp,HS3.out⟩
 case round =>
  obtain ⟨i,hi,rfl,htk,hb⟩:=hrel
  have HTK:=yh htk
  clear htk
  by_cases hlt:i<n
  ·obtain ⟨x,hx⟩:∃ x,l1[i]? = some x:=⟨_,List.getElem?_eq_getElem (by rw [HL1.out];exact hlt)⟩
   obtain ⟨y,hy⟩:∃ y,l2[i]? = some y:=⟨_,List.getElem?_eq_getElem (by rw [HL2.out];exact hlt)⟩
   have hbw:Below w.heap.size w wr:=HW0.out.trans (hb.mono (by omega))
   obtain ⟨ad,rfl,_,hcx⟩:=(H1.out.below hbw).2 (by omega)
   obtain ⟨x0,x1,x2⟩:=zCl l1 i x hx
   have k0:=hcx _ _ x0
   have k1:=hcx _ _ x1
   have k2:=hcx _ _ x2
   rw [zDR] at k1
   rw [zDT] at k2
   have HX:=yh hx
   have HY:=yh hy
   have HBW:=yh hbw
   have HBR:=yh hb
   have hi0:(0:Int)≤(i:Int):=by omega
   have hi1:(i:Int)<(n:Int):=by omega
   clear hcx x0 x1 x2 hx hy hb hbw
   unfold rsv at k0
   obtain ⟨xn,xh,xo⟩:=x
   simp only at k0 k1 k2
   go_wp2_with fail
   have hnb:(wr.alloc (.cells #[.string (tx xn),.int .u64 xh,.bool xo] 95)).heap[wr.heap.size]? = some (.cells #[.string (tx xn),.int .u64 xh,.bool xo] 95 (0,0)):=by show (wr.heap.push _)[wr.heap.size]? = _;exact Array.getElem?_push_size
   have hbn:Below (w.heap.size+2) W0 (wr.alloc (.cells #[.string (tx xn),.int .u64 xh,.bool xo] 95)):=HBR.out.alloc (by have h1:=HBR.out.size;have h2:=hw3.out;have h3:=HSZ2.out;omega) _
   generalize (wr.alloc _)=W1 at *
   have f1:=(hbn.cell (p:=⟨w.heap.size+1,3,none⟩) (show w.heap.size+1<w.heap.size+2 by omega)).trans (zAA (i:=3) HA1.out rfl)
   obtain ⟨ad',hBe,_,hcy⟩:=(H2.out.below (HW0.out.trans (hbn.mono (by omega)))).2 (by omega)
   subst hBe
   obtain ⟨y0,y1,y2⟩:=zCl l2 i y HY.out
   have m0:=hcy _ _ y0
   have m1:=hcy _ _ y1
   have m2:=hcy _ _ y2
   rw [zDR] at m1
   rw [zDT] at m2
   unfold rsv at m0
   have p0:=zAA (i:=0) hnb rfl
   have p1:=zAA (i:=1) hnb rfl
   have p2:=zAA (i:=2) hnb rfl
   clear hcy y0 y1 y2 hnb k0 k1 k2
   have HBN:=yh hbn
   clear hbn
   by_cases hxy:(⟨xn,xh,xo⟩:Dp)=y
   ·have hq:∀ v:World,(binOp .neq 95 (Dp.val ⟨xn,xh,xo⟩) y.val).run Tryz.prog v=.ok (.bool false) v:=fun v =>by
     obtain ⟨q,h1,h2⟩:=zKv ⟨xn,xh,xo⟩ y v
     rw [h2,show q=false from by rw [← Bool.not_eq_true,h1];simp [hxy]]
    have HTK2:Hid (l1.take (i+1)=l2.take (i+1)):=by show _=_;rw [List.take_add_one,List.take_add_one,HTK.out,HX.out,HY.out,hxy]
    clear hxy
    refine wp_region_held (S:=fun v =>v.heap=W1.heap) (by kernel_rfl) ?_
    have hS:W1.drew.heap=W1.heap:=rfl
    refine zAB 0 (Dp.val ⟨xn,xh,xo⟩) rfl (by kernel_rfl) (by kernel_rfl) (by kernel_rfl) (fun _ _ _ h =>h) (by kernel_rfl) hS (by intro v hv;have q0:=(at_heap hv _).trans p0;have q1:=(at_heap hv _).trans p1;have q2:=(at_heap hv _).trans p2;go_simp;rfl) ?_
    refine zAB 1 (.pointer (some ⟨w.heap.size+1,3,none⟩)) rfl (by kernel_rfl) (by kernel_rfl) (by kernel_rfl) (fun _ _ _ h =>h) (by kernel_rfl) hS (fun _ _ =>by kernel_rfl) ?_
    refine zAB 2 (.slice (some ad') n d) rfl (by kernel_rfl) (by kernel_rfl) (by kernel_rfl) (fun _ _ _ h =>h) (by kernel_rfl) hS (by intro v hv;have q0:=(at_heap hv _).trans f1;go_simp) ?_
    refine zAB 3 (.int .i64 (i:Int)) rfl (by kernel_rfl) (by kernel_rfl) (by kernel_rfl) (fun _ _ _ h =>h) (by kernel_rfl) hS (fun _ _ =>by kernel_rfl) ?_
    refine zAB 4 (.pointer (some (ad'.add (i * 3)))) rfl (by kernel_rfl) (by kernel_rfl) (by kernel_rfl) (fun _ _ _ h =>h) (by kernel_rfl) hS (by intro v hv;go_simp) ?_
    refine zAB 5 (y.val) rfl (by kernel_rfl) (by kernel_rfl) (by kernel_rfl) (fun _ _ _ h =>h) (by kernel_rfl) hS (by intro v hv;have q0:=(at_heap hv _).trans m0;have q1:=(at_heap hv _).trans m1;have q2:=(at_heap hv _).trans m2;go_simp;rfl) ?_
    refine zAB 6 (.bool false) rfl (by kernel_rfl) (by kernel_rfl) (by kernel_rfl) (fun _ _ _ h =>h) (by kernel_rfl) hS (by intro v hv;have q:=hq v;have g:=zIX ⟨xn,xh,xo⟩ y (.tmp 29) (.tmp 34) v;go_simp) ?_
    refine wpAnyH_done (by kernel_rfl) ?_ _
    go_simp
    go_wp2
    exact ⟨⟨i+1,by omega,by go_num,HTK2.out,HBN.out.drew⟩,by simp [intOf];omega⟩
   ·have hq:∀ v:World,(binOp .neq 95 (Dp.val ⟨xn,xh,xo⟩) y.val).run Tryz.prog v=.ok (.bool true) v:=fun v =>by
     obtain ⟨q,h1,h2⟩:=zKv ⟨xn,xh,xo⟩ y v
     rw [h2,show q=true from by rw [h1];exact hxy]
    have HNE:Hid (l1≠l2):=fun h =>hxy (by have e:=HX.out;rw [h,HY.out] at e;exact (Option.some.inj e).symm)
    clear hxy
    refine wp_region_held (S:=fun v =>v.heap=W1.heap) (by kernel_rfl) ?_
    have hS:W1.drew.heap=W1.heap:=rfl
    refine zAB 0 (Dp.val ⟨xn,xh,xo⟩) rfl (by kernel_rfl) (by kernel_rfl) (by kernel_rfl) (fun _ _ _ h =>h) (by kernel_rfl) hS (by intro v hv;have q0:=(at_heap hv _).trans p0;have q1:=(at_heap hv _).trans p1;have q2:=(at_heap hv _).trans p2;go_simp;rfl) ?_
    refine zAB 1 (.pointer (some ⟨w.heap.size+1,3,none⟩)) rfl (by kernel_rfl) (by kernel_rfl) (by kernel_rfl) (fun _ _ _ h =>h) (by kernel_rfl) hS (fun _ _ =>by kernel_rfl) ?_
    refine zAB 2 (.slice (some ad') n d) rfl (by kernel_rfl) (by kernel_rfl) (by kernel_rfl) (fun _ _ _ h =>h) (by kernel_rfl) hS (by intro v hv;have q0:=(at_heap hv _).trans f1;go_simp) ?_
    refine zAB 3 (.int .i64 (i:Int)) rfl (by kernel_rfl) (by kernel_rfl) (by kernel_rfl) (fun _ _ _ h =>h) (by kernel_rfl) hS (fun _ _ =>by kernel_rfl) ?_
    refine zAB 4 (.pointer (some (ad'.add (i * 3)))) rfl (by kernel_rfl) (by kernel_rfl) (by kernel_rfl) (fun _ _ _ h =>h) (by kernel_rfl) hS (by intro v hv;go_simp) ?_
    refine zAB 5 (y.val) rfl (by kernel_rfl) (by kernel_rfl) (by kernel_rfl) (fun _ _ _ h =>h) (by kernel_rfl) hS (by intro v hv;have q0:=(at_heap hv _).trans m0;have q1:=(at_heap hv _).trans m1;have q2:=(at_heap hv _).trans m2;go_simp;rfl) ?_
    refine zAB 6 (.bool true) rfl (by kernel_rfl) (by kernel_rfl) (by kernel_rfl) (fun _ _ _ h =>h) (by kernel_rfl) hS (by intro v hv;have q:=hq v;have g:=zIX ⟨xn,xh,xo⟩ y (.tmp 29) (.tmp 34) v;go_simp) ?_
    refine wpAnyH_done (by kernel_rfl) ?_ _
    go_simp
    go_wp2
    go_ret
    exact ⟨false,by simpa using HNE.out,rfl,HW0.out.trans (HBN.out.drew.mono (by omega))⟩
  ·obtain rfl:i=n:=by omega
   have htk:=HTK.out
   rw [List.take_of_length_le (by rw [HL1.out];omega),List.take_of_length_le (by rw [HL2.out];omega)] at htk
   have HTK2:=yh htk
   clear htk
   have HBR:=yh hb
   clear hb
   go_wp2
   go_ret
   exact ⟨true,by simpa using HTK2.out,rfl,HW0.out.trans (HBR.out.mono (by omega))⟩
end Go.Proofs.YtekchkfjgofnkaaGreatDoor
