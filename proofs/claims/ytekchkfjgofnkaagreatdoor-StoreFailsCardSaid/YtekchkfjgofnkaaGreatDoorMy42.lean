/- Texts of one proof. -/
import Derived.Test.YtekchkfjgofnkaaGreatDoorMy41
set_option maxRecDepth 100000
set_option maxHeartbeats 8000000
namespace Go.Proofs.YtekchkfjgofnkaaGreatDoor
open Go.RowKit
theorem zCR.ahead {w W W':World} {base p b ps m:Nat} {T:Nat→Prop} {σ:FsSt} {X:Sx} {D:List UInt8} {x:Rw} {z:Int} {w':World} (h:zCR w base p b ps m T σ X D x W' z w') (hb:Below W.heap.size W W') (hT:∀ k,T k→k<W.heap.size):zCR w base p b ps m T σ X D x W z w':=by
 obtain ⟨h1,τ,h2,h3⟩:=h
 refine ⟨fun k hk =>(h1 k hk).trans (hb.block k (hT k hk.1)),τ,h2,?_⟩
 rcases h3 with ⟨hz,T',A',E',c',d',zs',g1,g2,g3,g4⟩ | h3
 ·exact .inl ⟨hz,T',A',E',c',d',zs',g1,fun k hk =>(g2 k hk).imp id (fun h =>Nat.le_trans hb.size h),g3,g4⟩
 ·exact .inr h3
def zIy (w:World) (base p b ps m:Nat) (T:Nat→Prop) (σ:FsSt) (X:Sx) (x:Rw) (W:World) (z:Int) (w':World):Prop :=
 (¬ (x.r.kind=1∧MayP (X.v:Int) x.r x.l)∧z=1∧StAt w base p b ps T σ m X w'∧Below W.heap.size W w')∨(x.r.kind=1∧MayP (X.v:Int) x.r x.l∧zCR w base p b ps m T σ X (frD X x.r x.l) x W z w')
theorem zOC {w W:World} {base p b ps m:Nat} {T:Nat→Prop} {σ:FsSt} {X:Sx} (h:StAt w base p b ps T σ m X W) (hi:StI X σ) (hm:m≤40000) (hl:Laid W) (r:Rc) (xA:Option Addr) (xn xc:Nat) (l:List Dp) (hfr:Fits r l) (hnr:Nums r l) (hxn:xn≤5000) (hxA:xA=none→xc=0)
  (hr:∀ W',Past T W W'→Below base w W'→zAD W' W'.heap.size 3 xA xn (dps l)) (br bs:Nat) (hbr:W.heap[br]? = some (.cells #[.int .i64 r.kind,.string (tx r.target),.int .u64 r.rule,.slice xA xn xc,.int .u64 r.out,.int .u64 r.time,.string (tx r.tag)] 41 (0,0))) (hbs:W.heap[bs]? = some (.cells #[.pointer (some ⟨ps,0,none⟩)] 29 (0,0))) :
  Calls Tryz.prog 35 #[.pointer (some ⟨br,0,none⟩),.pointer (some ⟨bs,0,none⟩)] W fun e w' =>∃ z:Int,e=.returned (.int .i64 z)∧zIy w base p b ps m T σ X ⟨r,xA,xn,xc,l⟩ W z w':=by
 have HVER:=yh (fun (v:World) (hb:Below W.heap.size W v) =>zEO ps p X v ((hb.block ps h.lt).trans h.box))
 have HMAY:=yh (fun (v:World) (hb:Below W.heap.size W v) =>zHu (X.v:Int) r xA xn xc l (by omega) hfr v (hr v (Past.of_below hb h.jt.lt) (h.jt.under.1.trans (hb.mono h.jt.under.2))))
 have HBR:Hid (∀ v:World,Below W.heap.size W v→v.heap[br]? = some (.cells #[.int .i64 r.kind,.string (tx r.target),.int .u64 r.rule,.slice xA xn xc,.int .u64 r.out,.int .u64 r.time,.string (tx r.tag)] 41 (0,0))):=fun v hb =>(hb.block br (zAJ hbr)).trans hbr
 have HBS:Hid (∀ v:World,Below W.heap.size W v→v.heap[bs]? = some (.cells #[.pointer (some ⟨ps,0,none⟩)] 29 (0,0))):=fun v hb =>(hb.block bs (zAJ hbs)).trans hbs
 have HH:=yh h
 have HADD:=yh (fun (hmr:MayP (X.v:Int) r l) (v:World) (hb:Below W.heap.size W v) =>zJu (h.below hb) hi hm (hl.below hb) r xA xn xc l hmr hfr hnr (by omega) hxA (fun W' hp hbw =>hr W' (fun k hk =>(hp k hk).trans (hb.block k (h.jt.lt k hk))) hbw) _ rfl)
 have HS0:Hid (Below W.heap.size W W.drew):=(Below.refl _ W).drew
 clear h hi hl hr hbr hbs hfr hnr
 go_enter Tryz.func35,Tryz.ntmps35
 by_cases hk:r.kind=1
 ·have hkf:(r.kind != 1)=false:=by rw [hk];rfl
  have HK:=yh hk
  clear hk
  go_wp2_with fail
  refine wp_region_held (S:=fun v:World =>Below W.heap.size W v) (by kernel_rfl) ?_
  refine zAB 0 (.pointer (some ⟨br,0,none⟩)) rfl (by kernel_rfl) (by kernel_rfl) (by kernel_rfl) (fun _ _ _ h =>h) (by kernel_rfl) HS0.out (fun _ _ =>by kernel_rfl) ?_
  refine zAB 1 (.int .i64 r.kind) rfl (by kernel_rfl) (by kernel_rfl) (by kernel_rfl) (fun _ _ _ h =>h) (by kernel_rfl) HS0.out (by intro v hv;have k0:=zAA (i:=0) (HBR.out v hv) rfl;go_simp) ?_
  refine zAB 2 (.bool false) rfl (by kernel_rfl) (by kernel_rfl) (by kernel_rfl) (fun _ _ _ h =>h) (by kernel_rfl) HS0.out (by intro v hv;go_simp) ?_
  refine zAB 3 (.bool false) rfl (by kernel_rfl) (by kernel_rfl) (by kernel_rfl) (fun _ _ _ h =>h) (by kernel_rfl) HS0.out (fun _ _ =>by kernel_rfl) ?_
  refine zAB 4 (.pointer (some ⟨ps,0,none⟩)) rfl (by kernel_rfl) (by kernel_rfl) (by kernel_rfl) (fun _ _ _ h =>h) (by kernel_rfl) HS0.out (by intro v hv;have k0:=zAA (i:=0) (HBS.out v hv) rfl;go_simp) ?_
  refine zAB 6 (.agg #[.int .i64 r.kind,.string (tx r.target),.int .u64 r.rule,.slice xA xn xc,.int .u64 r.out,.int .u64 r.time,.string (tx r.tag)]) rfl (by kernel_rfl) (by kernel_rfl) (by kernel_rfl) (fun _ _ _ h =>h) (by kernel_rfl) HS0.out (by intro v hv;have k0:=zAA (i:=0) (HBR.out v hv) rfl;have k1:=zAA (i:=1) (HBR.out v hv) rfl;have k2:=zAA (i:=2) (HBR.out v hv) rfl;have k3:=zAA (i:=3) (HBR.out v hv) rfl;have k4:=zAA (i:=4) (HBR.out v hv) rfl;have k5:=zAA (i:=5) (HBR.out v hv) rfl;have k6:=zAA (i:=6) (HBR.out v hv) rfl;go_simp) ?_
  refine zAO 5 rfl (by kernel_rfl) (by kernel_rfl) (fun K hK =>?_)
  go_simp
  refine (HVER.out _ HS0.out).mono ?_
  rintro e wv ⟨rfl,hwv⟩
  obtain rfl:=hwv
  refine hK _ _ HS0.out ?_
  clear hK K
  refine zAO 7 rfl (by kernel_rfl) (by kernel_rfl) (fun K hK =>?_)
  go_simp
  refine (HMAY.out _ HS0.out).mono ?_
  rintro e w1 ⟨ht,hb1⟩
  have HS1:=yh (HS0.out.trans (hb1.mono HS0.out.size))
  clear hb1
  by_cases hmay:MayP (X.v:Int) r l
  ·obtain rfl:=ht.yes hmay
   have HM:=yh (show MayP (X.v:Int) r l from hmay)
   refine hK _ _ HS1.out ?_
   clear hK K ht hmay
   refine zAB 8 (.bool false) rfl (by kernel_rfl) (by kernel_rfl) (by kernel_rfl) (fun _ _ _ h =>h) (by kernel_rfl) HS1.out (by intro v hv;go_simp) ?_
   refine zAB 9 (.bool false) rfl (by kernel_rfl) (by kernel_rfl) (by kernel_rfl) (fun _ _ _ h =>h) (by kernel_rfl) HS1.out (fun _ _ =>by kernel_rfl) ?_
   refine wpAnyH_done (by kernel_rfl) ?_ _
   go_simp
   have b0:=zAA (i:=0) (HBS.out w1 HS1.out) rfl
   have k0:=zAA (i:=0) (HBR.out w1 HS1.out) rfl
   have k1:=zAA (i:=1) (HBR.out w1 HS1.out) rfl
   have k2:=zAA (i:=2) (HBR.out w1 HS1.out) rfl
   have k3:=zAA (i:=3) (HBR.out w1 HS1.out) rfl
   have k4:=zAA (i:=4) (HBR.out w1 HS1.out) rfl
   have k5:=zAA (i:=5) (HBR.out w1 HS1.out) rfl
   have k6:=zAA (i:=6) (HBR.out w1 HS1.out) rfl
   go_wp2_with fail
   refine (HADD.out HM.out w1 HS1.out).mono ?_
   rintro e w2 ⟨z,rfl,had⟩
   have HAD:=yh had
   clear had
   go_wp2
   go_ret
   exact ⟨z,rfl,.inr ⟨HK.out,HM.out,HAD.out.ahead HS1.out HH.out.jt.lt⟩⟩
  ·obtain rfl:=ht.no hmay
   have HM:=yh (show ¬ MayP (X.v:Int) r l from hmay)
   refine hK _ _ HS1.out ?_
   clear hK K ht hmay
   refine zAB 8 (.bool true) rfl (by kernel_rfl) (by kernel_rfl) (by kernel_rfl) (fun _ _ _ h =>h) (by kernel_rfl) HS1.out (by intro v hv;go_simp) ?_
   refine zAB 9 (.bool true) rfl (by kernel_rfl) (by kernel_rfl) (by kernel_rfl) (fun _ _ _ h =>h) (by kernel_rfl) HS1.out (fun _ _ =>by kernel_rfl) ?_
   refine wpAnyH_done (by kernel_rfl) ?_ _
   go_simp
   go_wp2
   go_ret
   exact ⟨1,rfl,.inl ⟨fun h =>HM.out h.2,rfl,HH.out.below HS1.out,HS1.out⟩⟩
 ·have hkf:(r.kind != 1)=true:=by rw [bne_iff_ne];exact hk
  have HK:Hid (¬ r.kind=1):=hk
  clear hk
  go_wp2_with fail
  refine wp_region_held (S:=fun v:World =>Below W.heap.size W v) (by kernel_rfl) ?_
  refine zAB 0 (.pointer (some ⟨br,0,none⟩)) rfl (by kernel_rfl) (by kernel_rfl) (by kernel_rfl) (fun _ _ _ h =>h) (by kernel_rfl) HS0.out (fun _ _ =>by kernel_rfl) ?_
  refine zAB 1 (.int .i64 r.kind) rfl (by kernel_rfl) (by kernel_rfl) (by kernel_rfl) (fun _ _ _ h =>h) (by kernel_rfl) HS0.out (by intro v hv;have k0:=zAA (i:=0) (HBR.out v hv) rfl;go_simp) ?_
  refine zAB 2 (.bool true) rfl (by kernel_rfl) (by kernel_rfl) (by kernel_rfl) (fun _ _ _ h =>h) (by kernel_rfl) HS0.out (by intro v hv;go_simp) ?_
  refine zAB 3 (.bool true) rfl (by kernel_rfl) (by kernel_rfl) (by kernel_rfl) (fun _ _ _ h =>h) (by kernel_rfl) HS0.out (fun _ _ =>by kernel_rfl) ?_
  refine zAX 4 rfl (by kernel_rfl) (by kernel_rfl) (by kernel_rfl) (fun _ _ _ h =>h) (by kernel_rfl) HS0.out ?_
  refine zAX 5 rfl (by kernel_rfl) (by kernel_rfl) (by kernel_rfl) (fun _ _ _ h =>h) (by kernel_rfl) HS0.out ?_
  refine zAX 6 rfl (by kernel_rfl) (by kernel_rfl) (by kernel_rfl) (fun _ _ _ h =>h) (by kernel_rfl) HS0.out ?_
  refine zAX 7 rfl (by kernel_rfl) (by kernel_rfl) (by kernel_rfl) (fun _ _ _ h =>h) (by kernel_rfl) HS0.out ?_
  refine zAX 8 rfl (by kernel_rfl) (by kernel_rfl) (by kernel_rfl) (fun _ _ _ h =>h) (by kernel_rfl) HS0.out ?_
  refine zAB 9 (.bool true) rfl (by kernel_rfl) (by kernel_rfl) (by kernel_rfl) (fun _ _ _ h =>h) (by kernel_rfl) HS0.out (fun _ _ =>by kernel_rfl) ?_
  refine wpAnyH_done (by kernel_rfl) ?_ _
  go_simp
  go_wp2
  go_ret
  exact ⟨1,rfl,.inl ⟨fun h =>HK.out h.1,rfl,HH.out.below HS0.out,HS0.out⟩⟩
def zCQ (w:World) (base p b ps m:Nat) (T:Nat→Prop) (σ:FsSt) (X:Sx) (D:List UInt8) (x:Rw) (W:World) (z:Int) (w':World):Prop :=
  Past (fun k =>T k∧k≠ps) W w'∧∃ τ,Outs σ ⟨0,[108,111,103],[],D,0,[]⟩ τ z ∧
    ((z=0∧∃ (T':Nat→Prop) (A' E':Option Addr) (c' d':Nat) (zs':List Rw),(∀ k,T k→T' k)∧(∀ k,T' k→T k∨W.heap.size≤k)∧zs'.map Rw.say=(X.zs++[x]).map Rw.say∧StAt w base p b ps T' τ (m+2) ⟨false,X.v,A',X.n+1,c',E',d',X.G+D.length,zs',X.es++[.int .i64 ((X.G+D.length:Nat):Int)]⟩ w') ∨
     (z≠0∧StAt w base p b ps T τ (m+2) { X with ov:=(z == 7) } w'))
theorem zCQ.ahead {w W W':World} {base p b ps m:Nat} {T:Nat→Prop} {σ:FsSt} {X:Sx} {D:List UInt8} {x:Rw} {z:Int} {w':World} (h:zCQ w base p b ps m T σ X D x W' z w') (hb:Below W.heap.size W W') (hT:∀ k,T k→k<W.heap.size):zCQ w base p b ps m T σ X D x W z w':=by
 obtain ⟨h1,τ,h2,h3⟩:=h
 refine ⟨fun k hk =>(h1 k hk).trans (hb.block k (hT k hk.1)),τ,h2,?_⟩
 rcases h3 with ⟨hz,T',A',E',c',d',zs',g1,g2,g3,g4⟩ | h3
 ·exact .inl ⟨hz,T',A',E',c',d',zs',g1,fun k hk =>(g2 k hk).imp id (fun h =>Nat.le_trans hb.size h),g3,g4⟩
 ·exact .inr h3
theorem zCR.done {w W w1:World} {base p b ps m:Nat} {T:Nat→Prop} {σ:FsSt} {X:Sx} {D:List UInt8} {x:Rw} {z:Int} (h:zCR w base p b ps m T σ X D x W z w1) (hT:∀ k,T k→k<W.heap.size):zCQ w base p b ps m T σ X D x W z (w1.setCell ⟨ps,0,none⟩ (.bool (z == 7))):=by
 obtain ⟨h1,τ,h2,h3⟩:=h
 have hlt:∀ k,T k→k≠ps→k<w1.heap.size:=fun k hk hn =>by
  have h4:=h1 k ⟨hk,hn⟩
  have h5:=hT k hk
  rcases Nat.lt_or_ge k w1.heap.size with h6 | h6
  ·exact h6
  ·rw [Array.getElem?_eq_none h6,Array.getElem?_eq_getElem h5] at h4
   cases h4
 rcases h3 with ⟨rfl,T',A',E',c',d',zs',g1,g2,g3,g4⟩ | ⟨hz,g⟩
 ·have hs:=g4.setov false
  exact ⟨fun k hk =>(hs.2.2.2.2.2 k (hlt k hk.1 hk.2) hk.2).trans (h1 k hk),τ,h2,.inl ⟨rfl,T',A',E',c',d',zs',g1,g2,g3,hs.1⟩⟩
 ·have hs:=g.setov (z == 7)
  exact ⟨fun k hk =>(hs.2.2.2.2.2 k (hlt k hk.1 hk.2) hk.2).trans (h1 k hk),τ,h2,.inr ⟨hz,hs.1⟩⟩
def zCu (w:World) (base p b ps m:Nat) (T:Nat→Prop) (σ:FsSt) (X:Sx) (x:Rw) (W:World) (z:Int) (w':World):Prop :=
 (X.ov=true∧z=7∧StAt w base p b ps T σ m X w'∧Past T W w') ∨
 (X.ov=false∧¬ (x.r.kind=1∧MayP (X.v:Int) x.r x.l)∧z=1∧StAt w base p b ps T σ m X w'∧Past (fun k =>T k∧k≠ps) W w') ∨
 (X.ov=false∧x.r.kind=1∧MayP (X.v:Int) x.r x.l∧zCQ w base p b ps m T σ X (frD X x.r x.l) x W z w')
theorem zGt {w W:World} {base p b ps m:Nat} {T:Nat→Prop} {σ:FsSt} {X:Sx} (h:StAt w base p b ps T σ m X W) (hi:StI X σ) (hm:m≤40000) (hl:Laid W) (r:Rc) (xA:Option Addr) (xn xc:Nat) (l:List Dp) (hfr:Fits r l) (hnr:Nums r l) (hxn:xn≤5000) (hxA:xA=none→xc=0)
  (hr:∀ W',Past T W W'→Below base w W'→zAD W' W'.heap.size 3 xA xn (dps l)) :
  Calls Tryz.prog 16 #[.pointer (some ⟨ps,0,none⟩),.agg #[.int .i64 r.kind,.string (tx r.target),.int .u64 r.rule,.slice xA xn xc,.int .u64 r.out,.int .u64 r.time,.string (tx r.tag)]] W fun e w' =>∃ z:Int,e=.returned (.int .i64 z)∧zCu w base p b ps m T σ X ⟨r,xA,xn,xc,l⟩ W z w':=by
 have z1:(W.alloc (.cells #[.pointer (some ⟨ps,0,none⟩)] 29)).heap.size=W.heap.size+1:=by simp
 have hb1:=(Below.refl W.heap.size W).alloc (Nat.le_refl _) (.cells #[.pointer (some ⟨ps,0,none⟩)] 29)
 have hb2:=hb1.alloc hb1.size (.cells #[.int .i64 r.kind,.string (tx r.target),.int .u64 r.rule,.slice xA xn xc,.int .u64 r.out,.int .u64 r.time,.string (tx r.tag)] 41)
 have e1:=(Below.heap_alloc (W.alloc (.cells #[.pointer (some ⟨ps,0,none⟩)] 29)) (.cells #[.int .i64 r.kind,.string (tx r.target),.int .u64 r.rule,.slice xA xn xc,.int .u64 r.out,.int .u64 r.time,.string (tx r.tag)] 41) W.heap.size (by rw [z1];omega)).trans (zAE W (.cells #[.pointer (some ⟨ps,0,none⟩)] 29))
 have e2:=zAE (W.alloc (.cells #[.pointer (some ⟨ps,0,none⟩)] 29)) (.cells #[.int .i64 r.kind,.string (tx r.target),.int .u64 r.rule,.slice xA xn xc,.int .u64 r.out,.int .u64 r.time,.string (tx r.tag)] 41)
 rw [z1] at e2
 obtain ⟨W2,hW2⟩:∃ x,x=(W.alloc (.cells #[.pointer (some ⟨ps,0,none⟩)] 29)).alloc (.cells #[.int .i64 r.kind,.string (tx r.target),.int .u64 r.rule,.slice xA xn xc,.int .u64 r.out,.int .u64 r.time,.string (tx r.tag)] 41):=⟨_,rfl⟩
 rw [← hW2] at hb2 e1 e2
 have h2:=h.below hb2
 have k0:=zAA (i:=0) e1 rfl
 have HW2:=yh hW2
 have HB2:=yh hb2
 have HH:=yh h
 have HH2:=yh h2
 have HPW:Hid (∀ w',Past (fun k =>T k∧k≠ps) W2 w'→Past (fun k =>T k∧k≠ps) W w'):=fun w' hp k hk =>(hp k hk).trans (hb2.block k (h.jt.lt k hk.1))
 cases hov:X.ov with
 | true =>
  have HUN:=yh (zDi ps p X W2 h2.box hov 35 #[.pointer (some ⟨W.heap.size+1,0,none⟩),.pointer (some ⟨W.heap.size,0,none⟩)])
  have HOV:=yh hov
  clear hb1 z1 hb2 e1 e2 h2 h hi hl hr hW2 hov
  rw [HW2.out] at k0
  go_enter Tryz.func16,Tryz.ntmps16
  go_wp2_with fail
  rw [← HW2.out]
  refine HUN.out.mono ?_
  rintro e w3 ⟨rfl,hw⟩
  obtain rfl:=hw
  clear k0
  go_wp2
  go_ret
  exact ⟨7,rfl,.inl ⟨HOV.out,rfl,HH2.out,Past.of_below HB2.out HH.out.jt.lt⟩⟩
 | false =>
  have hput:=zOC h2 hi hm (hl.below hb2) r xA xn xc l hfr hnr hxn hxA (fun W' hp hb =>hr W' (fun k hk =>(hp k hk).trans (hb2.block k (h.jt.lt k hk))) hb) (W.heap.size+1) W.heap.size e2 e1
  have HUN:=yh (zDh ps p X W2 h2.box hov 35 #[.pointer (some ⟨W.heap.size+1,0,none⟩),.pointer (some ⟨W.heap.size,0,none⟩)] (enters_of Tryz.func35 (by kernel_rfl) rfl) (fun z w' =>zIy w base p b ps m T σ X ⟨r,xA,xn,xc,l⟩ W2 z w') (fun z w1 hq =>by
   rcases hq with ⟨_,_,hst,_⟩ | ⟨_,_,_,τ,_,hq⟩
   ·exact ⟨X,hst.box⟩
   ·rcases hq with ⟨_,T',A',E',c',d',zs',_,_,_,hst⟩ | ⟨_,hst⟩
    ·exact ⟨_,hst.box⟩
    ·exact ⟨_,hst.box⟩) hput)
  have HOV:=yh hov
  clear hb1 z1 hb2 e1 e2 h2 h hi hl hr hW2 hov hput
  rw [HW2.out] at k0
  go_enter Tryz.func16,Tryz.ntmps16
  go_wp2_with fail
  rw [← HW2.out]
  refine HUN.out.mono ?_
  rintro e w3 ⟨z,w1,rfl,hq,rfl⟩
  have HQ:=yh hq
  clear k0 hq
  go_wp2
  go_ret
  refine ⟨z,rfl,.inr ?_⟩
  rcases HQ.out with ⟨hno,rfl,hst,hb⟩ | ⟨hk,hmay,hp,τ,ho,hq⟩
  ·have hs:=hst.setov false
   refine .inl ⟨HOV.out,hno,rfl,?_,HPW.out _ (fun k hk =>(hs.2.2.2.2.2 k (Nat.lt_of_lt_of_le (HH2.out.jt.lt k hk.1) hb.size) hk.2).trans (hb.block k (HH2.out.jt.lt k hk.1)))⟩
   have:=hs.1
   rw [show ({ X with ov:=false }:Sx)=X from by rw [← HOV.out]] at this
   exact this
  ·exact .inr ⟨HOV.out,hk,hmay,(zCR.done ⟨hp,τ,ho,hq⟩ HH2.out.jt.lt).ahead HB2.out HH.out.jt.lt⟩
theorem zJv {w W:World} {base p b ps m:Nat} {T:Nat→Prop} {σ:FsSt} {X:Sx} (h:StAt w base p b ps T σ m X W) (hi:StI X σ) (hm:m≤40000) (bs:Nat) (hbs:W.heap[bs]? = some (.cells #[.pointer (some ⟨ps,0,none⟩)] 29 (0,0))) :
  Calls Tryz.prog 51 #[.pointer (some ⟨bs,0,none⟩)] W fun e w' =>∃ z:Int,e=.returned (.int .i64 z)∧∃ τ,Outs σ ⟨2,[108,111,103],[],[],0,[]⟩ τ z∧StAt w base p b ps T τ (m+2) X w'∧Past T W w':=by
 have k0:=zAA (i:=0) hbs rfl
 have k1:W.cell? ⟨ps,1,none⟩=some (.pointer (some ⟨p,0,none⟩)):=zAA (i:=1) h.box rfl
 have HS:=yh (zRF (σ:=σ) [108,111,103] (by simp) hi.hf hi.hg h.jt (by omega))
 have HH:=yh h
 clear h hi hbs
 go_enter Tryz.func51,Tryz.ntmps51
 go_wp2_with fail
 refine HS.out.mono ?_
 rintro e w1 ⟨z,τ,rfl,hp,ho,hj⟩
 have HP:=yh hp
 have HO:=yh ho
 have HJ:=yh hj
 clear hp ho hj k0 k1
 go_wp2
 go_ret
 exact ⟨z,rfl,τ,HO.out,HH.out.past HJ.out HP.out,HP.out⟩
def zCf (w:World) (base p b ps m:Nat) (T:Nat→Prop) (σ:FsSt) (X:Sx) (W:World) (z:Int) (w':World):Prop :=
 Past (fun k =>T k∧k≠ps) W w'∧((X.ov=true∧z=7∧StAt w base p b ps T σ m X w')∨(X.ov=false∧∃ τ,Outs σ ⟨2,[108,111,103],[],[],0,[]⟩ τ z∧StAt w base p b ps T τ (m+2) { X with ov:=(z == 7) } w'))
theorem zKh {w W:World} {base p b ps m:Nat} {T:Nat→Prop} {σ:FsSt} {X:Sx} (h:StAt w base p b ps T σ m X W) (hi:StI X σ) (hm:m≤40000) :
  Calls Tryz.prog 30 #[.pointer (some ⟨ps,0,none⟩)] W fun e w' =>∃ z:Int,e=.returned (.int .i64 z)∧zCf w base p b ps m T σ X W z w':=by
 have hb2:=(Below.refl W.heap.size W).alloc (Nat.le_refl _) (.cells #[.pointer (some ⟨ps,0,none⟩)] 29)
 have e1:=zAE W (.cells #[.pointer (some ⟨ps,0,none⟩)] 29)
 obtain ⟨W2,hW2⟩:∃ x,x=W.alloc (.cells #[.pointer (some ⟨ps,0,none⟩)] 29):=⟨_,rfl⟩
 rw [← hW2] at hb2 e1
 have h2:=h.below hb2
 have k0:=zAA (i:=0) e1 rfl
 have HW2:=yh hW2
 have HB2:=yh hb2
 have HH:=yh h
 have HH2:=yh h2
 cases hov:X.ov with
 | true =>
  have HUN:=yh (zDi ps p X W2 h2.box hov 51 #[.pointer (some ⟨W.heap.size,0,none⟩)])
  have HOV:=yh hov
  clear hb2 e1 h2 h hi hW2 hov
  rw [HW2.out] at k0
  go_enter Tryz.func30,Tryz.ntmps30
  go_wp2_with fail
  rw [← HW2.out]
  refine HUN.out.mono ?_
  rintro e w3 ⟨rfl,hw⟩
  obtain rfl:=hw
  clear k0
  go_wp2
  go_ret
  exact ⟨7,rfl,fun k hk =>HB2.out.block k (HH.out.jt.lt k hk.1),.inl ⟨HOV.out,rfl,HH2.out⟩⟩
 | false =>
  have HUN:=yh (zDh ps p X W2 h2.box hov 51 #[.pointer (some ⟨W.heap.size,0,none⟩)] (enters_of Tryz.func51 (by kernel_rfl) rfl) (fun z w' =>∃ τ,Outs σ ⟨2,[108,111,103],[],[],0,[]⟩ τ z∧StAt w base p b ps T τ (m+2) X w'∧Past T W2 w') (fun z w1 ⟨τ,_,hst,_⟩ =>⟨X,hst.box⟩) (zJv h2 hi hm W.heap.size e1))
  have HOV:=yh hov
  clear hb2 e1 h2 h hi hW2 hov
  rw [HW2.out] at k0
  go_enter Tryz.func30,Tryz.ntmps30
  go_wp2_with fail
  rw [← HW2.out]
  refine HUN.out.mono ?_
  rintro e w3 ⟨z,w1,rfl,⟨τ,ho,hst,hp⟩,rfl⟩
  have hs:=hst.setov (z == 7)
  have HFIN:Hid (zCf w base p b ps m T σ X W z (w1.setCell ⟨ps,0,none⟩ (.bool (z == 7)))) :=
   ⟨fun k hk =>((hs.2.2.2.2.2 k (hst.jt.lt k hk.1) hk.2).trans (hp k hk.1)).trans (HB2.out.block k (HH.out.jt.lt k hk.1)),.inr ⟨HOV.out,τ,ho,hs.1⟩⟩
  clear k0 ho hst hp hs
  go_wp2
  go_ret
  exact ⟨z,rfl,HFIN.out⟩
def zCC (w:World) (base p b ps m:Nat) (T:Nat→Prop) (σ:FsSt) (X:Sx) (v n:Nat) (xs:List Rw) (ov:Int→Bool) (W:World) (z:Int) (w':World):Prop :=
  Past (fun k =>T k∧k≠ps) W w'∧∃ τ,StZ [108,111,103] [110,101,119] (zAS v (v:Int) xs) 40000000 z σ τ ∧
    ((z=0∧∃ (T':Nat→Prop) (A' E':Option Addr) (c' d':Nat) (zs':List Rw),(∀ k,T k→T' k)∧(∀ k,T' k→T k∨W.heap.size≤k)∧zs'.map Rw.say=xs.map Rw.say∧StAt w base p b ps T' τ (m+8) ⟨ov z,v,A',n,c',E',d',eo (v:Int) xs n,zs',zDq (v:Int) xs n⟩ w') ∨
     (z≠0∧StAt w base p b ps T τ (m+8) { X with ov:=ov z } w'))
theorem zKA {w W:World} {base p b ps m:Nat} {T:Nat→Prop} {σ:FsSt} {X:Sx} (h:StAt w base p b ps T σ m X W) (ver:Int) (A:Option Addr) (n c:Nat) (en:Int) (hen:en≠0) (bs bv bl:Nat) (hbs:W.heap[bs]? = some (.cells #[.pointer (some ⟨ps,0,none⟩)] 29 (0,0))) (hbv:W.heap[bv]? = some (.cells #[.int .i64 ver] 3 (0,0))) (hbl:W.heap[bl]? = some (.cells #[.slice A n c] 33 (0,0)))
  (HP:∀ W1,Below W.heap.size W W1→Calls Tryz.prog 68 #[.int .i64 ver,.slice A n c] W1 fun e w' =>e=.returned (.tuple #[.slice none 0 0,.int .i64 en])∧Below W1.heap.size W1 w') :
  Calls Tryz.prog 53 #[.pointer (some ⟨bs,0,none⟩),.pointer (some ⟨bv,0,none⟩),.pointer (some ⟨bl,0,none⟩)] W fun e w' =>e=.returned (.int .i64 en)∧StAt w base p b ps T σ m X w'∧Below W.heap.size W w':=by
 have HS0:Hid (W.drew.cell? ⟨ps,1,none⟩=some (.pointer (some ⟨p,0,none⟩))∧W.drew.heap[bs]? = some (.cells #[.pointer (some ⟨ps,0,none⟩)] 29 (0,0))∧W.drew.heap[bv]? = some (.cells #[.int .i64 ver] 3 (0,0))∧W.drew.heap[bl]? = some (.cells #[.slice A n c] 33 (0,0))):=⟨zAA (i:=1) h.box rfl,hbs,hbv,hbl⟩
 have HST:=yh (zNL p [108,111,103] [110,101,119] ver en hen A n c W.drew (yh fun W1 hb =>HP W1 ((Below.refl W.heap.size W).drew.trans hb)))
 have HB0:Hid (Below W.heap.size W W.drew):=(Below.refl _ W).drew
 have HH:=yh h
 have hze:(en == 0)=false:=by simpa using hen
 have hzn:(en != 0)=true:=by simpa using hen
 clear h HP hbs hbv hbl hen
 go_enter Tryz.func53,Tryz.ntmps53
 go_wp2_with fail
 refine wp_region_held (S:=fun v:World =>v.cell? ⟨ps,1,none⟩=some (.pointer (some ⟨p,0,none⟩))∧v.heap[bs]? = some (.cells #[.pointer (some ⟨ps,0,none⟩)] 29 (0,0))∧v.heap[bv]? = some (.cells #[.int .i64 ver] 3 (0,0))∧v.heap[bl]? = some (.cells #[.slice A n c] 33 (0,0))) (by kernel_rfl) ?_
 change wpAnyH _ _ _ _ _ _ _ _ W.drew
 refine zAB 0 (.pointer (some ⟨ps,0,none⟩)) rfl (by kernel_rfl) (by kernel_rfl) (by kernel_rfl) (fun _ _ _ h =>h) (by kernel_rfl) HS0.out (by intro v hv;have z:=zAA (i:=0) hv.2.1 rfl;go_simp) ?_
 refine zAB 1 (.pointer (some ⟨ps,0,none⟩)) rfl (by kernel_rfl) (by kernel_rfl) (by kernel_rfl) (fun _ _ _ h =>h) (by kernel_rfl) HS0.out (fun _ _ =>by kernel_rfl) ?_
 refine zAB 2 (.pointer (some ⟨ps,1,none⟩)) rfl (by kernel_rfl) (by kernel_rfl) (by kernel_rfl) (fun _ _ _ h =>h) (by kernel_rfl) HS0.out (fun _ _ =>by kernel_rfl) ?_
 refine zAB 3 (.pointer (some ⟨p,0,none⟩)) rfl (by kernel_rfl) (by kernel_rfl) (by kernel_rfl) (fun _ _ _ h =>h) (by kernel_rfl) HS0.out (by intro v hv;have z:=hv.1;go_simp) ?_
 refine zAB 4 (.int .i64 ver) rfl (by kernel_rfl) (by kernel_rfl) (by kernel_rfl) (fun _ _ _ h =>h) (by kernel_rfl) HS0.out (by intro v hv;have z:=zAA (i:=0) hv.2.2.1 rfl;go_simp) ?_
 refine zAB 5 (.slice A n c) rfl (by kernel_rfl) (by kernel_rfl) (by kernel_rfl) (fun _ _ _ h =>h) (by kernel_rfl) HS0.out (by intro v hv;have z:=zAA (i:=0) hv.2.2.2 rfl;go_simp) ?_
 refine zAO 6 rfl (by kernel_rfl) (by kernel_rfl) (fun K hK =>?_)
 go_simp
 refine HST.out.mono ?_
 rintro e w1 ⟨rfl,hb1⟩
 have HB1:Hid (Below W.heap.size W w1):=HB0.out.trans hb1
 have HS1:Hid (w1.cell? ⟨ps,1,none⟩=some (.pointer (some ⟨p,0,none⟩))∧w1.heap[bs]? = some (.cells #[.pointer (some ⟨ps,0,none⟩)] 29 (0,0))∧w1.heap[bv]? = some (.cells #[.int .i64 ver] 3 (0,0))∧w1.heap[bl]? = some (.cells #[.slice A n c] 33 (0,0))):=⟨zAA (i:=1) (HH.out.below HB1.out).box rfl,(HB1.out.block bs (zAJ HS0.out.2.1)).trans HS0.out.2.1,(HB1.out.block bv (zAJ HS0.out.2.2.1)).trans HS0.out.2.2.1,(HB1.out.block bl (zAJ HS0.out.2.2.2)).trans HS0.out.2.2.2⟩
 clear hb1
 refine hK _ _ HS1.out ?_
 clear hK K
 refine zAB 7 (.int .i64 en) rfl (by kernel_rfl) (by kernel_rfl) (by kernel_rfl) (fun _ _ _ h =>h) (by kernel_rfl) HS1.out (fun _ _ =>by kernel_rfl) ?_
 refine wpAnyH_done (by kernel_rfl) ?_ _
 go_simp
 go_wp2
 go_ret
 exact ⟨rfl,HH.out.below HB1.out,HB1.out⟩
theorem zOD {w W:World} {base p b ps m:Nat} {T:Nat→Prop} {σ:FsSt} {X:Sx} (h:StAt w base p b ps T σ m X W) (hi:StI X σ) (hdn:σ.down=false) (hm:m≤40000) (hl:∀ W',Below base w W'→Laid W') (ver:Int) (v:Nat) (hver:ver=(v:Int)) (hv:1≤v∧v≤3) (A:Option Addr) (n c:Nat) (xs:List Rw) (hmay:zAe (v:Int) xs) (hok:∀ x ∈ xs,Fits x.r x.l∧Nums x.r x.l∧x.n≤1000) (hxn:xs.length=n) (hn:n≤900)
  (hrc:∀ W',Past T W W'→Below base w W'→Recs W' W'.heap.size A n xs) (bs bv bl:Nat) (hTs:T bs∧bs≠ps) (hTv:T bv) (hTl:T bl) (hne:bv≠ps∧bl≠ps) (hbs:W.heap[bs]? = some (.cells #[.pointer (some ⟨ps,0,none⟩)] 29 (0,0))) (hbv:W.heap[bv]? = some (.cells #[.int .i64 ver] 3 (0,0))) (hbl:W.heap[bl]? = some (.cells #[.slice A n c] 33 (0,0))) :
  Calls Tryz.prog 53 #[.pointer (some ⟨bs,0,none⟩),.pointer (some ⟨bv,0,none⟩),.pointer (some ⟨bl,0,none⟩)] W fun e w' =>∃ z:Int,e=.returned (.int .i64 z)∧zCC w base p b ps m T σ X v n xs (fun _ =>X.ov) W z w':=by
 have HS0:Hid (W.drew.cell? ⟨ps,1,none⟩=some (.pointer (some ⟨p,0,none⟩))∧W.drew.heap[bs]? = some (.cells #[.pointer (some ⟨ps,0,none⟩)] 29 (0,0))∧W.drew.heap[bv]? = some (.cells #[.int .i64 ver] 3 (0,0))∧W.drew.heap[bl]? = some (.cells #[.slice A n c] 33 (0,0))):=⟨zAA (i:=1) h.box rfl,hbs,hbv,hbl⟩
 have hb0:Below W.heap.size W W.drew:=(Below.refl _ W).drew
 have hd:=h.below hb0
 have hbig:=zEY hmay (by omega)
 have hl60:∀ x ∈ xs,x.l.length≤1000000:=fun x hx =>by have:=(zBZ (hmay x hx).1).2.2.1;omega
 have HST:=yh (zJZ hi.sz hi.hf hi.hg hdn hd.jt (by omega) [108,111,103] [110,101,119] (zAS v (v:Int) xs) (by decide) (by simp) (by simp) (by omega) ver A n c (yh fun W1 hb =>by
  rw [hver]
  have hbw:=hb0.trans hb
  refine (zHn v hv xs A n c (by omega) hok W1 (hl W1 (h.jt.under.1.trans (hbw.mono h.jt.under.2))) (hrc W1 (Past.of_below hbw h.jt.lt) (h.jt.under.1.trans (hbw.mono h.jt.under.2)))).mono ?_
  rintro e w' ⟨h1,hb1⟩
  refine ⟨?_,hb1⟩
  rcases h1 with ⟨_,u,rfl,ho⟩ | ⟨hno,_⟩
  ·obtain ⟨A1,c1,rfl,hA⟩:=zAL ho
   exact ⟨A1,c1,rfl,hA,ho⟩
  ·exact absurd hmay hno))
 have HOP:=yh (fun (τ:FsSt) (m':Nat) (W':World) (hj:JT w base p b T (fun y =>y=τ) m' W') (hlw:Laid W') (hlog:τ.fl [108,111,103]=some ⟨zAS v (v:Int) xs,(zAS v (v:Int) xs).length⟩) =>zRE hj v n hv xs hxn hmay (fun x hx =>(hok x hx).1) hl60 (by omega) _ hlog hlw)
 have HB0:=yh hb0
 have HH:=yh h
 have HD:=yh hd
 have HTS:=yh hTs
 have HTV:=yh hTv
 have HTL:=yh hTl
 have HNE:=yh hne
 have HXT:Hid (xs.take n=xs):=List.take_of_length_le (by omega)
 have HPB:Hid (∀ W',Past T W.drew W'→Past T W W'):=fun W' hp k hk =>hp k hk
 have HLW:=yh hl
 clear h hi hdn hl hver hok hmay hrc hbs hbv hbl hb0 hd hbig hl60 hTs hTv hTl hne hxn
 go_enter Tryz.func53,Tryz.ntmps53
 go_wp2_with fail
 refine wp_region_held (S:=fun v:World =>v.cell? ⟨ps,1,none⟩=some (.pointer (some ⟨p,0,none⟩))∧v.heap[bs]? = some (.cells #[.pointer (some ⟨ps,0,none⟩)] 29 (0,0))∧v.heap[bv]? = some (.cells #[.int .i64 ver] 3 (0,0))∧v.heap[bl]? = some (.cells #[.slice A n c] 33 (0,0))) (by kernel_rfl) ?_
 change wpAnyH _ _ _ _ _ _ _ _ W.drew
 refine zAB 0 (.pointer (some ⟨ps,0,none⟩)) rfl (by kernel_rfl) (by kernel_rfl) (by kernel_rfl) (fun _ _ _ h =>h) (by kernel_rfl) HS0.out (by intro v hv;have z:=zAA (i:=0) hv.2.1 rfl;go_simp) ?_
 refine zAB 1 (.pointer (some ⟨ps,0,none⟩)) rfl (by kernel_rfl) (by kernel_rfl) (by kernel_rfl) (fun _ _ _ h =>h) (by kernel_rfl) HS0.out (fun _ _ =>by kernel_rfl) ?_
 refine zAB 2 (.pointer (some ⟨ps,1,none⟩)) rfl (by kernel_rfl) (by kernel_rfl) (by kernel_rfl) (fun _ _ _ h =>h) (by kernel_rfl) HS0.out (fun _ _ =>by kernel_rfl) ?_
 refine zAB 3 (.pointer (some ⟨p,0,none⟩)) rfl (by kernel_rfl) (by kernel_rfl) (by kernel_rfl) (fun _ _ _ h =>h) (by kernel_rfl) HS0.out (by intro v hv;have z:=hv.1;go_simp) ?_
 refine zAB 4 (.int .i64 ver) rfl (by kernel_rfl) (by kernel_rfl) (by kernel_rfl) (fun _ _ _ h =>h) (by kernel_rfl) HS0.out (by intro v hv;have z:=zAA (i:=0) hv.2.2.1 rfl;go_simp) ?_
 refine zAB 5 (.slice A n c) rfl (by kernel_rfl) (by kernel_rfl) (by kernel_rfl) (fun _ _ _ h =>h) (by kernel_rfl) HS0.out (by intro v hv;have z:=zAA (i:=0) hv.2.2.2 rfl;go_simp) ?_
 refine zAO 6 rfl (by kernel_rfl) (by kernel_rfl) (fun K hK =>?_)
 go_simp
 refine HST.out.mono ?_
 rintro e w1 ⟨z,τ,rfl,hp1,hz,hj1,hsz1⟩
 have HSZ1:Hid (W.heap.size≤w1.heap.size):=hsz1
 have HP1:=yh (HPB.out w1 hp1)
 have HZ:=yh hz
 have HST1:=yh (HD.out.past hj1 hp1)
 have HS1:Hid (w1.cell? ⟨ps,1,none⟩=some (.pointer (some ⟨p,0,none⟩))∧w1.heap[bs]? = some (.cells #[.pointer (some ⟨ps,0,none⟩)] 29 (0,0))∧w1.heap[bv]? = some (.cells #[.int .i64 ver] 3 (0,0))∧w1.heap[bl]? = some (.cells #[.slice A n c] 33 (0,0))):=⟨zAA (i:=1) HST1.out.box rfl,(HP1.out bs HTS.out.1).trans HS0.out.2.1,(HP1.out bv HTV.out).trans HS0.out.2.2.1,(HP1.out bl HTL.out).trans HS0.out.2.2.2⟩
 clear hp1 hz hj1 hsz1 HST
 refine hK _ _ HS1.out ?_
 clear hK K
 refine zAB 7 (.int .i64 z) rfl (by kernel_rfl) (by kernel_rfl) (by kernel_rfl) (fun _ _ _ h =>h) (by kernel_rfl) HS1.out (fun _ _ =>by kernel_rfl) ?_
 refine wpAnyH_done (by kernel_rfl) ?_ _
 go_simp
 by_cases hz0:z=0
 ·subst hz0
  have hlog:τ.fl [108,111,103]=some ⟨zAS v (v:Int) xs,(zAS v (v:Int) xs).length⟩:=by
   rcases HZ.out.out with ⟨_,h,_⟩ | ⟨h,_⟩ | ⟨h,_⟩
   ·exact h
   ·cases h
   ·cases h
  have hb1d:Below w1.heap.size w1 w1.drew:=(Below.refl _ w1).drew
  have hlaid1:Laid w1.drew:=HLW.out _ (HST1.out.below hb1d).jt.under.1
  have HOPN:=yh (HOP.out τ (m+8) w1.drew (HST1.out.below hb1d).jt hlaid1 hlog)
  have HT1:Hid (w1.drew.cell? ⟨ps,1,none⟩=some (.pointer (some ⟨p,0,none⟩))∧w1.drew.heap[bs]? = some (.cells #[.pointer (some ⟨ps,0,none⟩)] 29 (0,0))):=⟨HS1.out.1,HS1.out.2.1⟩
  have HST1D:=yh (HST1.out.below hb1d)
  clear hlog hb1d hlaid1
  go_wp2_with fail
  refine wp_region_held (S:=fun v:World =>v.cell? ⟨ps,1,none⟩=some (.pointer (some ⟨p,0,none⟩))∧v.heap[bs]? = some (.cells #[.pointer (some ⟨ps,0,none⟩)] 29 (0,0))) (by kernel_rfl) ?_
  change wpAnyH _ _ _ _ _ _ _ _ w1.drew
  refine zAB 0 (.pointer (some ⟨ps,0,none⟩)) rfl (by kernel_rfl) (by kernel_rfl) (by kernel_rfl) (fun _ _ _ h =>h) (by kernel_rfl) HT1.out (by intro v hv;have z:=zAA (i:=0) hv.2 rfl;go_simp) ?_
  refine zAB 1 (.pointer (some ⟨ps,0,none⟩)) rfl (by kernel_rfl) (by kernel_rfl) (by kernel_rfl) (fun _ _ _ h =>h) (by kernel_rfl) HT1.out (by intro v hv;have z:=zAA (i:=0) hv.2 rfl;go_simp) ?_
  refine zAB 2 (.pointer (some ⟨ps,0,none⟩)) rfl (by kernel_rfl) (by kernel_rfl) (by kernel_rfl) (fun _ _ _ h =>h) (by kernel_rfl) HT1.out (fun _ _ =>by kernel_rfl) ?_
  refine zAB 3 (.pointer (some ⟨ps,1,none⟩)) rfl (by kernel_rfl) (by kernel_rfl) (by kernel_rfl) (fun _ _ _ h =>h) (by kernel_rfl) HT1.out (fun _ _ =>by kernel_rfl) ?_
  refine zAB 4 (.pointer (some ⟨p,0,none⟩)) rfl (by kernel_rfl) (by kernel_rfl) (by kernel_rfl) (fun _ _ _ h =>h) (by kernel_rfl) HT1.out (by intro v hv;have z:=hv.1;go_simp) ?_
  refine zAO 5 rfl (by kernel_rfl) (by kernel_rfl) (fun K hK =>?_)
  go_simp
  refine HOPN.out.mono ?_
  rintro e w2 ⟨⟨A3,E3,c3,d3,zs,rfl,hsay,hzn,hro⟩,hb2⟩
  have HB2:=yh hb2
  have HT2:Hid (w2.cell? ⟨ps,1,none⟩=some (.pointer (some ⟨p,0,none⟩))∧w2.heap[bs]? = some (.cells #[.pointer (some ⟨ps,0,none⟩)] 29 (0,0))):=⟨zAA (i:=1) (HST1D.out.below hb2).box rfl,(hb2.block bs (zAJ HT1.out.2)).trans HT1.out.2⟩
  have HST2:=yh (HST1D.out.wide hb2)
  have HKP:=yh (zJz HST2.out v n c3 d3 (eo (v:Int) xs n) w1.drew.heap.size A3 E3 zs (zDq (v:Int) xs n) HST1D.out.jt.under.2 hro hro.inT (hro.apt (.inl HST1D.out.lt)))
  have HSAY:Hid (zs.map Rw.say=xs.map Rw.say):=by rw [HXT.out] at hsay;exact hsay
  clear hb2 hsay hzn hro
  refine hK _ _ HT2.out ?_
  clear hK K
  refine zAB 6 (.agg #[.int .i64 (v:Int),.slice A3 n c3,.slice E3 n d3,.int .i64 (eo (v:Int) xs n:Int)]) rfl (by kernel_rfl) (by kernel_rfl) (by kernel_rfl) (fun _ _ _ h =>h) (by kernel_rfl) HT2.out (fun _ _ =>by kernel_rfl) ?_
  refine zAB 7 (.int .i64 0) rfl (by kernel_rfl) (by kernel_rfl) (by kernel_rfl) (fun _ _ _ h =>h) (by kernel_rfl) HT2.out (fun _ _ =>by kernel_rfl) ?_
  refine zAO 8 rfl (by kernel_rfl) (by kernel_rfl) (fun K hK =>?_)
  go_simp
  refine HKP.out.mono ?_
  rintro e w3 ⟨rfl,hst,ht⟩
  have HST3:=yh hst
  have HTT:=yh ht
  have HT3:Hid (w3.cell? ⟨ps,1,none⟩=some (.pointer (some ⟨p,0,none⟩))∧w3.heap[bs]? = some (.cells #[.pointer (some ⟨ps,0,none⟩)] 29 (0,0))):=⟨zAA (i:=1) hst.box rfl,(ht.2.2.2.2 bs (zAJ HT2.out.2) HTS.out.2).trans HT2.out.2⟩
  clear hst ht
  refine hK _ _ HT3.out ?_
  clear hK K
  refine zAB 9 (.int .i64 0) rfl (by kernel_rfl) (by kernel_rfl) (by kernel_rfl) (fun _ _ _ h =>h) (by kernel_rfl) HT3.out (fun _ _ =>by kernel_rfl) ?_
  refine wpAnyH_done (by kernel_rfl) ?_ _
  go_simp
  go_wp2
  go_ret
  have hlt:∀ k,T k→k<w1.heap.size:=HST1.out.jt.lt
  have hsz:w1.heap.size≤w2.heap.size:=HB2.out.size
  exact ⟨0,rfl,fun k hk =>((HTT.out.2.2.2.2 k (Nat.lt_of_lt_of_le (hlt k hk.1) hsz) hk.2).trans (HB2.out.block k (hlt k hk.1))).trans (HP1.out k hk.1),τ,HZ.out,.inl ⟨rfl,_,A3,E3,c3,d3,zs,fun k hk =>.inl hk,fun k hk =>hk.imp id (fun h =>Nat.le_trans HSZ1.out h.1),HSAY.out,HST3.out⟩⟩
 ·have hze:(z == 0)=false:=by simpa using hz0
  have hzn:(z != 0)=true:=by simpa using hz0
  have HZ0:Hid (z≠0):=hz0
  clear hz0
  go_wp2
  go_ret
  exact ⟨z,rfl,fun k hk =>HP1.out k hk.1,τ,HZ.out,.inr ⟨HZ0.out,HST1.out⟩⟩
end Go.Proofs.YtekchkfjgofnkaaGreatDoor
