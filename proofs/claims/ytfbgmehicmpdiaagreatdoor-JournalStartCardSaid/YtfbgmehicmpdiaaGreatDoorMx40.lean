/- Texts of one proof. -/
import Derived.Test.YtfbgmehicmpdiaaGreatDoorMx39
set_option maxRecDepth 100000
set_option maxHeartbeats 8000000
namespace Go.Proofs.YtfbgmehicmpdiaaGreatDoor
open Go.RowKit
theorem zQB (A A':Option Addr) (n c n' c' x0 x1 x2 x3 v u:Nat) (hx0:x0<256) (hx1:x1<256) (hx2:x2<256) (hx3:x3<256) (hv:v=1+x0 % 3) (hu:u=1+x1 % 3) (xs ys:List Rw) (w:World)
  (HG1:Hid (∀ W,Below w.heap.size w W→Calls Tryz.prog 6 #[.slice A n c] W fun e w' =>e=.returned (.bool false)∧Below W.heap.size W w'))
  (HG2:Hid (∀ W,Below w.heap.size w W→Calls Tryz.prog 6 #[.slice A' n' c'] W fun e w' =>e=.returned (.bool false)∧Below W.heap.size W w'))
  (HFX:Hid (∀ W,Below w.heap.size w W→Calls Tryz.prog 7 #[] W fun e w' =>e=.returned (.bool true)∧Below W.heap.size W w'))
  (HBEG:Hid (∀ W,Below w.heap.size w W→Calls Tryz.prog 8 #[.int .i64 (v:Int),.slice A n c] W fun e w' =>e=.returned (.tuple #[.pointer (some ⟨W.heap.size+1,0,none⟩),.bool true])∧JS W W.heap.size (W.heap.size+1) W.heap.size (Jr0 (zAi v (v:Int) xs)) 8 w'))
  (HST:Hid (∀ w3 W m base p b,Below w.heap.size w W→m≤1000→JS w3 base p b (Jr (zAi v (v:Int) xs)) m W→Calls Tryz.prog 12 #[.pointer (some ⟨p,0,none⟩),.string (tx [108,111,103]),.string (tx [110,101,119]),.int .i64 (u:Int),.slice A' n' c'] W fun e w' =>∃ z:Int,e=.returned (.int .i64 z)∧((z=0∧JS w3 base p b (Jr (zAi u (u:Int) ys)) (m+8) w'∧zAo (u:Int) ys)∨(z≠0∧JS w3 base p b (Jr (zAi v (v:Int) xs)) (m+8) w'))))
  (HOPX:Hid (∀ w3 W m base p b,Below w.heap.size w W→JS w3 base p b (Jr (zAi v (v:Int) xs)) m W→Calls Tryz.prog 14 #[.pointer (some ⟨p,0,none⟩),.string (tx [108,111,103])] W (zDR v xs n W)))
  (HOPY:Hid (zAo (u:Int) ys→∀ w3 W m base p b,Below w.heap.size w W→JS w3 base p b (Jr (zAi u (u:Int) ys)) m W→Calls Tryz.prog 14 #[.pointer (some ⟨p,0,none⟩),.string (tx [108,111,103])] W (zDR u ys n' W)))
  (HRX:Hid (∀ W,Below w.heap.size w W→Recs W W.heap.size A n xs)) (HRY:Hid (∀ W,Below w.heap.size w W→Recs W W.heap.size A' n' ys)) (HNX:Hid (xs.length=n∧n≤30)) (HNY:Hid (ys.length=n'∧n'≤30)) :
  Calls Tryz.prog 3 #[.slice A n c,.slice A' n' c',.agg #[.int .u8 (x0:Int),.int .u8 (x1:Int),.int .u8 (x2:Int),.int .u8 (x3:Int)]] w fun e w' =>e=.returned (.bool true)∧Below w.heap.size w w':=by
 have HV:=yh hv
 have HU:=yh hu
 clear hv hu
 have hbx0:=zAE w (.cells #[.int .u8 (x0:Int),.int .u8 (x1:Int),.int .u8 (x2:Int),.int .u8 (x3:Int)] 23)
 have hb0:=(Below.refl w.heap.size w).alloc (Nat.le_refl _) (.cells #[.int .u8 (x0:Int),.int .u8 (x1:Int),.int .u8 (x2:Int),.int .u8 (x3:Int)] 23)
 obtain ⟨w0,hw0⟩:∃ x,x=w.alloc (.cells #[.int .u8 (x0:Int),.int .u8 (x1:Int),.int .u8 (x2:Int),.int .u8 (x3:Int)] 23):=⟨_,rfl⟩
 rw [← hw0] at hbx0 hb0
 have HX0:=yh hbx0
 have HB0:=yh hb0
 have HW0:=yh hw0
 clear hbx0 hb0 hw0
 go_enter Tryz.func3,Tryz.ntmps3
 go_wp2_with fail
 rw [← HW0.out]
 refine (HG1.out _ HB0.out).mono ?_
 rintro e w1 ⟨rfl,hb1⟩
 have HB1:=yh (HB0.out.trans (hb1.mono HB0.out.size))
 have HX1:=yh ((hb1.block w.heap.size (Array.getElem?_eq_some_iff.1 HX0.out).1).trans HX0.out)
 clear hb1
 go_wp2_with fail
 refine (HG2.out _ HB1.out).mono ?_
 rintro e w2 ⟨rfl,hb2⟩
 have HB2:=yh (HB1.out.trans (hb2.mono HB1.out.size))
 have hx2:=(hb2.block w.heap.size (Array.getElem?_eq_some_iff.1 HX1.out).1).trans HX1.out
 have HX2:=yh hx2
 have c0:=zAA (i:=0) hx2 rfl
 have c1:=zAA (i:=1) hx2 rfl
 clear hb2 hx2
 go_wp2_with fail
 have hv:=HV.out
 have hu:=HU.out
 obtain ⟨y0,hy0⟩:∃ y0,y0=x0 % 3:=⟨_,rfl⟩
 obtain ⟨y1,hy1⟩:∃ y1,y1=x1 % 3:=⟨_,rfl⟩
 have i0:(x0:Int).tmod 3=(y0:Int):=by rw [Int.tmod_eq_emod_of_nonneg (by omega),hy0];simp
 have i1:(x1:Int).tmod 3=(y1:Int):=by rw [Int.tmod_eq_emod_of_nonneg (by omega),hy1];simp
 have e0:(1:Int)+(y0:Int)=(v:Int):=by omega
 have e1:(1:Int)+(y1:Int)=(u:Int):=by omega
 have g0:IntKind.u8.wrap (y0:Int)=(y0:Int):=by rw [IntKind.wrap_u8];omega
 have g1:IntKind.u8.wrap (y1:Int)=(y1:Int):=by rw [IntKind.wrap_u8];omega
 have g2:IntKind.i64.wrap (y0:Int)=(y0:Int):=by rw [IntKind.wrap_i64];omega
 have g3:IntKind.i64.wrap (y1:Int)=(y1:Int):=by rw [IntKind.wrap_i64];omega
 have g4:IntKind.i64.wrap (v:Int)=(v:Int):=by rw [IntKind.wrap_i64];omega
 have g5:IntKind.i64.wrap (u:Int)=(u:Int):=by rw [IntKind.wrap_i64];omega
 clear hy0 hy1 hv hu
 have hS:w2.drew=w2.drew:=rfl
 refine wp_region_held (S:=fun W =>W=w2.drew) (by kernel_rfl) ?_
 refine zAB 0 ((.pointer (some ⟨w.heap.size,0,none⟩))) rfl (by kernel_rfl) (by kernel_rfl) (by kernel_rfl) (fun _ _ _ h =>h) (by kernel_rfl) hS (by rintro w' rfl;go_simp) ?_
 refine zAB 1 (.int .u8 (x0:Int)) rfl (by kernel_rfl) (by kernel_rfl) (by kernel_rfl) (fun _ _ _ h =>h) (by kernel_rfl) hS (by rintro w' rfl;go_simp) ?_
 refine zAB 2 (.int .u8 (y0:Int)) rfl (by kernel_rfl) (by kernel_rfl) (by kernel_rfl) (fun _ _ _ h =>h) (by kernel_rfl) hS (by rintro w' rfl;go_simp) ?_
 refine zAB 3 (.int .i64 (y0:Int)) rfl (by kernel_rfl) (by kernel_rfl) (by kernel_rfl) (fun _ _ _ h =>h) (by kernel_rfl) hS (by rintro w' rfl;go_simp) ?_
 refine zAB 4 (.int .i64 (v:Int)) rfl (by kernel_rfl) (by kernel_rfl) (by kernel_rfl) (fun _ _ _ h =>h) (by kernel_rfl) hS (by rintro w' rfl;go_simp) ?_
 refine zAB 5 ((.pointer (some ⟨w.heap.size,1,none⟩))) rfl (by kernel_rfl) (by kernel_rfl) (by kernel_rfl) (fun _ _ _ h =>h) (by kernel_rfl) hS (by rintro w' rfl;go_simp) ?_
 refine zAB 6 (.int .u8 (x1:Int)) rfl (by kernel_rfl) (by kernel_rfl) (by kernel_rfl) (fun _ _ _ h =>h) (by kernel_rfl) hS (by rintro w' rfl;go_simp) ?_
 refine zAB 7 (.int .u8 (y1:Int)) rfl (by kernel_rfl) (by kernel_rfl) (by kernel_rfl) (fun _ _ _ h =>h) (by kernel_rfl) hS (by rintro w' rfl;go_simp) ?_
 refine zAB 8 (.int .i64 (y1:Int)) rfl (by kernel_rfl) (by kernel_rfl) (by kernel_rfl) (fun _ _ _ h =>h) (by kernel_rfl) hS (by rintro w' rfl;go_simp) ?_
 refine zAB 9 (.int .i64 (u:Int)) rfl (by kernel_rfl) (by kernel_rfl) (by kernel_rfl) (fun _ _ _ h =>h) (by kernel_rfl) hS (by rintro w' rfl;go_simp) ?_
 refine zAB 10 (.int .i64 (v:Int)) rfl (by kernel_rfl) (by kernel_rfl) (by kernel_rfl) (fun _ _ _ h =>h) (by kernel_rfl) hS (fun _ _ =>by kernel_rfl) ?_
 refine zAB 11 (.int .i64 (u:Int)) rfl (by kernel_rfl) (by kernel_rfl) (by kernel_rfl) (fun _ _ _ h =>h) (by kernel_rfl) hS (fun _ _ =>by kernel_rfl) ?_
 refine wpAnyH_done (by kernel_rfl) ?_ _
 go_simp
 clear i0 i1 e0 e1 g0 g1 g2 g3 g4 g5 c0 c1 hS
 go_wp2_with fail
 have HB3:Hid (Below w.heap.size w w2.drew):=HB2.out.drew
 have HX3:Hid (w2.drew.heap[w.heap.size]? = some (.cells #[.int .u8 (x0:Int),.int .u8 (x1:Int),.int .u8 (x2:Int),.int .u8 (x3:Int)] 23)):=HX2.out
 obtain ⟨w3,hw3⟩:∃ x,x=w2.drew:=⟨_,rfl⟩
 rw [← hw3] at HB3 HX3 ⊢
 clear hw3
 refine (HBEG.out _ HB3.out).mono ?_
 rintro e w4 ⟨rfl,hJ⟩
 have HJ0:=yh hJ
 have hx4:=((JS.under hJ).1.block w.heap.size (Array.getElem?_eq_some_iff.1 HX3.out).1).trans HX3.out
 have k3:=zAA (i:=3) hx4 rfl
 clear hJ hx4
 by_cases hpar:x3 % 2=0
 ·have j0:(x3:Int).tmod 2=0:=by rw [Int.tmod_eq_emod_of_nonneg (by omega)];omega
  have hcv:=Go.Lib.run_convert_bytes_const (P:=Tryz.prog) w4 31 5 #[.int .u8 114,.int .u8 101,.int .u8 115,.int .u8 116] 4 4 Tryz.underlying31 Tryz.underlying5
  have hbr:=(Below.refl w4.heap.size w4).alloc (Nat.le_refl _) (.cells #[.int .u8 114,.int .u8 101,.int .u8 115,.int .u8 116] 5 (4,5))
  have hnr:=zAE w4 (.cells #[.int .u8 114,.int .u8 101,.int .u8 115,.int .u8 116] 5 (4,5))
  have hrr:zAD (w4.alloc (.cells #[.int .u8 114,.int .u8 101,.int .u8 115,.int .u8 116] 5 (4,5))) (w4.alloc (.cells #[.int .u8 114,.int .u8 101,.int .u8 115,.int .u8 116] 5 (4,5))).heap.size 1 (some ⟨w4.heap.size,0,none⟩) 4 (([114,101,115,116]:List UInt8).map bv):=⟨rfl,fun _ =>⟨_,rfl,by simp,fun j u hu =>by
   have e2:(⟨w4.heap.size,0,none⟩:Addr).add j=⟨w4.heap.size,j,none⟩:=by simp [Addr.add];exact fun h =>h.symm
   have e3:(#[.int .u8 114,.int .u8 101,.int .u8 115,.int .u8 116]:Array Value)[j]? = some u:=by rw [← Array.getElem?_toList];exact hu
   rw [e2]
   simp only [World.cell?,hnr,e3]
   rfl⟩⟩
  have HAP:=yh (zPp [114,101,115,116] (by simp) HJ0.out (by omega) (some ⟨w4.heap.size,0,none⟩) 4 4 (fun e =>by cases e) _ hbr hrr)
  clear hbr hnr hrr hpar
  go_wp2_with fail
  refine HAP.out.mono ?_
  rintro e w4 ⟨e0,rfl,hJ⟩
  have HJ:=yh hJ
  clear hJ HAP hcv j0 k3
  have hx4:=((JS.under HJ.out).1.block w.heap.size (Array.getElem?_eq_some_iff.1 HX3.out).1).trans HX3.out
  have k2:=zAA (i:=2) hx4 rfl
  have k3:=zAA (i:=3) hx4 rfl
  obtain ⟨y2,hy2⟩:∃ y2,y2=x2 % 6:=⟨_,rfl⟩
  obtain ⟨y3,hy3⟩:∃ y3,y3=x3 % 4:=⟨_,rfl⟩
  have j1:(x3:Int).tmod 4=(y3:Int):=by rw [Int.tmod_eq_emod_of_nonneg (by omega),hy3];simp
  have j2:(x2:Int).tmod 6=(y2:Int):=by rw [Int.tmod_eq_emod_of_nonneg (by omega),hy2];simp
  have j3:IntKind.u8.wrap (y3:Int)=(y3:Int):=by rw [IntKind.wrap_u8];omega
  have j4:IntKind.u8.wrap (y2:Int)=(y2:Int):=by rw [IntKind.wrap_u8];omega
  have j5:IntKind.i64.wrap (y2:Int)=(y2:Int):=by rw [IntKind.wrap_i64];omega
  have hyb:y2≤5:=by omega
  clear hx4 hy2 hy3
  by_cases hc:y3<2
  ·have j6:decide (y3<2)=true:=decide_eq_true hc
   have j7:decide ((y3:Int)<2)=true:=by rw [decide_eq_true_iff];omega
   go_wp2_with fail
   refine (zPe HJ.out (y2:Int) (by omega)).mono ?_
   rintro e w4 ⟨rfl,hJ⟩
   have HJ:=yh hJ
   clear hJ k2 k3 j1 j2 j3 j4 j5 j6 j7 hc hyb 
   have HBW:Hid (Below w.heap.size w w4):=HB3.out.trans ((JS.under HJ.out).1.mono HB3.out.size)
   go_wp2_with fail
   refine (HST.out _ w4 _ _ _ _ HBW.out (by omega) HJ.out).mono ?_
   rintro e w4 ⟨z,rfl,⟨rfl,hJ,hmy⟩ | ⟨hz,hJ⟩⟩
   ·have HMY:=yh hmy
    have HJ:=yh hJ
    clear hJ hmy HBW
    have hx4:=((JS.under HJ.out).1.block w.heap.size (Array.getElem?_eq_some_iff.1 HX3.out).1).trans HX3.out
    have k2:=zAA (i:=2) hx4 rfl
    have k3:=zAA (i:=3) hx4 rfl
    have j2:IntKind.i64.wrap (x2:Int)=(x2:Int):=by rw [IntKind.wrap_i64];omega
    have j3:IntKind.i64.wrap (x3:Int)=(x3:Int):=by rw [IntKind.wrap_i64];omega
    clear hx4
    go_wp2_with fail
    refine (zPG HJ.out (by omega) (x2:Int) (x3:Int)).mono ?_
    rintro e w5 ⟨rfl,hJ⟩
    have HJ5:=yh hJ
    have HB5:Hid (Below w.heap.size w w5):=HB3.out.trans ((JS.under hJ).1.mono HB3.out.size)
    clear hJ k2 k3 j2 j3
    go_wp2_with fail
    refine (HOPY.out HMY.out _ w5 _ _ _ _ HB5.out HJ5.out).mono ?_
    rintro e w6 ⟨⟨A3,E3,c3,d3,zs,rfl,hsay,hzn,hro⟩,hb6⟩
    obtain ⟨G,hG⟩:∃ G:Int,G=(eo ((u:Int):Int) ys n':Int):=⟨_,rfl⟩
    rw [← hG]
    have hb67:=(Below.refl w6.heap.size w6).alloc (Nat.le_refl _) (.cells #[.int .i64 (u:Int),.slice A3 n' c3,.slice E3 n' d3,.int .i64 G] 37)
    have hxf:=zAE w6 (.cells #[.int .i64 (u:Int),.slice A3 n' c3,.slice E3 n' d3,.int .i64 G] 37)
    obtain ⟨w7,hw7⟩:∃ x,x=w6.alloc (.cells #[.int .i64 (u:Int),.slice A3 n' c3,.slice E3 n' d3,.int .i64 G] 37):=⟨_,rfl⟩
    have q0:=zAA (i:=0) hxf rfl;have q1:=zAA (i:=1) hxf rfl
    rw [← hw7] at hb67 hxf
    have HB7:=yh ((HB5.out.trans (hb6.mono HB5.out.size)).trans (hb67.mono (HB5.out.trans (hb6.mono HB5.out.size)).size))
    have HRC:=yh (hro.below hb67).read.1
    have HXF:=yh hxf
    have HSAY:=yh hsay
    have HZN:=yh hzn
    have HW7:=yh hw7
    clear hsay hzn hro hb6 hb67 hxf hw7 hG
    go_wp2_with fail
    rw [← HW7.out]
    refine (zPD A3 A' n' n' c3 c' zs ys (by have:=HNY.out.2;unfold maxLen;omega) (by have:=HNY.out.2;unfold maxLen;omega) HZN.out w7 HRC.out (HRY.out w7 HB7.out)).mono ?_
    rintro e w8 ⟨he,hb8⟩
    obtain rfl:=he.yes (by have h1:=HSAY.out;rw [List.take_of_length_le (by have:=HNY.out.1;omega)] at h1;exact h1)
    have HB8:=yh (HB7.out.trans (hb8.mono HB7.out.size))
    clear he hb8 q0 q1
    go_wp2_with fail
    refine (HFX.out _ HB8.out).mono ?_
    rintro e w9 ⟨rfl,hb9⟩
    go_wp2
    go_ret
    exact ⟨rfl,HB8.out.trans (hb9.mono HB8.out.size)⟩
   ·have hz2:(z == 0)=false:=by simpa using hz
    have hz3:(z != 0)=true:=by simpa using hz
    have hz4:decide (z=0)=false:=decide_eq_false hz
    have HJ:=yh hJ
    clear hJ hz HBW
    have hx4:=((JS.under HJ.out).1.block w.heap.size (Array.getElem?_eq_some_iff.1 HX3.out).1).trans HX3.out
    have k2:=zAA (i:=2) hx4 rfl
    have k3:=zAA (i:=3) hx4 rfl
    have j2:IntKind.i64.wrap (x2:Int)=(x2:Int):=by rw [IntKind.wrap_i64];omega
    have j3:IntKind.i64.wrap (x3:Int)=(x3:Int):=by rw [IntKind.wrap_i64];omega
    clear hx4
    go_wp2_with fail
    refine (zPG HJ.out (by omega) (x2:Int) (x3:Int)).mono ?_
    rintro e w5 ⟨rfl,hJ⟩
    have HJ5:=yh hJ
    have HB5:Hid (Below w.heap.size w w5):=HB3.out.trans ((JS.under hJ).1.mono HB3.out.size)
    clear hJ k2 k3 j2 j3
    go_wp2_with fail
    refine (HOPX.out _ w5 _ _ _ _ HB5.out HJ5.out).mono ?_
    rintro e w6 ⟨⟨A3,E3,c3,d3,zs,rfl,hsay,hzn,hro⟩,hb6⟩
    obtain ⟨G,hG⟩:∃ G:Int,G=(eo ((v:Int):Int) xs n:Int):=⟨_,rfl⟩
    rw [← hG]
    have hb67:=(Below.refl w6.heap.size w6).alloc (Nat.le_refl _) (.cells #[.int .i64 (v:Int),.slice A3 n c3,.slice E3 n d3,.int .i64 G] 37)
    have hxf:=zAE w6 (.cells #[.int .i64 (v:Int),.slice A3 n c3,.slice E3 n d3,.int .i64 G] 37)
    obtain ⟨w7,hw7⟩:∃ x,x=w6.alloc (.cells #[.int .i64 (v:Int),.slice A3 n c3,.slice E3 n d3,.int .i64 G] 37):=⟨_,rfl⟩
    have q0:=zAA (i:=0) hxf rfl;have q1:=zAA (i:=1) hxf rfl
    rw [← hw7] at hb67 hxf
    have HB7:=yh ((HB5.out.trans (hb6.mono HB5.out.size)).trans (hb67.mono (HB5.out.trans (hb6.mono HB5.out.size)).size))
    have HRC:=yh (hro.below hb67).read.1
    have HXF:=yh hxf
    have HSAY:=yh hsay
    have HZN:=yh hzn
    have HW7:=yh hw7
    clear hsay hzn hro hb6 hb67 hxf hw7 hG
    by_cases hvu:v=u
    ·have hvb:((v:Int) == (u:Int))=true:=by rw [hvu];simp
     clear hvu
     go_wp2_with fail
     rw [← HW7.out]
     refine (zPD A3 A' n n' c3 c' zs ys (by have:=HNX.out.2;unfold maxLen;omega) (by have:=HNY.out.2;unfold maxLen;omega) HZN.out w7 HRC.out (HRY.out w7 HB7.out)).mono ?_
     rintro e w8 ⟨⟨q,hq,rfl⟩,hb8⟩
     have HB8:=yh (HB7.out.trans (hb8.mono HB7.out.size))
     have HB78:=yh hb8
     clear hq hb8 q0 q1
     cases q with
     | true =>
      go_wp2_with fail
      refine (HFX.out _ HB8.out).mono ?_
      rintro e w9 ⟨rfl,hb9⟩
      go_wp2
      go_ret
      exact ⟨rfl,HB8.out.trans (hb9.mono HB8.out.size)⟩
     | false =>
      go_wp2_with fail
      refine (HFX.out _ HB8.out).mono ?_
      rintro e w9 ⟨rfl,hb9⟩
      have HB9:=yh (HB8.out.trans (hb9.mono HB8.out.size))
      have HB79:Hid (Below w7.heap.size w7 w9):=HB78.out.trans (hb9.mono HB78.out.size)
      have hx9:=(HB79.out.block w6.heap.size (Array.getElem?_eq_some_iff.1 HXF.out).1).trans HXF.out
      have s0:=zAA (i:=0) hx9 rfl;have s1:=zAA (i:=1) hx9 rfl
      clear hb9 hx9
      go_wp2_with fail
      refine (zPD A3 A n n c3 c zs xs (by have:=HNX.out.2;unfold maxLen;omega) (by have:=HNX.out.2;unfold maxLen;omega) HZN.out w9 ((HRC.out.below HB79.out).more HB79.out.size) (HRX.out w9 HB9.out)).mono ?_
      rintro e w10 ⟨he,hb10⟩
      obtain rfl:=he.yes (by have h1:=HSAY.out;rw [List.take_of_length_le (by have:=HNX.out.1;omega)] at h1;exact h1)
      go_wp2
      go_ret
      exact ⟨rfl,HB9.out.trans (hb10.mono HB9.out.size)⟩
    ·have hvb:((v:Int) == (u:Int))=false:=by rw [beq_eq_false_iff_ne];omega
     clear hvu
     have HB8:=HB7
     have HB78:Hid (Below w7.heap.size w7 w7):=Below.refl _ _
     go_wp2_with fail
     rw [← HW7.out]
     clear q0 q1
     refine (HFX.out _ HB8.out).mono ?_
     rintro e w9 ⟨rfl,hb9⟩
     have HB9:=yh (HB8.out.trans (hb9.mono HB8.out.size))
     have HB79:Hid (Below w7.heap.size w7 w9):=HB78.out.trans (hb9.mono HB78.out.size)
     have hx9:=(HB79.out.block w6.heap.size (Array.getElem?_eq_some_iff.1 HXF.out).1).trans HXF.out
     have s0:=zAA (i:=0) hx9 rfl;have s1:=zAA (i:=1) hx9 rfl
     clear hb9 hx9
     go_wp2_with fail
     refine (zPD A3 A n n c3 c zs xs (by have:=HNX.out.2;unfold maxLen;omega) (by have:=HNX.out.2;unfold maxLen;omega) HZN.out w9 ((HRC.out.below HB79.out).more HB79.out.size) (HRX.out w9 HB9.out)).mono ?_
     rintro e w10 ⟨he,hb10⟩
     obtain rfl:=he.yes (by have h1:=HSAY.out;rw [List.take_of_length_le (by have:=HNX.out.1;omega)] at h1;exact h1)
     go_wp2
     go_ret
     exact ⟨rfl,HB9.out.trans (hb10.mono HB9.out.size)⟩
  ·have j6:decide (y3<2)=false:=decide_eq_false hc
   have j7:decide ((y3:Int)<2)=false:=by rw [decide_eq_false_iff_not];omega
   go_wp2_with fail
   refine (zPf HJ.out (y2:Int) (by omega)).mono ?_
   rintro e w4 ⟨rfl,hJ⟩
   have HJ:=yh hJ
   clear hJ k2 k3 j1 j2 j3 j4 j5 j6 j7 hc hyb 
   have HBW:Hid (Below w.heap.size w w4):=HB3.out.trans ((JS.under HJ.out).1.mono HB3.out.size)
   go_wp2_with fail
   refine (HST.out _ w4 _ _ _ _ HBW.out (by omega) HJ.out).mono ?_
   rintro e w4 ⟨z,rfl,⟨rfl,hJ,hmy⟩ | ⟨hz,hJ⟩⟩
   ·have HMY:=yh hmy
    have HJ:=yh hJ
    clear hJ hmy HBW
    have hx4:=((JS.under HJ.out).1.block w.heap.size (Array.getElem?_eq_some_iff.1 HX3.out).1).trans HX3.out
    have k2:=zAA (i:=2) hx4 rfl
    have k3:=zAA (i:=3) hx4 rfl
    have j2:IntKind.i64.wrap (x2:Int)=(x2:Int):=by rw [IntKind.wrap_i64];omega
    have j3:IntKind.i64.wrap (x3:Int)=(x3:Int):=by rw [IntKind.wrap_i64];omega
    clear hx4
    go_wp2_with fail
    refine (zPG HJ.out (by omega) (x2:Int) (x3:Int)).mono ?_
    rintro e w5 ⟨rfl,hJ⟩
    have HJ5:=yh hJ
    have HB5:Hid (Below w.heap.size w w5):=HB3.out.trans ((JS.under hJ).1.mono HB3.out.size)
    clear hJ k2 k3 j2 j3
    go_wp2_with fail
    refine (HOPY.out HMY.out _ w5 _ _ _ _ HB5.out HJ5.out).mono ?_
    rintro e w6 ⟨⟨A3,E3,c3,d3,zs,rfl,hsay,hzn,hro⟩,hb6⟩
    obtain ⟨G,hG⟩:∃ G:Int,G=(eo ((u:Int):Int) ys n':Int):=⟨_,rfl⟩
    rw [← hG]
    have hb67:=(Below.refl w6.heap.size w6).alloc (Nat.le_refl _) (.cells #[.int .i64 (u:Int),.slice A3 n' c3,.slice E3 n' d3,.int .i64 G] 37)
    have hxf:=zAE w6 (.cells #[.int .i64 (u:Int),.slice A3 n' c3,.slice E3 n' d3,.int .i64 G] 37)
    obtain ⟨w7,hw7⟩:∃ x,x=w6.alloc (.cells #[.int .i64 (u:Int),.slice A3 n' c3,.slice E3 n' d3,.int .i64 G] 37):=⟨_,rfl⟩
    have q0:=zAA (i:=0) hxf rfl;have q1:=zAA (i:=1) hxf rfl
    rw [← hw7] at hb67 hxf
    have HB7:=yh ((HB5.out.trans (hb6.mono HB5.out.size)).trans (hb67.mono (HB5.out.trans (hb6.mono HB5.out.size)).size))
    have HRC:=yh (hro.below hb67).read.1
    have HXF:=yh hxf
    have HSAY:=yh hsay
    have HZN:=yh hzn
    have HW7:=yh hw7
    clear hsay hzn hro hb6 hb67 hxf hw7 hG
    go_wp2_with fail
    rw [← HW7.out]
    refine (zPD A3 A' n' n' c3 c' zs ys (by have:=HNY.out.2;unfold maxLen;omega) (by have:=HNY.out.2;unfold maxLen;omega) HZN.out w7 HRC.out (HRY.out w7 HB7.out)).mono ?_
    rintro e w8 ⟨he,hb8⟩
    obtain rfl:=he.yes (by have h1:=HSAY.out;rw [List.take_of_length_le (by have:=HNY.out.1;omega)] at h1;exact h1)
    have HB8:=yh (HB7.out.trans (hb8.mono HB7.out.size))
    clear he hb8 q0 q1
    go_wp2_with fail
    refine (HFX.out _ HB8.out).mono ?_
    rintro e w9 ⟨rfl,hb9⟩
    go_wp2
    go_ret
    exact ⟨rfl,HB8.out.trans (hb9.mono HB8.out.size)⟩
   ·have hz2:(z == 0)=false:=by simpa using hz
    have hz3:(z != 0)=true:=by simpa using hz
    have hz4:decide (z=0)=false:=decide_eq_false hz
    have HJ:=yh hJ
    clear hJ hz HBW
    have hx4:=((JS.under HJ.out).1.block w.heap.size (Array.getElem?_eq_some_iff.1 HX3.out).1).trans HX3.out
    have k2:=zAA (i:=2) hx4 rfl
    have k3:=zAA (i:=3) hx4 rfl
    have j2:IntKind.i64.wrap (x2:Int)=(x2:Int):=by rw [IntKind.wrap_i64];omega
    have j3:IntKind.i64.wrap (x3:Int)=(x3:Int):=by rw [IntKind.wrap_i64];omega
    clear hx4
    go_wp2_with fail
    refine (zPG HJ.out (by omega) (x2:Int) (x3:Int)).mono ?_
    rintro e w5 ⟨rfl,hJ⟩
    have HJ5:=yh hJ
    have HB5:Hid (Below w.heap.size w w5):=HB3.out.trans ((JS.under hJ).1.mono HB3.out.size)
    clear hJ k2 k3 j2 j3
    go_wp2_with fail
    refine (HOPX.out _ w5 _ _ _ _ HB5.out HJ5.out).mono ?_
    rintro e w6 ⟨⟨A3,E3,c3,d3,zs,rfl,hsay,hzn,hro⟩,hb6⟩
    obtain ⟨G,hG⟩:∃ G:Int,G=(eo ((v:Int):Int) xs n:Int):=⟨_,rfl⟩
    rw [← hG]
    have hb67:=(Below.refl w6.heap.size w6).alloc (Nat.le_refl _) (.cells #[.int .i64 (v:Int),.slice A3 n c3,.slice E3 n d3,.int .i64 G] 37)
    have hxf:=zAE w6 (.cells #[.int .i64 (v:Int),.slice A3 n c3,.slice E3 n d3,.int .i64 G] 37)
    obtain ⟨w7,hw7⟩:∃ x,x=w6.alloc (.cells #[.int .i64 (v:Int),.slice A3 n c3,.slice E3 n d3,.int .i64 G] 37):=⟨_,rfl⟩
    have q0:=zAA (i:=0) hxf rfl;have q1:=zAA (i:=1) hxf rfl
    rw [← hw7] at hb67 hxf
    have HB7:=yh ((HB5.out.trans (hb6.mono HB5.out.size)).trans (hb67.mono (HB5.out.trans (hb6.mono HB5.out.size)).size))
    have HRC:=yh (hro.below hb67).read.1
    have HXF:=yh hxf
    have HSAY:=yh hsay
    have HZN:=yh hzn
    have HW7:=yh hw7
    clear hsay hzn hro hb6 hb67 hxf hw7 hG
    by_cases hvu:v=u
    ·have hvb:((v:Int) == (u:Int))=true:=by rw [hvu];simp
     clear hvu
     go_wp2_with fail
     rw [← HW7.out]
     refine (zPD A3 A' n n' c3 c' zs ys (by have:=HNX.out.2;unfold maxLen;omega) (by have:=HNY.out.2;unfold maxLen;omega) HZN.out w7 HRC.out (HRY.out w7 HB7.out)).mono ?_
     rintro e w8 ⟨⟨q,hq,rfl⟩,hb8⟩
     have HB8:=yh (HB7.out.trans (hb8.mono HB7.out.size))
     have HB78:=yh hb8
     clear hq hb8 q0 q1
     cases q with
     | true =>
      go_wp2_with fail
      refine (HFX.out _ HB8.out).mono ?_
      rintro e w9 ⟨rfl,hb9⟩
      go_wp2
      go_ret
      exact ⟨rfl,HB8.out.trans (hb9.mono HB8.out.size)⟩
     | false =>
      go_wp2_with fail
      refine (HFX.out _ HB8.out).mono ?_
      rintro e w9 ⟨rfl,hb9⟩
      have HB9:=yh (HB8.out.trans (hb9.mono HB8.out.size))
      have HB79:Hid (Below w7.heap.size w7 w9):=HB78.out.trans (hb9.mono HB78.out.size)
      have hx9:=(HB79.out.block w6.heap.size (Array.getElem?_eq_some_iff.1 HXF.out).1).trans HXF.out
      have s0:=zAA (i:=0) hx9 rfl;have s1:=zAA (i:=1) hx9 rfl
      clear hb9 hx9
      go_wp2_with fail
      refine (zPD A3 A n n c3 c zs xs (by have:=HNX.out.2;unfold maxLen;omega) (by have:=HNX.out.2;unfold maxLen;omega) HZN.out w9 ((HRC.out.below HB79.out).more HB79.out.size) (HRX.out w9 HB9.out)).mono ?_
      rintro e w10 ⟨he,hb10⟩
      obtain rfl:=he.yes (by have h1:=HSAY.out;rw [List.take_of_length_le (by have:=HNX.out.1;omega)] at h1;exact h1)
      go_wp2
      go_ret
      exact ⟨rfl,HB9.out.trans (hb10.mono HB9.out.size)⟩
    ·have hvb:((v:Int) == (u:Int))=false:=by rw [beq_eq_false_iff_ne];omega
     clear hvu
     have HB8:=HB7
     have HB78:Hid (Below w7.heap.size w7 w7):=Below.refl _ _
     go_wp2_with fail
     rw [← HW7.out]
     clear q0 q1
     refine (HFX.out _ HB8.out).mono ?_
     rintro e w9 ⟨rfl,hb9⟩
     have HB9:=yh (HB8.out.trans (hb9.mono HB8.out.size))
     have HB79:Hid (Below w7.heap.size w7 w9):=HB78.out.trans (hb9.mono HB78.out.size)
     have hx9:=(HB79.out.block w6.heap.size (Array.getElem?_eq_some_iff.1 HXF.out).1).trans HXF.out
     have s0:=zAA (i:=0) hx9 rfl;have s1:=zAA (i:=1) hx9 rfl
     clear hb9 hx9
     go_wp2_with fail
     refine (zPD A3 A n n c3 c zs xs (by have:=HNX.out.2;unfold maxLen;omega) (by have:=HNX.out.2;unfold maxLen;omega) HZN.out w9 ((HRC.out.below HB79.out).more HB79.out.size) (HRX.out w9 HB9.out)).mono ?_
     rintro e w10 ⟨he,hb10⟩
     obtain rfl:=he.yes (by have h1:=HSAY.out;rw [List.take_of_length_le (by have:=HNX.out.1;omega)] at h1;exact h1)
     go_wp2
     go_ret
     exact ⟨rfl,HB9.out.trans (hb10.mono HB9.out.size)⟩
 ·have j0:(x3:Int).tmod 2=1:=by rw [Int.tmod_eq_emod_of_nonneg (by omega)];omega
  have HJ:=yh ((JS.imp (Q:=Jr (zAi v (v:Int) xs)) HJ0.out (fun _ h =>h.1)).room (by omega:8≤8+2))
  clear hpar HJ0
  have hx4:=((JS.under HJ.out).1.block w.heap.size (Array.getElem?_eq_some_iff.1 HX3.out).1).trans HX3.out
  have k2:=zAA (i:=2) hx4 rfl
  have k3:=zAA (i:=3) hx4 rfl
  obtain ⟨y2,hy2⟩:∃ y2,y2=x2 % 6:=⟨_,rfl⟩
  obtain ⟨y3,hy3⟩:∃ y3,y3=x3 % 4:=⟨_,rfl⟩
  have j1:(x3:Int).tmod 4=(y3:Int):=by rw [Int.tmod_eq_emod_of_nonneg (by omega),hy3];simp
  have j2:(x2:Int).tmod 6=(y2:Int):=by rw [Int.tmod_eq_emod_of_nonneg (by omega),hy2];simp
  have j3:IntKind.u8.wrap (y3:Int)=(y3:Int):=by rw [IntKind.wrap_u8];omega
  have j4:IntKind.u8.wrap (y2:Int)=(y2:Int):=by rw [IntKind.wrap_u8];omega
  have j5:IntKind.i64.wrap (y2:Int)=(y2:Int):=by rw [IntKind.wrap_i64];omega
  have hyb:y2≤5:=by omega
  clear hx4 hy2 hy3
  by_cases hc:y3<2
  ·have j6:decide (y3<2)=true:=decide_eq_true hc
   have j7:decide ((y3:Int)<2)=true:=by rw [decide_eq_true_iff];omega
   go_wp2_with fail
   refine (zPe HJ.out (y2:Int) (by omega)).mono ?_
   rintro e w4 ⟨rfl,hJ⟩
   have HJ:=yh hJ
   clear hJ k2 k3 j1 j2 j3 j4 j5 j6 j7 hc hyb j0
   have HBW:Hid (Below w.heap.size w w4):=HB3.out.trans ((JS.under HJ.out).1.mono HB3.out.size)
   go_wp2_with fail
   refine (HST.out _ w4 _ _ _ _ HBW.out (by omega) HJ.out).mono ?_
   rintro e w4 ⟨z,rfl,⟨rfl,hJ,hmy⟩ | ⟨hz,hJ⟩⟩
   ·have HMY:=yh hmy
    have HJ:=yh hJ
    clear hJ hmy HBW
    have hx4:=((JS.under HJ.out).1.block w.heap.size (Array.getElem?_eq_some_iff.1 HX3.out).1).trans HX3.out
    have k2:=zAA (i:=2) hx4 rfl
    have k3:=zAA (i:=3) hx4 rfl
    have j2:IntKind.i64.wrap (x2:Int)=(x2:Int):=by rw [IntKind.wrap_i64];omega
    have j3:IntKind.i64.wrap (x3:Int)=(x3:Int):=by rw [IntKind.wrap_i64];omega
    clear hx4
    go_wp2_with fail
    refine (zPG HJ.out (by omega) (x2:Int) (x3:Int)).mono ?_
    rintro e w5 ⟨rfl,hJ⟩
    have HJ5:=yh hJ
    have HB5:Hid (Below w.heap.size w w5):=HB3.out.trans ((JS.under hJ).1.mono HB3.out.size)
    clear hJ k2 k3 j2 j3
    go_wp2_with fail
    refine (HOPY.out HMY.out _ w5 _ _ _ _ HB5.out HJ5.out).mono ?_
    rintro e w6 ⟨⟨A3,E3,c3,d3,zs,rfl,hsay,hzn,hro⟩,hb6⟩
    obtain ⟨G,hG⟩:∃ G:Int,G=(eo ((u:Int):Int) ys n':Int):=⟨_,rfl⟩
    rw [← hG]
    have hb67:=(Below.refl w6.heap.size w6).alloc (Nat.le_refl _) (.cells #[.int .i64 (u:Int),.slice A3 n' c3,.slice E3 n' d3,.int .i64 G] 37)
    have hxf:=zAE w6 (.cells #[.int .i64 (u:Int),.slice A3 n' c3,.slice E3 n' d3,.int .i64 G] 37)
    obtain ⟨w7,hw7⟩:∃ x,x=w6.alloc (.cells #[.int .i64 (u:Int),.slice A3 n' c3,.slice E3 n' d3,.int .i64 G] 37):=⟨_,rfl⟩
    have q0:=zAA (i:=0) hxf rfl;have q1:=zAA (i:=1) hxf rfl
    rw [← hw7] at hb67 hxf
    have HB7:=yh ((HB5.out.trans (hb6.mono HB5.out.size)).trans (hb67.mono (HB5.out.trans (hb6.mono HB5.out.size)).size))
    have HRC:=yh (hro.below hb67).read.1
    have HXF:=yh hxf
    have HSAY:=yh hsay
    have HZN:=yh hzn
    have HW7:=yh hw7
    clear hsay hzn hro hb6 hb67 hxf hw7 hG
    go_wp2_with fail
    rw [← HW7.out]
    refine (zPD A3 A' n' n' c3 c' zs ys (by have:=HNY.out.2;unfold maxLen;omega) (by have:=HNY.out.2;unfold maxLen;omega) HZN.out w7 HRC.out (HRY.out w7 HB7.out)).mono ?_
    rintro e w8 ⟨he,hb8⟩
    obtain rfl:=he.yes (by have h1:=HSAY.out;rw [List.take_of_length_le (by have:=HNY.out.1;omega)] at h1;exact h1)
    have HB8:=yh (HB7.out.trans (hb8.mono HB7.out.size))
    clear he hb8 q0 q1
    go_wp2_with fail
    refine (HFX.out _ HB8.out).mono ?_
    rintro e w9 ⟨rfl,hb9⟩
    go_wp2
    go_ret
    exact ⟨rfl,HB8.out.trans (hb9.mono HB8.out.size)⟩
   ·have hz2:(z == 0)=false:=by simpa using hz
    have hz3:(z != 0)=true:=by simpa using hz
    have hz4:decide (z=0)=false:=decide_eq_false hz
    have HJ:=yh hJ
    clear hJ hz HBW
    have hx4:=((JS.under HJ.out).1.block w.heap.size (Array.getElem?_eq_some_iff.1 HX3.out).1).trans HX3.out
    have k2:=zAA (i:=2) hx4 rfl
    have k3:=zAA (i:=3) hx4 rfl
    have j2:IntKind.i64.wrap (x2:Int)=(x2:Int):=by rw [IntKind.wrap_i64];omega
    have j3:IntKind.i64.wrap (x3:Int)=(x3:Int):=by rw [IntKind.wrap_i64];omega
    clear hx4
    go_wp2_with fail
    refine (zPG HJ.out (by omega) (x2:Int) (x3:Int)).mono ?_
    rintro e w5 ⟨rfl,hJ⟩
    have HJ5:=yh hJ
    have HB5:Hid (Below w.heap.size w w5):=HB3.out.trans ((JS.under hJ).1.mono HB3.out.size)
    clear hJ k2 k3 j2 j3
    go_wp2_with fail
    refine (HOPX.out _ w5 _ _ _ _ HB5.out HJ5.out).mono ?_
    rintro e w6 ⟨⟨A3,E3,c3,d3,zs,rfl,hsay,hzn,hro⟩,hb6⟩
    obtain ⟨G,hG⟩:∃ G:Int,G=(eo ((v:Int):Int) xs n:Int):=⟨_,rfl⟩
    rw [← hG]
    have hb67:=(Below.refl w6.heap.size w6).alloc (Nat.le_refl _) (.cells #[.int .i64 (v:Int),.slice A3 n c3,.slice E3 n d3,.int .i64 G] 37)
    have hxf:=zAE w6 (.cells #[.int .i64 (v:Int),.slice A3 n c3,.slice E3 n d3,.int .i64 G] 37)
    obtain ⟨w7,hw7⟩:∃ x,x=w6.alloc (.cells #[.int .i64 (v:Int),.slice A3 n c3,.slice E3 n d3,.int .i64 G] 37):=⟨_,rfl⟩
    have q0:=zAA (i:=0) hxf rfl;have q1:=zAA (i:=1) hxf rfl
    rw [← hw7] at hb67 hxf
    have HB7:=yh ((HB5.out.trans (hb6.mono HB5.out.size)).trans (hb67.mono (HB5.out.trans (hb6.mono HB5.out.size)).size))
    have HRC:=yh (hro.below hb67).read.1
    have HXF:=yh hxf
    have HSAY:=yh hsay
    have HZN:=yh hzn
    have HW7:=yh hw7
    clear hsay hzn hro hb6 hb67 hxf hw7 hG
    by_cases hvu:v=u
    ·have hvb:((v:Int) == (u:Int))=true:=by rw [hvu];simp
     clear hvu
     go_wp2_with fail
     rw [← HW7.out]
     refine (zPD A3 A' n n' c3 c' zs ys (by have:=HNX.out.2;unfold maxLen;omega) (by have:=HNY.out.2;unfold maxLen;omega) HZN.out w7 HRC.out (HRY.out w7 HB7.out)).mono ?_
     rintro e w8 ⟨⟨q,hq,rfl⟩,hb8⟩
     have HB8:=yh (HB7.out.trans (hb8.mono HB7.out.size))
     have HB78:=yh hb8
     clear hq hb8 q0 q1
     cases q with
     | true =>
      go_wp2_with fail
      refine (HFX.out _ HB8.out).mono ?_
      rintro e w9 ⟨rfl,hb9⟩
      go_wp2
      go_ret
      exact ⟨rfl,HB8.out.trans (hb9.mono HB8.out.size)⟩
     | false =>
      go_wp2_with fail
      refine (HFX.out _ HB8.out).mono ?_
      rintro e w9 ⟨rfl,hb9⟩
      have HB9:=yh (HB8.out.trans (hb9.mono HB8.out.size))
      have HB79:Hid (Below w7.heap.size w7 w9):=HB78.out.trans (hb9.mono HB78.out.size)
      have hx9:=(HB79.out.block w6.heap.size (Array.getElem?_eq_some_iff.1 HXF.out).1).trans HXF.out
      have s0:=zAA (i:=0) hx9 rfl;have s1:=zAA (i:=1) hx9 rfl
      clear hb9 hx9
      go_wp2_with fail
      refine (zPD A3 A n n c3 c zs xs (by have:=HNX.out.2;unfold maxLen;omega) (by have:=HNX.out.2;unfold maxLen;omega) HZN.out w9 ((HRC.out.below HB79.out).more HB79.out.size) (HRX.out w9 HB9.out)).mono ?_
      rintro e w10 ⟨he,hb10⟩
      obtain rfl:=he.yes (by have h1:=HSAY.out;rw [List.take_of_length_le (by have:=HNX.out.1;omega)] at h1;exact h1)
      go_wp2
      go_ret
      exact ⟨rfl,HB9.out.trans (hb10.mono HB9.out.size)⟩
    ·have hvb:((v:Int) == (u:Int))=false:=by rw [beq_eq_false_iff_ne];omega
     clear hvu
     have HB8:=HB7
     have HB78:Hid (Below w7.heap.size w7 w7):=Below.refl _ _
     go_wp2_with fail
     rw [← HW7.out]
     clear q0 q1
     refine (HFX.out _ HB8.out).mono ?_
     rintro e w9 ⟨rfl,hb9⟩
     have HB9:=yh (HB8.out.trans (hb9.mono HB8.out.size))
     have HB79:Hid (Below w7.heap.size w7 w9):=HB78.out.trans (hb9.mono HB78.out.size)
     have hx9:=(HB79.out.block w6.heap.size (Array.getElem?_eq_some_iff.1 HXF.out).1).trans HXF.out
     have s0:=zAA (i:=0) hx9 rfl;have s1:=zAA (i:=1) hx9 rfl
     clear hb9 hx9
     go_wp2_with fail
     refine (zPD A3 A n n c3 c zs xs (by have:=HNX.out.2;unfold maxLen;omega) (by have:=HNX.out.2;unfold maxLen;omega) HZN.out w9 ((HRC.out.below HB79.out).more HB79.out.size) (HRX.out w9 HB9.out)).mono ?_
     rintro e w10 ⟨he,hb10⟩
     obtain rfl:=he.yes (by have h1:=HSAY.out;rw [List.take_of_length_le (by have:=HNX.out.1;omega)] at h1;exact h1)
     go_wp2
     go_ret
     exact ⟨rfl,HB9.out.trans (hb10.mono HB9.out.size)⟩
  ·have j6:decide (y3<2)=false:=decide_eq_false hc
   have j7:decide ((y3:Int)<2)=false:=by rw [decide_eq_false_iff_not];omega
   go_wp2_with fail
   refine (zPf HJ.out (y2:Int) (by omega)).mono ?_
   rintro e w4 ⟨rfl,hJ⟩
   have HJ:=yh hJ
   clear hJ k2 k3 j1 j2 j3 j4 j5 j6 j7 hc hyb j0
   have HBW:Hid (Below w.heap.size w w4):=HB3.out.trans ((JS.under HJ.out).1.mono HB3.out.size)
   go_wp2_with fail
   refine (HST.out _ w4 _ _ _ _ HBW.out (by omega) HJ.out).mono ?_
   rintro e w4 ⟨z,rfl,⟨rfl,hJ,hmy⟩ | ⟨hz,hJ⟩⟩
   ·have HMY:=yh hmy
    have HJ:=yh hJ
    clear hJ hmy HBW
    have hx4:=((JS.under HJ.out).1.block w.heap.size (Array.getElem?_eq_some_iff.1 HX3.out).1).trans HX3.out
    have k2:=zAA (i:=2) hx4 rfl
    have k3:=zAA (i:=3) hx4 rfl
    have j2:IntKind.i64.wrap (x2:Int)=(x2:Int):=by rw [IntKind.wrap_i64];omega
    have j3:IntKind.i64.wrap (x3:Int)=(x3:Int):=by rw [IntKind.wrap_i64];omega
    clear hx4
    go_wp2_with fail
    refine (zPG HJ.out (by omega) (x2:Int) (x3:Int)).mono ?_
    rintro e w5 ⟨rfl,hJ⟩
    have HJ5:=yh hJ
    have HB5:Hid (Below w.heap.size w w5):=HB3.out.trans ((JS.under hJ).1.mono HB3.out.size)
    clear hJ k2 k3 j2 j3
    go_wp2_with fail
    refine (HOPY.out HMY.out _ w5 _ _ _ _ HB5.out HJ5.out).mono ?_
    rintro e w6 ⟨⟨A3,E3,c3,d3,zs,rfl,hsay,hzn,hro⟩,hb6⟩
    obtain ⟨G,hG⟩:∃ G:Int,G=(eo ((u:Int):Int) ys n':Int):=⟨_,rfl⟩
    rw [← hG]
    have hb67:=(Below.refl w6.heap.size w6).alloc (Nat.le_refl _) (.cells #[.int .i64 (u:Int),.slice A3 n' c3,.slice E3 n' d3,.int .i64 G] 37)
    have hxf:=zAE w6 (.cells #[.int .i64 (u:Int),.slice A3 n' c3,.slice E3 n' d3,.int .i64 G] 37)
    obtain ⟨w7,hw7⟩:∃ x,x=w6.alloc (.cells #[.int .i64 (u:Int),.slice A3 n' c3,.slice E3 n' d3,.int .i64 G] 37):=⟨_,rfl⟩
    have q0:=zAA (i:=0) hxf rfl;have q1:=zAA (i:=1) hxf rfl
    rw [← hw7] at hb67 hxf
    have HB7:=yh ((HB5.out.trans (hb6.mono HB5.out.size)).trans (hb67.mono (HB5.out.trans (hb6.mono HB5.out.size)).size))
    have HRC:=yh (hro.below hb67).read.1
    have HXF:=yh hxf
    have HSAY:=yh hsay
    have HZN:=yh hzn
    have HW7:=yh hw7
    clear hsay hzn hro hb6 hb67 hxf hw7 hG
    go_wp2_with fail
    rw [← HW7.out]
    refine (zPD A3 A' n' n' c3 c' zs ys (by have:=HNY.out.2;unfold maxLen;omega) (by have:=HNY.out.2;unfold maxLen;omega) HZN.out w7 HRC.out (HRY.out w7 HB7.out)).mono ?_
    rintro e w8 ⟨he,hb8⟩
    obtain rfl:=he.yes (by have h1:=HSAY.out;rw [List.take_of_length_le (by have:=HNY.out.1;omega)] at h1;exact h1)
    have HB8:=yh (HB7.out.trans (hb8.mono HB7.out.size))
    clear he hb8 q0 q1
    go_wp2_with fail
    refine (HFX.out _ HB8.out).mono ?_
    rintro e w9 ⟨rfl,hb9⟩
    go_wp2
    go_ret
    exact ⟨rfl,HB8.out.trans (hb9.mono HB8.out.size)⟩
   ·have hz2:(z == 0)=false:=by simpa using hz
    have hz3:(z != 0)=true:=by simpa using hz
    have hz4:decide (z=0)=false:=decide_eq_false hz
    have HJ:=yh hJ
    clear hJ hz HBW
    have hx4:=((JS.under HJ.out).1.block w.heap.size (Array.getElem?_eq_some_iff.1 HX3.out).1).trans HX3.out
    have k2:=zAA (i:=2) hx4 rfl
    have k3:=zAA (i:=3) hx4 rfl
    have j2:IntKind.i64.wrap (x2:Int)=(x2:Int):=by rw [IntKind.wrap_i64];omega
    have j3:IntKind.i64.wrap (x3:Int)=(x3:Int):=by rw [IntKind.wrap_i64];omega
    clear hx4
    go_wp2_with fail
    refine (zPG HJ.out (by omega) (x2:Int) (x3:Int)).mono ?_
    rintro e w5 ⟨rfl,hJ⟩
    have HJ5:=yh hJ
    have HB5:Hid (Below w.heap.size w w5):=HB3.out.trans ((JS.under hJ).1.mono HB3.out.size)
    clear hJ k2 k3 j2 j3
    go_wp2_with fail
    refine (HOPX.out _ w5 _ _ _ _ HB5.out HJ5.out).mono ?_
    rintro e w6 ⟨⟨A3,E3,c3,d3,zs,rfl,hsay,hzn,hro⟩,hb6⟩
    obtain ⟨G,hG⟩:∃ G:Int,G=(eo ((v:Int):Int) xs n:Int):=⟨_,rfl⟩
    rw [← hG]
    have hb67:=(Below.refl w6.heap.size w6).alloc (Nat.le_refl _) (.cells #[.int .i64 (v:Int),.slice A3 n c3,.slice E3 n d3,.int .i64 G] 37)
    have hxf:=zAE w6 (.cells #[.int .i64 (v:Int),.slice A3 n c3,.slice E3 n d3,.int .i64 G] 37)
    obtain ⟨w7,hw7⟩:∃ x,x=w6.alloc (.cells #[.int .i64 (v:Int),.slice A3 n c3,.slice E3 n d3,.int .i64 G] 37):=⟨_,rfl⟩
    have q0:=zAA (i:=0) hxf rfl;have q1:=zAA (i:=1) hxf rfl
    rw [← hw7] at hb67 hxf
    have HB7:=yh ((HB5.out.trans (hb6.mono HB5.out.size)).trans (hb67.mono (HB5.out.trans (hb6.mono HB5.out.size)).size))
    have HRC:=yh (hro.below hb67).read.1
    have HXF:=yh hxf
    have HSAY:=yh hsay
    have HZN:=yh hzn
    have HW7:=yh hw7
    clear hsay hzn hro hb6 hb67 hxf hw7 hG
    by_cases hvu:v=u
    ·have hvb:((v:Int) == (u:Int))=true:=by rw [hvu];simp
     clear hvu
     go_wp2_with fail
     rw [← HW7.out]
     refine (zPD A3 A' n n' c3 c' zs ys (by have:=HNX.out.2;unfold maxLen;omega) (by have:=HNY.out.2;unfold maxLen;omega) HZN.out w7 HRC.out (HRY.out w7 HB7.out)).mono ?_
     rintro e w8 ⟨⟨q,hq,rfl⟩,hb8⟩
     have HB8:=yh (HB7.out.trans (hb8.mono HB7.out.size))
     have HB78:=yh hb8
     clear hq hb8 q0 q1
     cases q with
     | true =>
      go_wp2_with fail
      refine (HFX.out _ HB8.out).mono ?_
      rintro e w9 ⟨rfl,hb9⟩
      go_wp2
      go_ret
      exact ⟨rfl,HB8.out.trans (hb9.mono HB8.out.size)⟩
     | false =>
      go_wp2_with fail
      refine (HFX.out _ HB8.out).mono ?_
      rintro e w9 ⟨rfl,hb9⟩
      have HB9:=yh (HB8.out.trans (hb9.mono HB8.out.size))
      have HB79:Hid (Below w7.heap.size w7 w9):=HB78.out.trans (hb9.mono HB78.out.size)
      have hx9:=(HB79.out.block w6.heap.size (Array.getElem?_eq_some_iff.1 HXF.out).1).trans HXF.out
      have s0:=zAA (i:=0) hx9 rfl;have s1:=zAA (i:=1) hx9 rfl
      clear hb9 hx9
      go_wp2_with fail
      refine (zPD A3 A n n c3 c zs xs (by have:=HNX.out.2;unfold maxLen;omega) (by have:=HNX.out.2;unfold maxLen;omega) HZN.out w9 ((HRC.out.below HB79.out).more HB79.out.size) (HRX.out w9 HB9.out)).mono ?_
      rintro e w10 ⟨he,hb10⟩
      obtain rfl:=he.yes (by have h1:=HSAY.out;rw [List.take_of_length_le (by have:=HNX.out.1;omega)] at h1;exact h1)
      go_wp2
      go_ret
      exact ⟨rfl,HB9.out.trans (hb10.mono HB9.out.size)⟩
    ·have hvb:((v:Int) == (u:Int))=false:=by rw [beq_eq_false_iff_ne];omega
     clear hvu
     have HB8:=HB7
     have HB78:Hid (Below w7.heap.size w7 w7):=Below.refl _ _
     go_wp2_with fail
     rw [← HW7.out]
     clear q0 q1
     refine (HFX.out _ HB8.out).mono ?_
     rintro e w9 ⟨rfl,hb9⟩
     have HB9:=yh (HB8.out.trans (hb9.mono HB8.out.size))
     have HB79:Hid (Below w7.heap.size w7 w9):=HB78.out.trans (hb9.mono HB78.out.size)
     have hx9:=(HB79.out.block w6.heap.size (Array.getElem?_eq_some_iff.1 HXF.out).1).trans HXF.out
     have s0:=zAA (i:=0) hx9 rfl;have s1:=zAA (i:=1) hx9 rfl
     clear hb9 hx9
     go_wp2_with fail
     refine (zPD A3 A n n c3 c zs xs (by have:=HNX.out.2;unfold maxLen;omega) (by have:=HNX.out.2;unfold maxLen;omega) HZN.out w9 ((HRC.out.below HB79.out).more HB79.out.size) (HRX.out w9 HB9.out)).mono ?_
     rintro e w10 ⟨he,hb10⟩
     obtain rfl:=he.yes (by have h1:=HSAY.out;rw [List.take_of_length_le (by have:=HNX.out.1;omega)] at h1;exact h1)
     go_wp2
     go_ret
     exact ⟨rfl,HB9.out.trans (hb10.mono HB9.out.size)⟩
end Go.Proofs.YtfbgmehicmpdiaaGreatDoor
