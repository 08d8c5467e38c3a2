/- Texts of one proof. -/
import Derived.Test.YtfbgmehicmpdiaaGreatDoorMx47
set_option maxRecDepth 100000
set_option maxHeartbeats 8000000
namespace Go.Proofs.YtfbgmehicmpdiaaGreatDoor
open Go.RowKit
theorem zLn (A:Option Addr) (n c x0 x1 x2 x3 kp:Nat) (w:World)
  (HG1:Hid (∀ W,Below w.heap.size w W→Calls Tryz.prog 6 #[.slice A n c] W fun e w' =>e=.returned (.bool true)∧Below W.heap.size W w'))
  (HFX:Hid (∀ W,Below w.heap.size w W→Calls Tryz.prog 7 #[] W fun e w' =>e=.returned (.bool true)∧Below W.heap.size W w')) :
  Calls Tryz.prog 4 #[.slice A n c,.agg #[.int .u8 (x0:Int),.int .u8 (x1:Int),.int .u8 (x2:Int),.int .u8 (x3:Int)],.int .u16 (kp:Int)] w fun e w' =>e=.returned (.bool true)∧Below w.heap.size w w':=by
 have hbx0:=zAD w (.cells #[.int .u8 (x0:Int),.int .u8 (x1:Int),.int .u8 (x2:Int),.int .u8 (x3:Int)] 23)
 have hb0:=(Below.refl w.heap.size w).alloc (Nat.le_refl _) (.cells #[.int .u8 (x0:Int),.int .u8 (x1:Int),.int .u8 (x2:Int),.int .u8 (x3:Int)] 23)
 obtain ⟨w0,hw0⟩:∃ x,x=w.alloc (.cells #[.int .u8 (x0:Int),.int .u8 (x1:Int),.int .u8 (x2:Int),.int .u8 (x3:Int)] 23):=⟨_,rfl⟩
 rw [← hw0] at hbx0 hb0
 have HX0:=yh hbx0
 have HB0:=yh hb0
 have HW0:=yh hw0
 clear hbx0 hb0 hw0
 go_enter Tryz.func4,Tryz.ntmps4
 go_wp2_with fail
 rw [← HW0.out]
 refine (HG1.out _ HB0.out).mono ?_
 rintro e w1 ⟨rfl,hb1⟩
 have HB1:=yh (HB0.out.trans (hb1.mono HB0.out.size))
 clear hb1
 go_wp2_with fail
 refine (HFX.out _ HB1.out).mono ?_
 rintro e w2 ⟨rfl,hb2⟩
 go_wp2
 go_ret
 exact ⟨rfl,HB1.out.trans (hb2.mono HB1.out.size)⟩
theorem zQL (A:Option Addr) (n c x0 x1 x2 x3 kp k:Nat) (hx0:x0<256) (hk:k≤n) (hmin:min (x0:Int) (n:Int)=(k:Int)) (hnc:n≤c) (hA:A=none→c=0) (w:World)
  (HG1:Hid (∀ W,Below w.heap.size w W→Calls Tryz.prog 6 #[.slice A n c] W fun e w' =>e=.returned (.bool false)∧Below W.heap.size W w'))
  (HFX:Hid (∀ W,Below w.heap.size w W→Calls Tryz.prog 7 #[] W fun e w' =>e=.returned (.bool true)∧Below W.heap.size W w'))
  (HBEG:Hid (∀ W,Below w.heap.size w W→Calls Tryz.prog 8 #[.int .i64 3,.slice A k c] W fun e w' =>e=.returned (.tuple #[.pointer (some ⟨W.heap.size+1,0,none⟩),.bool false])∧Below W.heap.size W w')) :
  Calls Tryz.prog 4 #[.slice A n c,.agg #[.int .u8 (x0:Int),.int .u8 (x1:Int),.int .u8 (x2:Int),.int .u8 (x3:Int)],.int .u16 (kp:Int)] w fun e w' =>e=.returned (.bool true)∧Below w.heap.size w w':=by
 have hbx0:=zAD w (.cells #[.int .u8 (x0:Int),.int .u8 (x1:Int),.int .u8 (x2:Int),.int .u8 (x3:Int)] 23)
 have hb0:=(Below.refl w.heap.size w).alloc (Nat.le_refl _) (.cells #[.int .u8 (x0:Int),.int .u8 (x1:Int),.int .u8 (x2:Int),.int .u8 (x3:Int)] 23)
 obtain ⟨w0,hw0⟩:∃ x,x=w.alloc (.cells #[.int .u8 (x0:Int),.int .u8 (x1:Int),.int .u8 (x2:Int),.int .u8 (x3:Int)] 23):=⟨_,rfl⟩
 rw [← hw0] at hbx0 hb0
 have HX0:=yh hbx0
 have HB0:=yh hb0
 have HW0:=yh hw0
 clear hbx0 hb0 hw0
 have gx0:IntKind.i64.wrap (x0:Int)=(x0:Int):=by rw [IntKind.wrap_i64];omega
 have hmn:∀ (ts:Array TypeId) (t:TypeId) (W:World),(Builtin.min_ ts t #[.int .i64 (x0:Int),.int .i64 (n:Int)]).run Tryz.prog W=.ok (.int .i64 (k:Int)) W:=fun ts t W =>by rw [Lib.run_min_ints,hmin]
 have hsl:∀ W:World,(Instr.sliceAt 22 (.slice A n c) none (some (.int .i64 (k:Int))) none).run Tryz.prog W=.ok (.slice A k c) W:=fun W =>by
  have hk0:(0:Int)≤(k:Int):=by omega
  have hkn:(k:Int)≤(n:Int):=by omega
  have hkc:(k:Int)≤(c:Int):=by omega
  cases A with
  | none =>
   obtain rfl:=hA rfl
   obtain rfl:k=0:=by omega
   go_simp
  | some ad =>go_simp
 clear hmin hA
 go_enter Tryz.func4,Tryz.ntmps4
 go_wp2_with fail
 rw [← HW0.out]
 refine (HG1.out _ HB0.out).mono ?_
 rintro e w1 ⟨rfl,hb1⟩
 have HB1:=yh (HB0.out.trans (hb1.mono HB0.out.size))
 have c0:=zAA (i:=0) ((hb1.block w.heap.size (Array.getElem?_eq_some_iff.1 HX0.out).1).trans HX0.out) rfl
 clear hb1
 go_wp2_with fail
 refine (HBEG.out w1 HB1.out).mono ?_
 rintro e w4 ⟨rfl,hb4⟩
 have HB4:=yh (HB1.out.trans (hb4.mono HB1.out.size))
 clear hb4 c0 hsl hmn
 go_wp2_with fail
 refine (HFX.out _ HB4.out).mono ?_
 rintro e w5 ⟨rfl,hb5⟩
 go_wp2
 go_ret
 exact ⟨rfl,HB4.out.trans (hb5.mono HB4.out.size)⟩
theorem zPJ (A:Option Addr) (n c x0 x1 x2 x3 kp:Nat) (hx0:x0<256) (hx1:x1<256) (hx2:x2<256) (hkp:kp<65536) (xs:List Rw) (hn:n≤maxLen) (hnc:n≤c) (hA:A=none→c=0) (hf:∀ x ∈ xs,(Fits x.r x.l∧x.n≤maxLen)∧Nums x.r x.l) (w:World) (hl:Laid w) (h:Recs w w.heap.size A n xs) :
  Calls Tryz.prog 4 #[.slice A n c,.agg #[.int .u8 (x0:Int),.int .u8 (x1:Int),.int .u8 (x2:Int),.int .u8 (x3:Int)],.int .u16 (kp:Int)] w fun e w' =>e=.returned (.bool true)∧Below w.heap.size w w':=by
 have HFX:Hid (∀ W,Below w.heap.size w W→Calls Tryz.prog 7 #[] W fun e w' =>e=.returned (.bool true)∧Below W.heap.size W w'):=fun W hb =>zKb W (hl.below hb)
 have hrx:∀ W,Below w.heap.size w W→Recs W W.heap.size A n xs:=fun W hb =>(h.below hb).more hb.size
 have hg1:∀ W,Below w.heap.size w W→Calls Tryz.prog 6 #[.slice A n c] W fun e w' =>zAx (¬ zDV xs) e∧Below W.heap.size W w':=fun W hb =>zKZ A n c xs hn (fun x hx =>(hf x hx).1) W (hrx W hb)
 have hlx:xs.length=n:=h.len
 by_cases sx:zDV xs
 ·have HG1:Hid (∀ W,Below w.heap.size w W→Calls Tryz.prog 6 #[.slice A n c] W fun e w' =>e=.returned (.bool false)∧Below W.heap.size W w'):=fun W hb =>(hg1 W hb).mono fun e w' ⟨he,hb2⟩ =>⟨he.no (fun h =>h sx),hb2⟩
  have hx30:xs.length≤30:=sx.2
  have hln:∀ x ∈ xs,x.l.length=x.n:=fun x hx =>by have h1:=(h.2 x hx).1.1;rw [zAr] at h1;omega
  have hfx:∀ x ∈ xs,Fits x.r x.l∧Nums x.r x.l∧x.n≤1000:=fun x hx =>⟨(hf x hx).1.1,(hf x hx).2,by have h1:=hln x hx;have h2:=(sx.1 x hx).2.1;omega⟩
  obtain ⟨k,hk,hmin⟩:∃ k:Nat,k≤n∧min (x0:Int) (n:Int)=(k:Int):=⟨min x0 n,Nat.min_le_right _ _,by omega⟩
  have hfk:∀ x ∈ xs.take k,Fits x.r x.l∧Nums x.r x.l∧x.n≤1000:=fun x hx =>hfx x (List.mem_of_mem_take hx)
  have hk30:(xs.take k).length≤30:=by rw [List.length_take];omega
  by_cases hmx:zAj 3 (xs.take k)
  ·refine zNa A n c x0 x1 x2 x3 kp k hx0 hx1 hx2 hkp hk hmin hnc hA xs w hl HG1 HFX (yh fun W hb =>?_) (yh hrx) hfx hln ⟨hlx,by omega⟩ hmx
   exact (zMx 3 (by omega) A k c (xs.take k) hmx hfk hk30 W (hl.below hb) (zBl (hrx W hb) hk)).mono fun e w' ⟨h1,h2⟩ =>⟨h1,(JT.of_js h2).imp (fun σ hs =>zNZ hs (hs.quiet zFL))⟩
  ·refine zQL A n c x0 x1 x2 x3 kp k hx0 hk hmin hnc hA w HG1 HFX (yh fun W hb =>?_)
   refine zMw 3 1 (by omega) A k c W (yh fun W1 hb1 =>?_)
   refine (zHB 3 (by omega) (xs.take k) A k c (by omega) hfk W1 (hl.below (hb.trans (hb1.mono hb.size))) (zBl (hrx W1 (hb.trans (hb1.mono hb.size))) hk)).mono ?_
   rintro e w' ⟨h1,hb2⟩
   rcases h1 with ⟨hy,_⟩ | ⟨_,rfl⟩
   ·exact absurd hy hmx
   ·exact ⟨rfl,hb2⟩
 ·exact zLn A n c x0 x1 x2 x3 kp w (yh fun W hb =>(hg1 W hb).mono fun e w' ⟨he,hb2⟩ =>⟨he.yes sx,hb2⟩) HFX
open Go.ChangeShapes Go.WideShapes Go.ChangeAt Go.RowKit
theorem zKi {P:Program} {w:World} {r:Reach} {base n:Nat} {t e:TypeId} {v:Value} (ht:P.underlying t=some (.array n e)) (h:Value.okWide P w r base t v):∃ cs,v=.agg cs∧cs.size=P.cellsOf t:=by
 unfold Value.okWide at h
 rw [ht] at h
 cases v <;> simp_all
theorem zMA {H:Type} {enc:TypeId×Value→H} {P:Program} {W:World} {t e:TypeId} {v:Value} {d:DataW H} {ps:List MemPlace} {r:Reach} {b0:Nat} (ht:P.underlying t=some (.array 4 e)) (he:P.underlying e=some (.int .u8)) (hc:P.cellsOf e=1) (hc2:P.cellsOf t=4)
  (hval:Value.okWide P W r b0 t v) (hd:DataW.Trod enc P W 0 (fun _ =>true) true t v d ps) :
  ∃ x0 x1 x2 x3:Nat,v=.agg #[.int .u8 (x0:Int),.int .u8 (x1:Int),.int .u8 (x2:Int),.int .u8 (x3:Int)]∧x0<256∧x1<256∧x2<256∧x3<256:=by
 obtain ⟨cs,rfl,hsz⟩:=zKi ht hval
 obtain ⟨fuel,hf⟩:=hd
 obtain ⟨xs,m,rfl,hx,hlen,hxl,hel⟩:=DataW.trod_array ht hf
 have hcell:∀ i,i<4→∃ x:Nat,x<256∧cs.toList[i]? = some (.int .u8 (x:Int)):=by
  intro i hi
  obtain ⟨y,hy⟩:∃ y,xs[i]? = some y:=⟨_,List.getElem?_eq_getElem (by omega)⟩
  have h2:=hel i hi
  rw [hy,hc,Nat.mul_one] at h2
  obtain ⟨z,e1,_,e3⟩:=DataW.trod_int he h2
  have h3:cs.toList[i]? = some (.int .u8 z):=by
   have:=congrArg (fun l:List Value =>l[0]?) e1
   simpa [List.getElem?_take,List.getElem?_drop,Value.cells] using this
  have hz:0≤z∧z≤255:=by simpa [Lit.wf,IntKind.min,IntKind.max,IntKind.signed,IntKind.bits] using e3
  refine ⟨z.toNat,by omega,?_⟩
  rw [h3]
  congr 2
  omega
 obtain ⟨x0,l0,g0⟩:=hcell 0 (by omega)
 obtain ⟨x1,l1,g1⟩:=hcell 1 (by omega)
 obtain ⟨x2,l2,g2⟩:=hcell 2 (by omega)
 obtain ⟨x3,l3,g3⟩:=hcell 3 (by omega)
 refine ⟨x0,x1,x2,x3,?_,l0,l1,l2,l3⟩
 congr 1
 apply Array.ext'
 have hl:cs.toList.length=4:=by rw [Array.length_toList,hsz,hc2]
 match h:cs.toList,hl with
 | [a,b,c,e],_ =>
  rw [h] at g0 g1 g2 g3
  simp at g0 g1 g2 g3
  simp [g0,g1,g2,g3]
end Go.Proofs.YtfbgmehicmpdiaaGreatDoor
