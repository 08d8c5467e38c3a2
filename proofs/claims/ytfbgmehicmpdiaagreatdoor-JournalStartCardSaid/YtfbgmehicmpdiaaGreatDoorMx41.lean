/- Texts of one proof. -/
import Derived.Test.YtfbgmehicmpdiaaGreatDoorMx40
set_option maxRecDepth 100000
set_option maxHeartbeats 8000000
namespace Go.Proofs.YtfbgmehicmpdiaaGreatDoor
open Go.RowKit
theorem zPr (A A':Option Addr) (n c n' c' x0 x1 x2 x3:Nat) (P1 P2:Prop) (hp:P1∨P2) (w:World)
  (HG1:Hid (∀ W,Below w.heap.size w W→Calls Tryz.prog 6 #[.slice A n c] W fun e w' =>zBG P1 e∧Below W.heap.size W w'))
  (HG2:Hid (∀ W,Below w.heap.size w W→Calls Tryz.prog 6 #[.slice A' n' c'] W fun e w' =>zBG P2 e∧Below W.heap.size W w'))
  (HFX:Hid (∀ W,Below w.heap.size w W→Calls Tryz.prog 7 #[] W fun e w' =>e=.returned (.bool true)∧Below W.heap.size W w')) :
  Calls Tryz.prog 3 #[.slice A n c,.slice A' n' c',.agg #[.int .u8 (x0:Int),.int .u8 (x1:Int),.int .u8 (x2:Int),.int .u8 (x3:Int)]] w fun e w' =>e=.returned (.bool true)∧Below w.heap.size w w':=by
 have hbx0:=zAE w (.cells #[.int .u8 (x0:Int),.int .u8 (x1:Int),.int .u8 (x2:Int),.int .u8 (x3:Int)] 23)
 have hb0:=(Below.refl w.heap.size w).alloc (Nat.le_refl _) (.cells #[.int .u8 (x0:Int),.int .u8 (x1:Int),.int .u8 (x2:Int),.int .u8 (x3:Int)] 23)
 obtain ⟨w0,hw0⟩:∃ x,x=w.alloc (.cells #[.int .u8 (x0:Int),.int .u8 (x1:Int),.int .u8 (x2:Int),.int .u8 (x3:Int)] 23):=⟨_,rfl⟩
 rw [← hw0] at hbx0 hb0
 have HX0:=yh hbx0
 have HB0:=yh hb0
 have HW0:=yh hw0
 clear hbx0 hb0 hw0
 go_enter Tryz.func3,Tryz.ntmps3
 go_wp2_with fail
 rw [← HW0.out]
 refine (HG1.out _ HB0.out).mono ?_
 rintro e w1 ⟨he1,hb1⟩
 have HB1:=yh (HB0.out.trans (hb1.mono HB0.out.size))
 clear hb1
 by_cases hp1:P1
 ·obtain rfl:=he1.yes hp1
  clear he1 hp1 hp
  go_wp2_with fail
  refine (HFX.out _ HB1.out).mono ?_
  rintro e w2 ⟨rfl,hb2⟩
  go_wp2
  go_ret
  exact ⟨rfl,HB1.out.trans (hb2.mono HB1.out.size)⟩
 ·obtain rfl:=he1.no hp1
  have hp2:P2:=by rcases hp with h | h;exact absurd h hp1;exact h
  clear he1 hp1 hp
  go_wp2_with fail
  refine (HG2.out _ HB1.out).mono ?_
  rintro e w2 ⟨he2,hb2⟩
  obtain rfl:=he2.yes hp2
  have HB2:=yh (HB1.out.trans (hb2.mono HB1.out.size))
  clear he2 hp2 hb2
  go_wp2_with fail
  refine (HFX.out _ HB2.out).mono ?_
  rintro e w3 ⟨rfl,hb3⟩
  go_wp2
  go_ret
  exact ⟨rfl,HB2.out.trans (hb3.mono HB2.out.size)⟩
theorem zQI (A A':Option Addr) (n c n' c' x0 x1 x2 x3 v u:Nat) (hx0:x0<256) (hx1:x1<256) (hv:v=1+x0 % 3) (hu:u=1+x1 % 3) (w:World)
  (HG1:Hid (∀ W,Below w.heap.size w W→Calls Tryz.prog 6 #[.slice A n c] W fun e w' =>e=.returned (.bool false)∧Below W.heap.size W w'))
  (HG2:Hid (∀ W,Below w.heap.size w W→Calls Tryz.prog 6 #[.slice A' n' c'] W fun e w' =>e=.returned (.bool false)∧Below W.heap.size W w'))
  (HFX:Hid (∀ W,Below w.heap.size w W→Calls Tryz.prog 7 #[] W fun e w' =>e=.returned (.bool true)∧Below W.heap.size W w'))
  (HBEG:Hid (∀ W,Below w.heap.size w W→Calls Tryz.prog 8 #[.int .i64 (v:Int),.slice A n c] W fun e w' =>e=.returned (.tuple #[.pointer (some ⟨W.heap.size+1,0,none⟩),.bool false])∧Below W.heap.size W w')) :
  Calls Tryz.prog 3 #[.slice A n c,.slice A' n' c',.agg #[.int .u8 (x0:Int),.int .u8 (x1:Int),.int .u8 (x2:Int),.int .u8 (x3:Int)]] w fun e w' =>e=.returned (.bool true)∧Below w.heap.size w w':=by
 have HV:=yh hv
 have HU:=yh hu
 clear hv hu
 have hbx0:=zAE w (.cells #[.int .u8 (x0:Int),.int .u8 (x1:Int),.int .u8 (x2:Int),.int .u8 (x3:Int)] 23)
 have hb0:=(Below.refl w.heap.size w).alloc (Nat.le_refl _) (.cells #[.int .u8 (x0:Int),.int .u8 (x1:Int),.int .u8 (x2:Int),.int .u8 (x3:Int)] 23)
 obtain ⟨w0,hw0⟩:∃ x,x=w.alloc (.cells #[.int .u8 (x0:Int),.int .u8 (x1:Int),.int .u8 (x2:Int),.int .u8 (x3:Int)] 23):=⟨_,rfl⟩
 rw [← hw0] at hbx0 hb0
 have HX0:=yh hbx0
 have HB0:=yh hb0
 have HW0:=yh hw0
 clear hbx0 hb0 hw0
 go_enter Tryz.func3,Tryz.ntmps3
 go_wp2_with fail
 rw [← HW0.out]
 refine (HG1.out _ HB0.out).mono ?_
 rintro e w1 ⟨rfl,hb1⟩
 have HB1:=yh (HB0.out.trans (hb1.mono HB0.out.size))
 have HX1:=yh ((hb1.block w.heap.size (Array.getElem?_eq_some_iff.1 HX0.out).1).trans HX0.out)
 clear hb1
 go_wp2_with fail
 refine (HG2.out _ HB1.out).mono ?_
 rintro e w2 ⟨rfl,hb2⟩
 have HB2:=yh (HB1.out.trans (hb2.mono HB1.out.size))
 have hx2:=(hb2.block w.heap.size (Array.getElem?_eq_some_iff.1 HX1.out).1).trans HX1.out
 have HX2:=yh hx2
 have c0:=zAA (i:=0) hx2 rfl
 have c1:=zAA (i:=1) hx2 rfl
 clear hb2 hx2
 go_wp2_with fail
 have hv:=HV.out
 have hu:=HU.out
 obtain ⟨y0,hy0⟩:∃ y0,y0=x0 % 3:=⟨_,rfl⟩
 obtain ⟨y1,hy1⟩:∃ y1,y1=x1 % 3:=⟨_,rfl⟩
 have i0:(x0:Int).tmod 3=(y0:Int):=by rw [Int.tmod_eq_emod_of_nonneg (by omega),hy0];simp
 have i1:(x1:Int).tmod 3=(y1:Int):=by rw [Int.tmod_eq_emod_of_nonneg (by omega),hy1];simp
 have e0:(1:Int)+(y0:Int)=(v:Int):=by omega
 have e1:(1:Int)+(y1:Int)=(u:Int):=by omega
 have g0:IntKind.u8.wrap (y0:Int)=(y0:Int):=by rw [IntKind.wrap_u8];omega
 have g1:IntKind.u8.wrap (y1:Int)=(y1:Int):=by rw [IntKind.wrap_u8];omega
 have g2:IntKind.i64.wrap (y0:Int)=(y0:Int):=by rw [IntKind.wrap_i64];omega
 have g3:IntKind.i64.wrap (y1:Int)=(y1:Int):=by rw [IntKind.wrap_i64];omega
 have g4:IntKind.i64.wrap (v:Int)=(v:Int):=by rw [IntKind.wrap_i64];omega
 have g5:IntKind.i64.wrap (u:Int)=(u:Int):=by rw [IntKind.wrap_i64];omega
 clear hy0 hy1 hv hu
 have hS:w2.drew=w2.drew:=rfl
 refine wp_region_held (S:=fun W =>W=w2.drew) (by kernel_rfl) ?_
 refine zAB 0 ((.pointer (some ⟨w.heap.size,0,none⟩))) rfl (by kernel_rfl) (by kernel_rfl) (by kernel_rfl) (fun _ _ _ h =>h) (by kernel_rfl) hS (by rintro w' rfl;go_simp) ?_
 refine zAB 1 (.int .u8 (x0:Int)) rfl (by kernel_rfl) (by kernel_rfl) (by kernel_rfl) (fun _ _ _ h =>h) (by kernel_rfl) hS (by rintro w' rfl;go_simp) ?_
 refine zAB 2 (.int .u8 (y0:Int)) rfl (by kernel_rfl) (by kernel_rfl) (by kernel_rfl) (fun _ _ _ h =>h) (by kernel_rfl) hS (by rintro w' rfl;go_simp) ?_
 refine zAB 3 (.int .i64 (y0:Int)) rfl (by kernel_rfl) (by kernel_rfl) (by kernel_rfl) (fun _ _ _ h =>h) (by kernel_rfl) hS (by rintro w' rfl;go_simp) ?_
 refine zAB 4 (.int .i64 (v:Int)) rfl (by kernel_rfl) (by kernel_rfl) (by kernel_rfl) (fun _ _ _ h =>h) (by kernel_rfl) hS (by rintro w' rfl;go_simp) ?_
 refine zAB 5 ((.pointer (some ⟨w.heap.size,1,none⟩))) rfl (by kernel_rfl) (by kernel_rfl) (by kernel_rfl) (fun _ _ _ h =>h) (by kernel_rfl) hS (by rintro w' rfl;go_simp) ?_
 refine zAB 6 (.int .u8 (x1:Int)) rfl (by kernel_rfl) (by kernel_rfl) (by kernel_rfl) (fun _ _ _ h =>h) (by kernel_rfl) hS (by rintro w' rfl;go_simp) ?_
 refine zAB 7 (.int .u8 (y1:Int)) rfl (by kernel_rfl) (by kernel_rfl) (by kernel_rfl) (fun _ _ _ h =>h) (by kernel_rfl) hS (by rintro w' rfl;go_simp) ?_
 refine zAB 8 (.int .i64 (y1:Int)) rfl (by kernel_rfl) (by kernel_rfl) (by kernel_rfl) (fun _ _ _ h =>h) (by kernel_rfl) hS (by rintro w' rfl;go_simp) ?_
 refine zAB 9 (.int .i64 (u:Int)) rfl (by kernel_rfl) (by kernel_rfl) (by kernel_rfl) (fun _ _ _ h =>h) (by kernel_rfl) hS (by rintro w' rfl;go_simp) ?_
 refine zAB 10 (.int .i64 (v:Int)) rfl (by kernel_rfl) (by kernel_rfl) (by kernel_rfl) (fun _ _ _ h =>h) (by kernel_rfl) hS (fun _ _ =>by kernel_rfl) ?_
 refine zAB 11 (.int .i64 (u:Int)) rfl (by kernel_rfl) (by kernel_rfl) (by kernel_rfl) (fun _ _ _ h =>h) (by kernel_rfl) hS (fun _ _ =>by kernel_rfl) ?_
 refine wpAnyH_done (by kernel_rfl) ?_ _
 go_simp
 clear i0 i1 e0 e1 g0 g1 g2 g3 g4 g5 c0 c1 hS
 go_wp2_with fail
 have HB3:Hid (Below w.heap.size w w2.drew):=HB2.out.drew
 obtain ⟨w3,hw3⟩:∃ x,x=w2.drew:=⟨_,rfl⟩
 rw [← hw3] at HB3 ⊢
 clear hw3
 refine (HBEG.out _ HB3.out).mono ?_
 rintro e w4 ⟨rfl,hb4⟩
 have HB4:=yh (HB3.out.trans (hb4.mono HB3.out.size))
 clear hb4
 go_wp2_with fail
 refine (HFX.out _ HB4.out).mono ?_
 rintro e w5 ⟨rfl,hb5⟩
 go_wp2
 go_ret
 exact ⟨rfl,HB4.out.trans (hb5.mono HB4.out.size)⟩
theorem zPq (A A':Option Addr) (n c n' c' x0 x1 x2 x3:Nat) (hx0:x0<256) (hx1:x1<256) (hx2:x2<256) (hx3:x3<256) (xs ys:List Rw) (hn:n≤maxLen) (hn':n'≤maxLen) (hf:∀ x ∈ xs,(Fits x.r x.l∧x.n≤maxLen)∧Nums x.r x.l) (hf':∀ x ∈ ys,(Fits x.r x.l∧x.n≤maxLen)∧Nums x.r x.l) (w:World) (hl:Laid w) (h:Recs w w.heap.size A n xs) (h':Recs w w.heap.size A' n' ys) :
  Calls Tryz.prog 3 #[.slice A n c,.slice A' n' c',.agg #[.int .u8 (x0:Int),.int .u8 (x1:Int),.int .u8 (x2:Int),.int .u8 (x3:Int)]] w fun e w' =>e=.returned (.bool true)∧Below w.heap.size w w':=by
 have HFX:Hid (∀ W,Below w.heap.size w W→Calls Tryz.prog 7 #[] W fun e w' =>e=.returned (.bool true)∧Below W.heap.size W w'):=fun W hb =>zJH W (hl.below hb)
 have hrx:∀ W,Below w.heap.size w W→Recs W W.heap.size A n xs:=fun W hb =>(h.below hb).more hb.size
 have hry:∀ W,Below w.heap.size w W→Recs W W.heap.size A' n' ys:=fun W hb =>(h'.below hb).more hb.size
 have hg1:∀ W,Below w.heap.size w W→Calls Tryz.prog 6 #[.slice A n c] W fun e w' =>zBG (¬ zPF xs) e∧Below W.heap.size W w':=fun W hb =>zPU A n c xs hn (fun x hx =>(hf x hx).1) W (hrx W hb)
 have hg2:∀ W,Below w.heap.size w W→Calls Tryz.prog 6 #[.slice A' n' c'] W fun e w' =>zBG (¬ zPF ys) e∧Below W.heap.size W w':=fun W hb =>zPU A' n' c' ys hn' (fun x hx =>(hf' x hx).1) W (hry W hb)
 by_cases sm:zPF xs∧zPF ys
 ·obtain ⟨sx,sy⟩:=sm
  have HG1:Hid (∀ W,Below w.heap.size w W→Calls Tryz.prog 6 #[.slice A n c] W fun e w' =>e=.returned (.bool false)∧Below W.heap.size W w'):=fun W hb =>(hg1 W hb).mono fun e w' ⟨he,hb2⟩ =>⟨he.no (fun h =>h sx),hb2⟩
  have HG2:Hid (∀ W,Below w.heap.size w W→Calls Tryz.prog 6 #[.slice A' n' c'] W fun e w' =>e=.returned (.bool false)∧Below W.heap.size W w'):=fun W hb =>(hg2 W hb).mono fun e w' ⟨he,hb2⟩ =>⟨he.no (fun h =>h sy),hb2⟩
  have hlx:xs.length=n:=h.len
  have hly:ys.length=n':=h'.len
  have hx30:xs.length≤30:=sx.2
  have hy30:ys.length≤30:=sy.2
  have hfx:∀ x ∈ xs,Fits x.r x.l∧Nums x.r x.l∧x.n≤1000:=fun x hx =>⟨(hf x hx).1.1,(hf x hx).2,by have h1:=(h.2 x hx).1.1;rw [zBH] at h1;have h2:=(sx.1 x hx).2.1;omega⟩
  have hfy:∀ x ∈ ys,Fits x.r x.l∧Nums x.r x.l∧x.n≤1000:=fun x hx =>⟨(hf' x hx).1.1,(hf' x hx).2,by have h1:=(h'.2 x hx).1.1;rw [zBH] at h1;have h2:=(sy.1 x hx).2.1;omega⟩
  have hlx60:∀ x ∈ xs,x.l.length≤1000000:=fun x hx =>by have:=(sx.1 x hx).2.1;omega
  have hly60:∀ x ∈ ys,x.l.length≤1000000:=fun x hx =>by have:=(sy.1 x hx).2.1;omega
  obtain ⟨v,hv⟩:∃ v,v=1+x0 % 3:=⟨_,rfl⟩
  obtain ⟨u,hu⟩:∃ u,u=1+x1 % 3:=⟨_,rfl⟩
  have hv3:1≤v∧v≤3:=by omega
  have hu3:1≤u∧u≤3:=by omega
  by_cases hmx:zAo (v:Int) xs
  ·refine zQB A A' n c n' c' x0 x1 x2 x3 v u hx0 hx1 hx2 hx3 hv hu xs ys w HG1 HG2 HFX (yh fun W hb =>?_) (yh fun w3 W m base p b hb hm hj =>?_) (yh fun w3 W m base p b hb hj =>zPg v n hv3 xs hlx hmx (fun x hx =>(hfx x hx).1) hlx60 hx30 (hl.below hb) hj) (yh fun hmy w3 W m base p b hb hj =>zPg u n' hu3 ys hly hmy (fun x hx =>(hfy x hx).1) hly60 hy30 (hl.below hb) hj) (yh hrx) (yh hry) (yh ⟨hlx,by omega⟩) (yh ⟨hly,by omega⟩)
   ·exact (zPw v hv3 A n c xs hmx hfx hx30 W (hl.below hb) (hrx W hb)).mono fun e w' ⟨h1,h2⟩ =>⟨h1,JS.imp h2 (fun σ hs =>zPz hs)⟩
   ·by_cases hmy:zAo (u:Int) ys
    ·have hk:(zAi u (u:Int) ys).length≤2000000:=by
      obtain ⟨_,_,f3,_⟩:=zCH hmy hy30
      unfold zAi
      rw [List.length_append,zBQ]
      omega
     refine (zQA (B':=zAi u (u:Int) ys) hj hm hk (u:Int) A' n' c' (.inl (yh fun W1 hb1 =>?_))).mono fun e w' ⟨z,h1,h2⟩ =>⟨z,h1,h2.imp (fun h =>⟨h.1,h.2,hmy⟩) id⟩
     refine (zNB u hu3 ys A' n' c' (by omega) hfy W1 (hl.below (hb.trans (hb1.mono hb.size))) (hry W1 (hb.trans (hb1.mono hb.size)))).mono ?_
     rintro e w' ⟨h1,hb2⟩
     refine ⟨?_,hb2⟩
     rcases h1 with ⟨_,q,rfl,ho⟩ | ⟨hno,_⟩
     ·obtain ⟨A1,c1,rfl,hA⟩:=zAJ ho
      exact ⟨A1,c1,rfl,hA,ho⟩
     ·exact absurd hmy hno
    ·refine (zPP p [108,111,103] [110,101,119] (u:Int) 1 (by omega) A' n' c' W (yh fun W1 hb1 =>?_)).mono fun e w' ⟨h1,h2⟩ =>⟨1,h1,.inr ⟨by omega,(hj.below h2).room (by omega)⟩⟩
     refine (zNB u hu3 ys A' n' c' (by omega) hfy W1 (hl.below (hb.trans (hb1.mono hb.size))) (hry W1 (hb.trans (hb1.mono hb.size)))).mono ?_
     rintro e w' ⟨h1,hb2⟩
     rcases h1 with ⟨hy,_⟩ | ⟨_,rfl⟩
     ·exact absurd hy hmy
     ·exact ⟨rfl,hb2⟩
  ·refine zQI A A' n c n' c' x0 x1 x2 x3 v u hx0 hx1 hv hu w HG1 HG2 HFX (yh fun W hb =>?_)
   refine zPv (v:Int) 1 (by omega) A n c W (yh fun W1 hb1 =>?_)
   refine (zNB v hv3 xs A n c (by omega) hfx W1 (hl.below (hb.trans (hb1.mono hb.size))) (hrx W1 (hb.trans (hb1.mono hb.size)))).mono ?_
   rintro e w' ⟨h1,hb2⟩
   rcases h1 with ⟨hy,_⟩ | ⟨_,rfl⟩
   ·exact absurd hy hmx
   ·exact ⟨rfl,hb2⟩
 ·exact zPr A A' n c n' c' x0 x1 x2 x3 (¬ zPF xs) (¬ zPF ys) (by by_cases hx:zPF xs;exact .inr (fun hy =>sm ⟨hx,hy⟩);exact .inl hx) w (yh hg1) (yh hg2) HFX
open Go.ChangeShapes Go.WideShapes Go.ChangeAt Go.RowKit
theorem zPk {P:Program} {w:World} {r:Reach} {base n:Nat} {t e:TypeId} {v:Value} (ht:P.underlying t=some (.array n e)) (h:Value.okWide P w r base t v):∃ cs,v=.agg cs∧cs.size=P.cellsOf t:=by
 unfold Value.okWide at h
 rw [ht] at h
 cases v <;> simp_all
theorem zPs {H:Type} {enc:TypeId×Value→H} {P:Program} {W:World} {t e:TypeId} {v:Value} {d:DataW H} {ps:List MemPlace} {r:Reach} {b0:Nat} (ht:P.underlying t=some (.array 4 e)) (he:P.underlying e=some (.int .u8)) (hc:P.cellsOf e=1) (hc2:P.cellsOf t=4)
  (hval:Value.okWide P W r b0 t v) (hd:DataW.Trod enc P W 0 (fun _ =>true) true t v d ps) :
  ∃ x0 x1 x2 x3:Nat,v=.agg #[.int .u8 (x0:Int),.int .u8 (x1:Int),.int .u8 (x2:Int),.int .u8 (x3:Int)]∧x0<256∧x1<256∧x2<256∧x3<256:=by
 obtain ⟨cs,rfl,hsz⟩:=zPk ht hval
 obtain ⟨fuel,hf⟩:=hd
 obtain ⟨xs,m,rfl,hx,hlen,hxl,hel⟩:=DataW.trod_array ht hf
 have hcell:∀ i,i<4→∃ x:Nat,x<256∧cs.toList[i]? = some (.int .u8 (x:Int)):=by
  intro i hi
  obtain ⟨y,hy⟩:∃ y,xs[i]? = some y:=⟨_,List.getElem?_eq_getElem (by omega)⟩
  have h2:=hel i hi
  rw [hy,hc,Nat.mul_one] at h2
  obtain ⟨z,e1,_,e3⟩:=DataW.trod_int he h2
  have h3:cs.toList[i]? = some (.int .u8 z):=by
   have:=congrArg (fun l:List Value =>l[0]?) e1
   simpa [List.getElem?_take,List.getElem?_drop,Value.cells] using this
  have hz:0≤z∧z≤255:=by simpa [Lit.wf,IntKind.min,IntKind.max,IntKind.signed,IntKind.bits] using e3
  refine ⟨z.toNat,by omega,?_⟩
  rw [h3]
  congr 2
  omega
 obtain ⟨x0,l0,g0⟩:=hcell 0 (by omega)
 obtain ⟨x1,l1,g1⟩:=hcell 1 (by omega)
 obtain ⟨x2,l2,g2⟩:=hcell 2 (by omega)
 obtain ⟨x3,l3,g3⟩:=hcell 3 (by omega)
 refine ⟨x0,x1,x2,x3,?_,l0,l1,l2,l3⟩
 congr 1
 apply Array.ext'
 have hl:cs.toList.length=4:=by rw [Array.length_toList,hsz,hc2]
 match h:cs.toList,hl with
 | [a,b,c,e],_ =>
  rw [h] at g0 g1 g2 g3
  simp at g0 g1 g2 g3
  simp [g0,g1,g2,g3]
end Go.Proofs.YtfbgmehicmpdiaaGreatDoor
