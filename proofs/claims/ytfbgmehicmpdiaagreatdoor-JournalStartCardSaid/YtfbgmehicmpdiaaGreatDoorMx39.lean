/- Texts of one proof. -/
import Derived.Test.YtfbgmehicmpdiaaGreatDoorMx26
import Derived.Test.YtfbgmehicmpdiaaGreatDoorMx38
set_option maxRecDepth 100000
set_option maxHeartbeats 8000000
namespace Go.Proofs.YtfbgmehicmpdiaaGreatDoor
open Go.RowKit
def fs0:FsSt:=⟨fun _ =>none,false,(false,0),(false,0)⟩
theorem zJy:zBa fs0:=⟨rfl,rfl,rfl⟩
theorem zLL {p b n0 k:Nat} (hp:n0≤p) (hb:n0≤b) (h:zAQ p b (fun _ =>none) k):n0≤k:=by
 rcases h with rfl | rfl | ⟨u,A,n,c,s,e,_⟩
 ·exact hp
 ·exact hb
 ·cases e
def rj0:Rw:=⟨⟨1,[97],0,7,0,[]⟩,none,0,0,[]⟩
theorem zNg:MayP 2 rj0.r rj0.l:=by
 refine ⟨by omega,by omega,by decide,.inl ⟨rfl,?_,?_,?_⟩⟩
 ·simp [zDG,rj0]
 ·simp [TagP,rj0]
 ·simp [zDF,rj0,zAh]
theorem zHa:Nums rj0.r rj0.l:=⟨by simp [rj0],by simp [rj0],by simp [rj0],fun d hd =>by cases hd⟩
theorem zHZ:Fits rj0.r rj0.l:=⟨by simp [rj0,maxLen],by simp [rj0,maxLen],fun d hd =>by cases hd⟩
theorem zGC:zAo ((2:Nat):Int) [rj0]:=fun x hx =>by
 obtain rfl:=List.mem_singleton.1 hx
 exact ⟨zNg,zHa⟩
theorem zMI (w:World):Recs (w.alloc (.cells #[.int .i64 1,.string ⟨#[97]⟩,.int .u64 0,.slice none 0 0,.int .u64 7,.int .u64 0,.string ⟨#[]⟩] 46)) (w.alloc (.cells #[.int .i64 1,.string ⟨#[97]⟩,.int .u64 0,.slice none 0 0,.int .u64 7,.int .u64 0,.string ⟨#[]⟩] 46)).heap.size (some ⟨w.heap.size,0,none⟩) 1 [rj0]:=by
 have h:=zAE w (.cells #[.int .i64 1,.string ⟨#[97]⟩,.int .u64 0,.slice none 0 0,.int .u64 7,.int .u64 0,.string ⟨#[]⟩] 46)
 refine ⟨⟨rfl,fun _ =>⟨_,rfl,by simp,fun j u hu =>?_⟩⟩,fun x hx =>?_⟩
 ·have e:(rws [rj0])[j]? = (#[.int .i64 1,.string ⟨#[97]⟩,.int .u64 0,.slice none 0 0,.int .u64 7,.int .u64 0,.string ⟨#[]⟩]:Array Value)[j]?:=by
   rw [← Array.getElem?_toList];rfl
  rw [e] at hu
  have h2:=zAA (i:=j) h hu
  have e2:(⟨w.heap.size,0,none⟩:Addr).add j=⟨w.heap.size,j,none⟩:=by simp [Addr.add];exact fun h =>h.symm
  rw [e2]
  exact h2
 ·obtain rfl:=List.mem_singleton.1 hx
  exact ⟨⟨rfl,fun h =>absurd h (by simp [rj0])⟩,fun _ =>rfl⟩
theorem zJH (w:World) (hl:Laid w):Calls Tryz.prog 7 #[] w fun e w' =>e=.returned (.bool true)∧Below w.heap.size w w':=by
 have hk:(zAi 2 ((2:Nat):Int) [rj0]).length≤2000000:=by
  obtain ⟨_,_,f3,_⟩:=zCH zGC (by simp)
  unfold zAi
  rw [List.length_append,zBQ]
  omega
 have HK:=yh hk
 have HL:=yh hl
 clear hk hl
 go_enter Tryz.func7,Tryz.ntmps7
 go_wp2_with fail
 refine (zMZ w.heap.size w).mono ?_
 rintro e w1 ⟨rfl,hbx,hfl,hb1⟩
 have hb12:=(Below.refl w1.heap.size w1).alloc (Nat.le_refl _) (.cells #[.int .i64 1,.string ⟨#[97]⟩,.int .u64 0,.slice none 0 0,.int .u64 7,.int .u64 0,.string ⟨#[]⟩] 46)
 have HREC:=yh (zMI w1)
 have HR1:=yh (zAE w1 (.cells #[.int .i64 1,.string ⟨#[97]⟩,.int .u64 0,.slice none 0 0,.int .u64 7,.int .u64 0,.string ⟨#[]⟩] 46))
 obtain ⟨w2,hw2⟩:∃ x,x=w1.alloc (.cells #[.int .i64 1,.string ⟨#[97]⟩,.int .u64 0,.slice none 0 0,.int .u64 7,.int .u64 0,.string ⟨#[]⟩] 46):=⟨_,rfl⟩
 rw [← hw2] at hb12 HREC
 have HB2:=yh (hb1.trans (hb12.mono hb1.size))
 have HFS:Hid (FsAt w2 w.heap.size (w.heap.size+1) w.heap.size 0 fs0 (fun _ =>none)):=FsAt.below (σ:=fs0) ⟨hbx,hfl⟩ hb12
 have HW2:=yh hw2
 clear hbx hfl hb1 hb12 hw2
 go_wp2_with fail
 rw [← HW2.out]
 refine (zJI (w.heap.size+1) w.heap.size 0 w.heap.size fs0 (fun _ =>none) (by omega) 2000000 (by omega) (SzS.nil _) zIJ zIJ [120] [121] (zAi 2 ((2:Nat):Int) [rj0]) (by decide) (by simp) (by simp) 2 (some ⟨w1.heap.size,0,none⟩) 1 1 _ rfl HK.out w2 HB2.out.size HFS.out (yh fun W hb =>?_)).mono ?_
 ·refine (zNB 2 (by omega) [rj0] (some ⟨w1.heap.size,0,none⟩) 1 1 (by omega) (fun x hx =>by obtain rfl:=List.mem_singleton.1 hx;exact ⟨zHZ,zHa,by simp [rj0]⟩) W (HL.out.below (HB2.out.trans (hb.mono HB2.out.size))) ((HREC.out.below hb).more hb.size)).mono ?_
  rintro e w' ⟨h1,hb1⟩
  refine ⟨?_,hb1⟩
  rcases h1 with ⟨_,u,rfl,ho⟩ | ⟨hno,_⟩
  ·obtain ⟨A1,c1,rfl,hA⟩:=zAJ ho
   exact ⟨A1,c1,rfl,hA,ho⟩
  ·exact absurd zGC hno
 rintro e w3 ⟨z,rfl,hy,hn⟩
 have hz:z=0:=by
  by_cases h0:z=0
  ·exact h0
  ·obtain ⟨_,_,_,_,_,_,_,h⟩:=hn h0
   exact absurd zJy h.loud
 subst hz
 obtain ⟨σ3,N3,F3,g1,g2,g3,g4,g5⟩:=hy rfl
 have hb23:Below w.heap.size w2 w3:=g3.below (fun k hk =>zLL (by omega) (Nat.le_refl _) hk) HB2.out.size
 have HB3:=yh (HB2.out.trans hb23)
 have HOP:=yh (zHs (w.heap.size+1) w.heap.size N3 w.heap.size σ3 F3 [120] (by unfold maxLen;simp) 2 1 (by omega) [rj0] rfl zGC (fun x hx =>by obtain rfl:=List.mem_singleton.1 hx;exact zHZ) (fun x hx =>by obtain rfl:=List.mem_singleton.1 hx;simp [rj0]) (by simp) _ g5.new w3 (HL.out.below HB3.out) g1)
 clear hy hn g1 g2 g3 g4 g5 hb23
 go_wp2_with fail
 refine HOP.out.mono ?_
 rintro e w4 ⟨⟨A3,E3,c3,d3,zs,rfl,hsay,_,hro⟩,hb4⟩
 obtain ⟨G,hG⟩:∃ G:Int,G=(eo ((2:Nat):Int) [rj0] 1:Int):=⟨_,rfl⟩
 obtain ⟨vI,hvI⟩:∃ vI:Int,vI=((2:Nat):Int):=⟨_,rfl⟩
 rw [← hG,← hvI]
 have hv2:(vI == 2)=true:=by rw [hvI];rfl
 have hzs:∃ zz:Rw,zs=[zz]∧zz.r=rj0.r:=by
  match zs,hsay with
  | [zz],h =>exact ⟨zz,rfl,congrArg (fun l:List (Rc×List Dp) =>(l.headD (rj0.r,[])).1) h⟩
  | [],h =>cases h
  | _ :: _ :: _,h =>simp at h
 obtain ⟨zz,rfl,hzr⟩:=hzs
 have hb45:=(Below.refl w4.heap.size w4).alloc (Nat.le_refl _) (.cells #[.int .i64 vI,.slice A3 1 c3,.slice E3 1 d3,.int .i64 G] 37)
 have hxf:=zAE w4 (.cells #[.int .i64 vI,.slice A3 1 c3,.slice E3 1 d3,.int .i64 G] 37)
 obtain ⟨hrr,_⟩:=(hro.below hb45).read
 obtain ⟨ad,rfl,hadb,c0,c1',c2,c3',c4,c5,c6⟩:=zFd hrr.1 0 zz rfl
 have hout:zz.r.out=7:=by rw [hzr];rfl
 have e0:ad.add (0 * 7)=ad:=by rw [Nat.zero_mul];unfold Addr.add;simp
 rw [hout,e0] at c4
 rw [e0] at c0 c1' c2 c3' c5 c6
 have q0:=zAA (i:=0) hxf rfl;have q1:=zAA (i:=1) hxf rfl
 have HB5:=yh ((HB3.out.trans (hb4.mono HB3.out.size)).trans (hb45.mono (HB3.out.trans (hb4.mono HB3.out.size)).size))
 clear hsay hro hb4 hb45 hxf hrr c0 c1' c2 c3' c5 c6 e0 hG hvI hzr hout hadb
 go_wp2
 go_ret
 exact ⟨rfl,HB5.out⟩
theorem zHr (s:List UInt8) (ver:Int) (r:Rc) (A:Option Addr) (n c:Nat) (w:World) :
  Calls Tryz.prog 17 #[.pointer none,.string (tx s),.agg #[.int .i64 ver,.slice none 0 0,.slice none 0 0,.int .i64 0],.agg #[.int .i64 r.kind,.string (tx r.target),.int .u64 r.rule,.slice A n c,.int .u64 r.out,.int .u64 r.time,.string (tx r.tag)]] w fun e w' =>e=.returned (.tuple #[.agg #[.int .i64 0,.slice none 0 0,.slice none 0 0,.int .i64 0],.int .i64 1])∧Below w.heap.size w w':=by
 have HB1:Below w.heap.size w (w.alloc (.cells #[.int .i64 ver,.slice none 0 0,.slice none 0 0,.int .i64 0] 37)):=(Below.refl _ _).alloc (Nat.le_refl _) _
 have HB2:Below w.heap.size w ((w.alloc (.cells #[.int .i64 ver,.slice none 0 0,.slice none 0 0,.int .i64 0] 37)).alloc (.cells #[.int .i64 r.kind,.string (tx r.target),.int .u64 r.rule,.slice A n c,.int .u64 r.out,.int .u64 r.time,.string (tx r.tag)] 46)):=HB1.alloc HB1.size _
 have HB3:Hid (Below w.heap.size w (((w.alloc (.cells #[.int .i64 ver,.slice none 0 0,.slice none 0 0,.int .i64 0] 37)).alloc (.cells #[.int .i64 r.kind,.string (tx r.target),.int .u64 r.rule,.slice A n c,.int .u64 r.out,.int .u64 r.time,.string (tx r.tag)] 46)).alloc (.cells #[.int .i64 0,.slice none 0 0,.slice none 0 0,.int .i64 0] 37))):=HB2.alloc HB2.size _
 have z2:((w.alloc (.cells #[.int .i64 ver,.slice none 0 0,.slice none 0 0,.int .i64 0] 37)).alloc (.cells #[.int .i64 r.kind,.string (tx r.target),.int .u64 r.rule,.slice A n c,.int .u64 r.out,.int .u64 r.time,.string (tx r.tag)] 46)).heap.size=w.heap.size+2:=by simp
 have hx:=zAE ((w.alloc (.cells #[.int .i64 ver,.slice none 0 0,.slice none 0 0,.int .i64 0] 37)).alloc (.cells #[.int .i64 r.kind,.string (tx r.target),.int .u64 r.rule,.slice A n c,.int .u64 r.out,.int .u64 r.time,.string (tx r.tag)] 46)) (.cells #[.int .i64 0,.slice none 0 0,.slice none 0 0,.int .i64 0] 37)
 rw [z2] at hx
 have HX:=yh hx
 clear HB1 HB2 z2 hx
 go_enter Tryz.func17,Tryz.ntmps17
 go_wp2
 refine bodyPost_ret (zBx Tryz.results17 _ _ (w.heap.size+2) _ _ (0,0) _ rfl HX.out Tryz.underlying37 rfl (by kernel_rfl)) rfl ?_
 exact ⟨rfl,HB3.out⟩
theorem zLm (ver:Int) (r:Rc) (A:Option Addr) (n c:Nat) (l:List Dp) (hn:n≤maxLen) (hfit:Fits r l) (w:World) (hl:Laid w) (hr:zAD w w.heap.size 3 A n (dps l)) :
  Calls Tryz.prog 5 #[.int .i64 ver,.agg #[.int .i64 r.kind,.string (tx r.target),.int .u64 r.rule,.slice A n c,.int .u64 r.out,.int .u64 r.time,.string (tx r.tag)]] w fun e w' =>e=.returned (.bool true)∧Below w.heap.size w w':=by
 have HFX:Hid (∀ W,Below w.heap.size w W→Calls Tryz.prog 7 #[] W fun e w' =>e=.returned (.bool true)∧Below W.heap.size W w'):=fun W hb =>zJH W (hl.below hb)
 have hb1:=(Below.refl w.heap.size w).alloc (Nat.le_refl _) (.cells #[.int .i64 r.kind,.string (tx r.target),.int .u64 r.rule,.slice A n c,.int .u64 r.out,.int .u64 r.time,.string (tx r.tag)] 46)
 have hx1:=zAE w (.cells #[.int .i64 r.kind,.string (tx r.target),.int .u64 r.rule,.slice A n c,.int .u64 r.out,.int .u64 r.time,.string (tx r.tag)] 46)
 have HG:=yh (zJF r A n c l (w.alloc (.cells #[.int .i64 r.kind,.string (tx r.target),.int .u64 r.rule,.slice A n c,.int .u64 r.out,.int .u64 r.time,.string (tx r.tag)] 46)) hn hfit.2.2 hfit.1 hfit.2.1 ((hr.below hb1).more hb1.size))
 have p0:=zAA (i:=0) hx1 rfl;have p1:=zAA (i:=1) hx1 rfl;have p2:=zAA (i:=2) hx1 rfl;have p3:=zAA (i:=3) hx1 rfl;have p4:=zAA (i:=4) hx1 rfl;have p5:=zAA (i:=5) hx1 rfl;have p6:=zAA (i:=6) hx1 rfl
 have HB1:=yh hb1
 have HX1:=yh hx1
 clear hl hr hfit hn hb1 hx1
 go_enter Tryz.func5,Tryz.ntmps5
 go_wp2_with fail
 refine HG.out.mono ?_
 rintro e w2 ⟨he,hb2⟩
 have hx2:=(hb2.block w.heap.size (Array.getElem?_eq_some_iff.1 HX1.out).1).trans HX1.out
 have HX2:=yh hx2
 have HB2:=yh (HB1.out.trans (hb2.mono HB1.out.size))
 clear p0 p1 p2 p3 p4 p5 p6 hb2
 by_cases sm:small r l
 ·obtain rfl:=he.no (fun h =>h sm)
  clear he sm
  have hb34:∀ w3,Below w2.heap.size w2 w3→Below w2.heap.size w2 (w3.alloc (.cells #[.int .i64 0,.slice none 0 0,.slice none 0 0,.int .i64 0] 37)):=fun w3 h =>h.alloc h.size _
  go_wp2_with fail
  refine (zKH [108,111,103] w2).mono ?_
  rintro e w3 ⟨rfl,hb3⟩
  have hb4:=hb34 w3 hb3
  have hz4:=zAE w3 (.cells #[.int .i64 0,.slice none 0 0,.slice none 0 0,.int .i64 0] 37)
  have hx4:=(hb4.block w.heap.size (Array.getElem?_eq_some_iff.1 HX2.out).1).trans HX2.out
  have p0:=zAA (i:=0) hx4 rfl;have p1:=zAA (i:=1) hx4 rfl;have p2:=zAA (i:=2) hx4 rfl;have p3:=zAA (i:=3) hx4 rfl;have p4:=zAA (i:=4) hx4 rfl;have p5:=zAA (i:=5) hx4 rfl;have p6:=zAA (i:=6) hx4 rfl
  have HB4:=yh (HB2.out.trans (hb4.mono HB2.out.size))
  have HZ4:=yh hz4
  have HX4:=yh hx4
  clear hb3 hb4 hz4 hx4 hx2 hb34
  go_wp2_with fail
  refine (zHr [108,111,103] ver r A n c _).mono ?_
  rintro e w5 ⟨rfl,hb5⟩
  clear p0 p1 p2 p3 p4 p5 p6
  have hb6:Below (w3.alloc (.cells #[.int .i64 0,.slice none 0 0,.slice none 0 0,.int .i64 0] 37)).heap.size (w3.alloc (.cells #[.int .i64 0,.slice none 0 0,.slice none 0 0,.int .i64 0] 37)) (w5.alloc (.cells #[.int .i64 0,.slice none 0 0,.slice none 0 0,.int .i64 0] 37)):=hb5.alloc hb5.size _
  have hy6:=zAE w5 (.cells #[.int .i64 0,.slice none 0 0,.slice none 0 0,.int .i64 0] 37)
  have hz6:=(hb6.block _ (Array.getElem?_eq_some_iff.1 HZ4.out).1).trans HZ4.out
  have hx6:=(hb6.block w.heap.size (Array.getElem?_eq_some_iff.1 HX4.out).1).trans HX4.out
  have p0:=zAA (i:=0) hx6 rfl;have p1:=zAA (i:=1) hx6 rfl;have p2:=zAA (i:=2) hx6 rfl;have p3:=zAA (i:=3) hx6 rfl;have p4:=zAA (i:=4) hx6 rfl;have p5:=zAA (i:=5) hx6 rfl;have p6:=zAA (i:=6) hx6 rfl
  have HB6:=yh (HB4.out.trans (hb6.mono HB4.out.size))
  have HZ6:=yh hz6
  have HY6:=yh hy6
  clear hb5 hb6 hy6 hz6 hx6
  go_wp2_with fail
  have hb7:=(Below.refl (w5.alloc (.cells #[.int .i64 0,.slice none 0 0,.slice none 0 0,.int .i64 0] 37)).heap.size (w5.alloc (.cells #[.int .i64 0,.slice none 0 0,.slice none 0 0,.int .i64 0] 37))).alloc (Nat.le_refl _) (.cells #[.int .i64 r.kind,.string (tx r.target),.int .u64 r.rule,.slice A n c,.int .u64 r.out,.int .u64 r.time,.string (tx r.tag)] 46)
  refine (zJJ [108,111,103] [110,101,119] ver _ 1 1 _).mono ?_
  rintro e w8 ⟨rfl,hb8⟩
  clear p0 p1 p2 p3 p4 p5 p6
  have hb68:=hb7.trans (hb8.mono hb7.size)
  have HB8:=yh (HB6.out.trans (hb68.mono HB6.out.size))
  have HZ8:=yh ((hb68.block _ (Array.getElem?_eq_some_iff.1 HZ6.out).1).trans HZ6.out)
  have HY8:=yh ((hb68.block _ (Array.getElem?_eq_some_iff.1 HY6.out).1).trans HY6.out)
  clear hb7 hb8 hb68
  go_wp2_with fail
  refine (HFX.out _ HB8.out).mono ?_
  rintro e w9 ⟨rfl,hb9⟩
  have u1:=zAA (i:=1) ((hb9.block _ (Array.getElem?_eq_some_iff.1 HZ8.out).1).trans HZ8.out) rfl
  have v1:=zAA (i:=1) ((hb9.block _ (Array.getElem?_eq_some_iff.1 HY8.out).1).trans HY8.out) rfl
  have HB9:=yh (HB8.out.trans (hb9.mono HB8.out.size))
  clear hb9
  go_wp2
  go_ret
  exact ⟨rfl,HB9.out⟩
 ·obtain rfl:=he.yes sm
  clear he sm hx2
  go_wp2_with fail
  refine (HFX.out _ HB2.out).mono ?_
  rintro e w3 ⟨rfl,hb3⟩
  go_wp2
  go_ret
  exact ⟨rfl,HB2.out.trans (hb3.mono HB2.out.size)⟩
def JS (w:World) (base p b:Nat) (P:FsSt→Prop) (m:Nat) (W:World):Prop :=
 ∃ (σ:FsSt) (N:Nat) (F:List UInt8→Option Value),FsAt W base p b N σ F∧N≤m∧(∀ k,zAQ p b F k→base≤k)∧base≤W.heap.size∧Below base w W∧P σ
theorem zPJ {w W w':World} {base p b m N':Nat} {P:FsSt→Prop} {σ':FsSt} {F F':List UInt8→Option Value} (h1:∀ k,zAQ p b F k→base≤k) (h2:base≤W.heap.size) (h3:Below base w W)
  (g1:FsAt w' base p b N' σ' F') (g2:N'≤m) (g3:Turn (zAQ p b F) W w') (g4:∀ k,zAQ p b F' k→zAQ p b F k∨W.heap.size≤k) (hP:P σ'):JS w base p b P m w' :=
 ⟨σ',N',F',g1,g2,fun k hk =>by rcases g4 k hk with h | h;exact h1 k h;omega,Nat.le_trans h2 g3.2.2.2.1,h3.trans (g3.below h1 h2),hP⟩
theorem JS.below {w W w':World} {base p b m:Nat} {P:FsSt→Prop} (h:JS w base p b P m W) (hb:Below W.heap.size W w'):JS w base p b P m w':=by
 obtain ⟨σ,N,F,h1,h2,h3,h4,h5,h6⟩:=h
 exact ⟨σ,N,F,h1.below hb,h2,h3,Nat.le_trans h4 hb.size,h5.trans (hb.mono h4),h6⟩
theorem JS.under {w W:World} {base p b m:Nat} {P:FsSt→Prop} (h:JS w base p b P m W):Below base w W∧base≤W.heap.size:=by
 obtain ⟨σ,N,F,h1,h2,h3,h4,h5,h6⟩:=h
 exact ⟨h5,h4⟩
theorem JS.imp {w W:World} {base p b m:Nat} {P Q:FsSt→Prop} (h:JS w base p b P m W) (hi:∀ σ,P σ→Q σ):JS w base p b Q m W:=by
 obtain ⟨σ,N,F,h1,h2,h3,h4,h5,h6⟩:=h
 exact ⟨σ,N,F,h1,h2,h3,h4,h5,hi σ h6⟩
theorem JS.room {w W:World} {base p b m m':Nat} {P:FsSt→Prop} (h:JS w base p b P m W) (hm:m≤m'):JS w base p b P m' W:=by
 obtain ⟨σ,N,F,h1,h2,h3,h4,h5,h6⟩:=h
 exact ⟨σ,N,F,h1,by omega,h3,h4,h5,h6⟩
theorem zPw (v:Nat) (hv:1≤v∧v≤3) (A:Option Addr) (n c:Nat) (xs:List Rw) (hm:zAo (v:Int) xs) (hf2:∀ x ∈ xs,Fits x.r x.l∧Nums x.r x.l∧x.n≤1000) (h30:xs.length≤30) (w:World) (hl:Laid w) (hr:Recs w w.heap.size A n xs) :
  Calls Tryz.prog 8 #[.int .i64 (v:Int),.slice A n c] w fun e w' =>e=.returned (.tuple #[.pointer (some ⟨w.heap.size+1,0,none⟩),.bool true])∧JS w w.heap.size (w.heap.size+1) w.heap.size (StY [108,111,103] [110,101,119] (zAi v (v:Int) xs) 2000000 fs0) 8 w':=by
 have hk:(zAi v (v:Int) xs).length≤2000000:=by
  obtain ⟨_,_,f3,_⟩:=zCH hm h30
  unfold zAi
  rw [List.length_append,zBQ]
  omega
 have hn:xs.length=n:=hr.len
 have HP:Hid (∀ W,Below w.heap.size w W→Calls Tryz.prog 25 #[.int .i64 (v:Int),.slice A n c] W fun e w' =>(∃ A1 c1,e=.returned (.tuple #[.slice A1 (zAi v (v:Int) xs).length c1,.int .i64 0])∧(A1=none→c1=0)∧w'.ownsRow W.heap.size 5 1 (.slice A1 (zAi v (v:Int) xs).length c1) (zAi v (v:Int) xs).length ((zAi v (v:Int) xs).map bv))∧Below W.heap.size W w'):=fun W hb =>by
  refine (zNB v hv xs A n c (by omega) hf2 W (hl.below hb) ((hr.below hb).more hb.size)).mono ?_
  rintro e w' ⟨h1,hb1⟩
  refine ⟨?_,hb1⟩
  rcases h1 with ⟨_,u,rfl,ho⟩ | ⟨hno,_⟩
  ·obtain ⟨A1,c1,rfl,hA⟩:=zAJ ho
   exact ⟨A1,c1,rfl,hA,ho⟩
  ·exact absurd hm hno
 have HK:=yh hk
 clear hk hn hl hr hm hf2 h30
 go_enter Tryz.func8,Tryz.ntmps8
 go_wp2_with fail
 refine (zMZ w.heap.size w).mono ?_
 rintro e w1 ⟨rfl,hbx,hfl,hb1⟩
 have HB1:=yh hb1
 have HFS:Hid (FsAt w1 w.heap.size (w.heap.size+1) w.heap.size 0 fs0 (fun _ =>none)):=⟨hbx,hfl⟩
 clear hbx hfl hb1
 go_wp2_with fail
 refine (zJI (w.heap.size+1) w.heap.size 0 w.heap.size fs0 (fun _ =>none) (by omega) 2000000 (by omega) (SzS.nil _) zIJ zIJ [108,111,103] [110,101,119] (zAi v (v:Int) xs) (by decide) (by simp) (by simp) (v:Int) A n c _ rfl HK.out w1 HB1.out.size HFS.out (yh fun W hb =>HP.out W (HB1.out.trans (hb.mono HB1.out.size)))).mono ?_
 rintro e w3 ⟨z,rfl,hy,hn⟩
 have hz:z=0:=by
  by_cases h0:z=0
  ·exact h0
  ·obtain ⟨_,_,_,_,_,_,_,h⟩:=hn h0
   exact absurd zJy h.loud
 subst hz
 obtain ⟨σ3,N3,F3,g1,g2,g3,g4,g5⟩:=hy rfl
 have HJ:Hid (JS w w.heap.size (w.heap.size+1) w.heap.size (StY [108,111,103] [110,101,119] (zAi v (v:Int) xs) 2000000 fs0) 8 w3) :=
  zPJ (F:=fun _ =>none) (fun k hk =>zLL (by omega) (Nat.le_refl _) hk) HB1.out.size HB1.out g1 (by omega) g3 g4 g5
 clear hy hn g1 g2 g3 g4 g5
 go_wp2
 go_ret2
 exact ⟨rfl,HJ.out⟩
theorem zPP (p:Nat) (nm sd:List UInt8) (ver:Int) (en:Int) (hen:en≠0) (A:Option Addr) (n c:Nat) (w:World)
  (HP:Hid (∀ W,Below w.heap.size w W→Calls Tryz.prog 25 #[.int .i64 ver,.slice A n c] W fun e w' =>e=.returned (.tuple #[.slice none 0 0,.int .i64 en])∧Below W.heap.size W w')) :
  Calls Tryz.prog 12 #[.pointer (some ⟨p,0,none⟩),.string (tx nm),.string (tx sd),.int .i64 ver,.slice A n c] w fun e w' =>e=.returned (.int .i64 en)∧Below w.heap.size w w':=by
 have HB1:Below w.heap.size w (w.alloc (.cells #[.pointer (some ⟨p,0,none⟩)] 26)):=(Below.refl _ _).alloc (Nat.le_refl _) _
 have HB2:Below w.heap.size w ((w.alloc (.cells #[.pointer (some ⟨p,0,none⟩)] 26)).alloc (.cells #[.string (tx nm)] 9)):=HB1.alloc HB1.size _
 have HB3:Hid (Below w.heap.size w (((w.alloc (.cells #[.pointer (some ⟨p,0,none⟩)] 26)).alloc (.cells #[.string (tx nm)] 9)).alloc (.cells #[.string (tx sd)] 9))):=HB2.alloc HB2.size _
 have z1:(w.alloc (.cells #[.pointer (some ⟨p,0,none⟩)] 26)).heap.size=w.heap.size+1:=by simp
 have z2:((w.alloc (.cells #[.pointer (some ⟨p,0,none⟩)] 26)).alloc (.cells #[.string (tx nm)] 9)).heap.size=w.heap.size+2:=by simp
 have e1:=(Below.heap_alloc ((w.alloc (.cells #[.pointer (some ⟨p,0,none⟩)] 26)).alloc (.cells #[.string (tx nm)] 9)) (.cells #[.string (tx sd)] 9) w.heap.size (by rw [z2];omega)).trans ((Below.heap_alloc (w.alloc (.cells #[.pointer (some ⟨p,0,none⟩)] 26)) (.cells #[.string (tx nm)] 9) w.heap.size (by rw [z1];omega)).trans (zAE w (.cells #[.pointer (some ⟨p,0,none⟩)] 26)))
 have q1:=zAA (i:=0) e1 rfl
 have hen2:(en == 0)=false:=by simpa using hen
 clear HB1 HB2 z1 z2 e1
 go_enter Tryz.func12,Tryz.ntmps12
 go_wp2_with fail
 refine (HP.out _ HB3.out).mono ?_
 rintro e w4 ⟨rfl,hb4⟩
 have HB4:=yh (HB3.out.trans (hb4.mono HB3.out.size))
 clear hb4
 go_wp2
 go_ret
 exact ⟨rfl,by first | exact HB4.out | exact HB4.out.alloc HB4.out.size _⟩
theorem zPv (ver:Int) (en:Int) (hen:en≠0) (A:Option Addr) (n c:Nat) (w:World)
  (HP:Hid (∀ W,Below w.heap.size w W→Calls Tryz.prog 25 #[.int .i64 ver,.slice A n c] W fun e w' =>e=.returned (.tuple #[.slice none 0 0,.int .i64 en])∧Below W.heap.size W w')) :
  Calls Tryz.prog 8 #[.int .i64 ver,.slice A n c] w fun e w' =>e=.returned (.tuple #[.pointer (some ⟨w.heap.size+1,0,none⟩),.bool false])∧Below w.heap.size w w':=by
 have hen2:(en == 0)=false:=by simpa using hen
 have HEN:=yh hen
 clear hen
 go_enter Tryz.func8,Tryz.ntmps8
 go_wp2_with fail
 refine (zMZ w.heap.size w).mono ?_
 rintro e w1 ⟨rfl,_,_,hb1⟩
 have HB1:=yh hb1
 clear hb1
 go_wp2_with fail
 refine (zPP (w.heap.size+1) [108,111,103] [110,101,119] ver en HEN.out A n c w1 (yh fun W hb =>HP.out W (HB1.out.trans (hb.mono HB1.out.size)))).mono ?_
 rintro e w3 ⟨rfl,hb3⟩
 have HB3:=yh (HB1.out.trans (hb3.mono HB1.out.size))
 clear hb3
 go_wp2
 go_ret2
 exact ⟨rfl,HB3.out⟩
structure Jr (B:List UInt8) (σ:FsSt):Prop where
 log:σ.fl [108,111,103]=some ⟨B,B.length⟩
 hf:zAK σ.f
 hg:zAK σ.g
 sz:SzS 2000000 σ
def Jr0 (B:List UInt8) (σ:FsSt):Prop:=Jr B σ∧σ.fl [110,101,119]=none
theorem zPz {B:List UInt8} {σ0 σ:FsSt} (h:StY [108,111,103] [110,101,119] B 2000000 σ0 σ):Jr0 B σ:=⟨⟨h.new,h.hf,h.hg,h.sz⟩,h.gone⟩
section
variable {w W:World} {base p b m:Nat}
theorem zPp {B:List UInt8} (body:List UInt8) (hbd:body.length≤2000000) (h:JS w base p b (Jr0 B) m W) (hm:m≤1000) (A:Option Addr) (k c:Nat) (hA:A=none→c=0) (w1:World) (hb:Below W.heap.size W w1) (hr:zAD w1 w1.heap.size 1 A k (body.map bv)) :
  Calls Tryz.prog 9 #[.pointer (some ⟨p,0,none⟩),.string (tx [110,101,119]),.slice A k c] w1 fun e w' =>∃ e0:Int,e=.returned (.int .i64 e0)∧JS w base p b (Jr B) (m+2) w':=by
 obtain ⟨σ,N,F,h1,h2,h3,h4,h5,⟨hj,hn⟩⟩:=h.below hb
 have hbl:body.length=k:=by have:=hr.1;simpa using this
 refine (zMw p b N base σ F (by omega) (hj.sz.small (by omega)) hj.hf hj.hg w1 h4 h1 [110,101,119] (by unfold maxLen;simp) w1.heap.size (Nat.le_refl _) A k c body hA (by omega) hr).mono ?_
 rintro e w' ⟨e0,rfl,σ',N',F',a1,a2,a3,a4,a5⟩
 refine ⟨e0,rfl,zPJ h3 h4 h5 a1 (by omega) a3 a4 ?_⟩
 have hx:∀ σ2:FsSt,(σ2.fl=σ.fl∨σ2.fl=zAb σ.fl [110,101,119] (some ⟨body,0⟩))→zAK σ2.f→zAK σ2.g→Jr B σ2:=by
  intro σ2 he hf hg
  rcases he with he | he
  ·exact ⟨by rw [he];exact hj.log,hf,hg,fun u y hu =>hj.sz u y (by rw [← he];exact hu)⟩
  ·exact ⟨by rw [he,zBr (by decide)];exact hj.log,hf,hg,zDY hj.sz he (fun y h =>by obtain rfl:=Option.some.inj h;exact ⟨hbd,Nat.zero_le _,by simp⟩)⟩
 have hnw:zBz σ ⟨0,[110,101,119],[],body,0,[]⟩=zAb σ.fl [110,101,119] (some ⟨body,0⟩):=by simp [zBz,zAc,hn]
 rcases zEd hj.hf hj.hg a5 with ⟨_,_,c1,_,c2,c3⟩ | ⟨_,_,c1,c2,c3⟩
 ·exact hx _ (.inr (by rw [c1,hnw])) (by rw [c2];exact zBM hj.hf) (by rw [c3];exact zBM hj.hg)
 ·rcases c1 with c1 | ⟨_,_,c1⟩
  ·exact hx _ (.inl c1) c2 c3
  ·exact hx _ (.inr (by rw [c1,hnw])) c2 c3
theorem zPe {B:List UInt8} (h:JS w base p b (Jr B) m W) (n:Int) (hn:n≤9223372036854775807) :
  Calls Tryz.prog 10 #[.pointer (some ⟨p,0,none⟩),.int .i64 n] W fun e w' =>e=.returned (.tuple #[])∧JS w base p b (Jr B) m w':=by
 obtain ⟨σ,N,F,h1,h2,h3,h4,h5,hj⟩:=h
 refine (zPu p b σ.down σ.f σ.g n W h1.1).mono ?_
 rintro e w' ⟨rfl,hx,ht⟩
 have ht2:Turn (zAQ p b F) W w':=⟨ht.1,ht.2.1,ht.2.2.1,ht.2.2.2.1,fun k hk hs =>ht.2.2.2.2 k hk (fun e =>hs (.inl e))⟩
 exact ⟨rfl,zPJ (σ':=⟨σ.fl,σ.down,zPH n,σ.g⟩) h3 h4 h5 ⟨hx,zPQ h1.2 h1.1 ht⟩ h2 ht2 (fun k hk =>.inl hk) ⟨hj.log,zPZ hn,hj.hg,hj.sz⟩⟩
theorem zPf {B:List UInt8} (h:JS w base p b (Jr B) m W) (n:Int) (hn:n≤9223372036854775807) :
  Calls Tryz.prog 11 #[.pointer (some ⟨p,0,none⟩),.int .i64 n] W fun e w' =>e=.returned (.tuple #[])∧JS w base p b (Jr B) m w':=by
 obtain ⟨σ,N,F,h1,h2,h3,h4,h5,hj⟩:=h
 refine (zPy p b σ.down σ.f σ.g n W h1.1).mono ?_
 rintro e w' ⟨rfl,hx,ht⟩
 have ht2:Turn (zAQ p b F) W w':=⟨ht.1,ht.2.1,ht.2.2.1,ht.2.2.2.1,fun k hk hs =>ht.2.2.2.2 k hk (fun e =>hs (.inl e))⟩
 exact ⟨rfl,zPJ (σ':=⟨σ.fl,σ.down,σ.f,zPH n⟩) h3 h4 h5 ⟨hx,zPQ h1.2 h1.1 ht⟩ h2 ht2 (fun k hk =>.inl hk) ⟨hj.log,hj.hf,zPZ hn,hj.sz⟩⟩
theorem zQA {B B':List UInt8} (h:JS w base p b (Jr B) m W) (hm:m≤1000) (hB:B'.length≤2000000) (ver:Int) (A:Option Addr) (n c:Nat)
  (HP:(Hid (∀ W1,Below W.heap.size W W1→Calls Tryz.prog 25 #[.int .i64 ver,.slice A n c] W1 fun e w' =>(∃ A1 c1,e=.returned (.tuple #[.slice A1 B'.length c1,.int .i64 0])∧(A1=none→c1=0)∧w'.ownsRow W1.heap.size 5 1 (.slice A1 B'.length c1) B'.length (B'.map bv))∧Below W1.heap.size W1 w')) ∨
   ∃ en:Int,en≠0∧Hid (∀ W1,Below W.heap.size W W1→Calls Tryz.prog 25 #[.int .i64 ver,.slice A n c] W1 fun e w' =>e=.returned (.tuple #[.slice none 0 0,.int .i64 en])∧Below W1.heap.size W1 w')) :
  Calls Tryz.prog 12 #[.pointer (some ⟨p,0,none⟩),.string (tx [108,111,103]),.string (tx [110,101,119]),.int .i64 ver,.slice A n c] W fun e w' =>∃ z:Int,e=.returned (.int .i64 z)∧((z=0∧JS w base p b (Jr B') (m+8) w')∨(z≠0∧JS w base p b (Jr B) (m+8) w')):=by
 obtain ⟨σ,N,F,h1,h2,h3,h4,h5,hj⟩:=h
 rcases HP with HP | ⟨en,hen,HP⟩
 ·refine (zJI p b N base σ F (by omega) 2000000 (by omega) hj.sz hj.hf hj.hg [108,111,103] [110,101,119] B' (by decide) (by simp) (by simp) ver A n c _ rfl hB W h4 h1 HP).mono ?_
  rintro e w' ⟨z,rfl,hy,hn⟩
  refine ⟨z,rfl,?_⟩
  by_cases h0:z=0
  ·obtain ⟨σ',N',F',g1,g2,g3,g4,g5⟩:=hy h0
   exact .inl ⟨h0,zPJ h3 h4 h5 g1 (by omega) g3 g4 ⟨g5.new,g5.hf,g5.hg,g5.sz⟩⟩
  ·obtain ⟨σ',N',F',g1,g2,g3,g4,g5⟩:=hn h0
   exact .inr ⟨h0,zPJ h3 h4 h5 g1 (by omega) g3 g4 ⟨by rw [g5.other _ (by decide)];exact hj.log,g5.hf,g5.hg,g5.sz⟩⟩
 ·refine (zPP p [108,111,103] [110,101,119] ver en hen A n c W HP).mono ?_
  rintro e w' ⟨rfl,hb⟩
  exact ⟨en,rfl,.inr ⟨hen,(JS.below (P:=Jr B) ⟨σ,N,F,h1,h2,h3,h4,h5,hj⟩ hb).room (by omega)⟩⟩
theorem zPG {B:List UInt8} (h:JS w base p b (Jr B) m W) (hm:m≤1000) (x y:Int) :
  Calls Tryz.prog 13 #[.pointer (some ⟨p,0,none⟩),.slice (some ⟨W.heap.size,0,none⟩) 2 2] (W.alloc (.cells #[.int .i64 x,.int .i64 y] 3)) fun e w' =>e=.returned (.tuple #[])∧JS w base p b (Jr B) (2 * m) w':=by
 have hb:=(Below.refl W.heap.size W).alloc (Nat.le_refl _) (.cells #[.int .i64 x,.int .i64 y] 3)
 have hnew:=zAE W (.cells #[.int .i64 x,.int .i64 y] 3)
 obtain ⟨σ,N,F,h1,h2,h3,h4,h5,hj⟩:=h
 have hlt:=zOC h1.2 h1.1
 have h1':=h1.below hb
 have hsz:(W.alloc (.cells #[.int .i64 x,.int .i64 y] 3)).heap.size=W.heap.size+1:=by simp
 refine (zPn p b N base σ.down σ.f σ.g σ.fl F (some ⟨W.heap.size,0,none⟩) 2 2 [x,y] (by omega) (fun u z hu =>⟨Nat.le_trans (hj.sz u z hu).1 (by omega),(hj.sz u z hu).2.1,Nat.le_trans (hj.sz u z hu).2.2 (by unfold maxLen;omega)⟩) (by omega) (by unfold maxLen;omega) (fun e =>by cases e) _ (Nat.le_trans h4 hb.size) h1'.1 h1'.2 (fun _ ad e hs =>by
  have e2:=Option.some.inj e
  have:=hlt _ hs
  rw [← e2] at this
  exact absurd this (by simp)) ⟨rfl,fun _ =>⟨_,rfl,by show W.heap.size<_;omega,fun j u hu =>?_⟩⟩).mono ?_
 ·have e2:(⟨W.heap.size,0,none⟩:Addr).add j=⟨W.heap.size,j,none⟩:=by simp [Addr.add];exact fun h =>h.symm
  rw [e2]
  refine zAA hnew ?_
  rw [← Array.getElem?_toList]
  exact hu
 ·rintro e w' ⟨rfl,F',ns,hns,hnl,hf',hx',ht,hsub⟩
  have hst:JS w base p b (Jr B) (2 * m) w':=by
   refine zPJ (σ':=⟨(crN ns (σ.fl,[x,y])).1,false,(false,0),(false,0)⟩) h3 (Nat.le_trans h4 hb.size) (h5.trans (hb.mono h4)) ⟨hx',hf'⟩ (by omega) ht hsub ?_
   exact ⟨zPj hj.sz hns hj.log,zIJ,zIJ,zPx hj.sz hns⟩
  exact ⟨rfl,hst⟩
theorem zPg (v n:Nat) (hv:1≤v∧v≤3) (xs:List Rw) (hnx:xs.length=n) (hm:zAo (v:Int) xs) (hf:∀ x ∈ xs,Fits x.r x.l) (hl60:∀ x ∈ xs,x.l.length≤1000000) (h30:xs.length≤30) (hl:Laid W) (h:JS w base p b (Jr (zAi v (v:Int) xs)) m W) :
  Calls Tryz.prog 14 #[.pointer (some ⟨p,0,none⟩),.string (tx [108,111,103])] W (zDR v xs n W):=by
 obtain ⟨σ,N,F,h1,h2,h3,h4,h5,hj⟩:=h
 exact zHs p b N base σ F [108,111,103] (by unfold maxLen;simp) v n hv xs hnx hm hf hl60 h30 _ hj.log W hl h1
end
end Go.Proofs.YtfbgmehicmpdiaaGreatDoor
