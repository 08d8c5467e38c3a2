/- Texts of one proof. -/
import Derived.Test.YtfbgmehicmpdiaaGreatDoorMx29
import Derived.Test.YtfbgmehicmpdiaaGreatDoorMx42
set_option maxRecDepth 100000
set_option maxHeartbeats 8000000
namespace Go.Proofs.YtfbgmehicmpdiaaGreatDoor
open Go.RowKit
def fs0:FsSt:=⟨fun _ =>none,false,(false,0),(false,0)⟩
theorem zFL:zBg fs0:=⟨rfl,rfl,rfl⟩
theorem zIK {p b n0 k:Nat} (hp:n0≤p) (hb:n0≤b) (h:zAS p b (fun _ =>none) k):n0≤k:=by
 rcases h with rfl | rfl | ⟨u,A,n,c,s,e,_⟩
 ·exact hp
 ·exact hb
 ·cases e
def rj0:Rw:=⟨⟨1,[97],0,7,0,[]⟩,none,0,0,[]⟩
theorem zPd:MayP 2 rj0.r rj0.l:=by
 refine ⟨by omega,by omega,by decide,.inl ⟨rfl,?_,?_,?_⟩⟩
 ·simp [zDX,rj0]
 ·simp [TagP,rj0]
 ·simp [zCi,rj0,zAU]
theorem zIn:Nums rj0.r rj0.l:=⟨by simp [rj0],by simp [rj0],by simp [rj0],fun d hd =>by cases hd⟩
theorem zIm:Fits rj0.r rj0.l:=⟨by simp [rj0,maxLen],by simp [rj0,maxLen],fun d hd =>by cases hd⟩
theorem zHO:zAj ((2:Nat):Int) [rj0]:=fun x hx =>by
 obtain rfl:=List.mem_singleton.1 hx
 exact ⟨zPd,zIn⟩
theorem zNy (w:World):Recs (w.alloc (.cells #[.int .i64 1,.string ⟨#[97]⟩,.int .u64 0,.slice none 0 0,.int .u64 7,.int .u64 0,.string ⟨#[]⟩] 46)) (w.alloc (.cells #[.int .i64 1,.string ⟨#[97]⟩,.int .u64 0,.slice none 0 0,.int .u64 7,.int .u64 0,.string ⟨#[]⟩] 46)).heap.size (some ⟨w.heap.size,0,none⟩) 1 [rj0]:=by
 have h:=zAD w (.cells #[.int .i64 1,.string ⟨#[97]⟩,.int .u64 0,.slice none 0 0,.int .u64 7,.int .u64 0,.string ⟨#[]⟩] 46)
 refine ⟨⟨rfl,fun _ =>⟨_,rfl,by simp,fun j u hu =>?_⟩⟩,fun x hx =>?_⟩
 ·have e:(rws [rj0])[j]? = (#[.int .i64 1,.string ⟨#[97]⟩,.int .u64 0,.slice none 0 0,.int .u64 7,.int .u64 0,.string ⟨#[]⟩]:Array Value)[j]?:=by
   rw [← Array.getElem?_toList];rfl
  rw [e] at hu
  have h2:=zAA (i:=j) h hu
  have e2:(⟨w.heap.size,0,none⟩:Addr).add j=⟨w.heap.size,j,none⟩:=by simp [Addr.add];exact fun h =>h.symm
  rw [e2]
  exact h2
 ·obtain rfl:=List.mem_singleton.1 hx
  exact ⟨⟨rfl,fun h =>absurd h (by simp [rj0])⟩,fun _ =>rfl⟩
theorem zKb (w:World) (hl:Laid w):Calls Tryz.prog 7 #[] w fun e w' =>e=.returned (.bool true)∧Below w.heap.size w w':=by
 have hk:(zAT 2 ((2:Nat):Int) [rj0]).length≤2000000:=by
  obtain ⟨_,_,f3,_⟩:=zCL zHO (by simp)
  unfold zAT
  rw [List.length_append,zBW]
  omega
 have HK:=yh hk
 have HL:=yh hl
 clear hk hl
 go_enter Tryz.func7,Tryz.ntmps7
 go_wp2_with fail
 refine (zGK w.heap.size w).mono ?_
 rintro e w1 ⟨rfl,hbx,hfl,hb1⟩
 have hb12:=(Below.refl w1.heap.size w1).alloc (Nat.le_refl _) (.cells #[.int .i64 1,.string ⟨#[97]⟩,.int .u64 0,.slice none 0 0,.int .u64 7,.int .u64 0,.string ⟨#[]⟩] 46)
 have HREC:=yh (zNy w1)
 have HR1:=yh (zAD w1 (.cells #[.int .i64 1,.string ⟨#[97]⟩,.int .u64 0,.slice none 0 0,.int .u64 7,.int .u64 0,.string ⟨#[]⟩] 46))
 obtain ⟨w2,hw2⟩:∃ x,x=w1.alloc (.cells #[.int .i64 1,.string ⟨#[97]⟩,.int .u64 0,.slice none 0 0,.int .u64 7,.int .u64 0,.string ⟨#[]⟩] 46):=⟨_,rfl⟩
 rw [← hw2] at hb12 HREC
 have HB2:=yh (hb1.trans (hb12.mono hb1.size))
 have HFS:Hid (FsAt w2 w.heap.size (w.heap.size+1) w.heap.size 0 fs0 (fun _ =>none)):=FsAt.below (σ:=fs0) ⟨hbx,hfl⟩ hb12
 have HW2:=yh hw2
 clear hbx hfl hb1 hb12 hw2
 go_wp2_with fail
 rw [← HW2.out]
 refine (zGe (w.heap.size+1) w.heap.size 0 w.heap.size fs0 (fun _ =>none) (by omega) 2000000 (by omega) (SzS.nil _) zFf zFf [120] [121] (zAT 2 ((2:Nat):Int) [rj0]) (by decide) (by simp) (by simp) 2 (some ⟨w1.heap.size,0,none⟩) 1 1 _ rfl HK.out w2 HB2.out.size HFS.out (yh fun W hb =>?_)).mono ?_
 ·refine (zHB 2 (by omega) [rj0] (some ⟨w1.heap.size,0,none⟩) 1 1 (by omega) (fun x hx =>by obtain rfl:=List.mem_singleton.1 hx;exact ⟨zIm,zIn,by simp [rj0]⟩) W (HL.out.below (HB2.out.trans (hb.mono HB2.out.size))) ((HREC.out.below hb).more hb.size)).mono ?_
  rintro e w' ⟨h1,hb1⟩
  refine ⟨?_,hb1⟩
  rcases h1 with ⟨_,u,rfl,ho⟩ | ⟨hno,_⟩
  ·obtain ⟨A1,c1,rfl,hA⟩:=zAM ho
   exact ⟨A1,c1,rfl,hA,ho⟩
  ·exact absurd zHO hno
 rintro e w3 ⟨z,rfl,hy,hn⟩
 have hz:z=0:=by
  by_cases h0:z=0
  ·exact h0
  ·obtain ⟨_,_,_,_,_,_,_,h⟩:=hn h0
   exact absurd zFL h.loud
 subst hz
 obtain ⟨σ3,N3,F3,g1,g2,g3,g4,g5⟩:=hy rfl
 have hb23:Below w.heap.size w2 w3:=g3.below (fun k hk =>zIK (by omega) (Nat.le_refl _) hk) HB2.out.size
 have HB3:=yh (HB2.out.trans hb23)
 have HOP:=yh (zFs (w.heap.size+1) w.heap.size N3 w.heap.size σ3 F3 [120] (by unfold maxLen;simp) 2 1 (by omega) [rj0] rfl zHO (fun x hx =>by obtain rfl:=List.mem_singleton.1 hx;exact zIm) (fun x hx =>by obtain rfl:=List.mem_singleton.1 hx;simp [rj0]) (by simp) _ g5.new w3 (HL.out.below HB3.out) g1)
 clear hy hn g1 g2 g3 g4 g5 hb23
 go_wp2_with fail
 refine HOP.out.mono ?_
 rintro e w4 ⟨⟨A3,E3,c3,d3,zs,rfl,hsay,_,hro⟩,hb4⟩
 obtain ⟨G,hG⟩:∃ G:Int,G=(eo ((2:Nat):Int) [rj0] 1:Int):=⟨_,rfl⟩
 obtain ⟨vI,hvI⟩:∃ vI:Int,vI=((2:Nat):Int):=⟨_,rfl⟩
 rw [← hG,← hvI]
 have hv2:(vI == 2)=true:=by rw [hvI];rfl
 have hzs:∃ zz:Rw,zs=[zz]∧zz.r=rj0.r:=by
  match zs,hsay with
  | [zz],h =>exact ⟨zz,rfl,congrArg (fun l:List (Rc×List Dp) =>(l.headD (rj0.r,[])).1) h⟩
  | [],h =>cases h
  | _ :: _ :: _,h =>simp at h
 obtain ⟨zz,rfl,hzr⟩:=hzs
 have hb45:=(Below.refl w4.heap.size w4).alloc (Nat.le_refl _) (.cells #[.int .i64 vI,.slice A3 1 c3,.slice E3 1 d3,.int .i64 G] 37)
 have hxf:=zAD w4 (.cells #[.int .i64 vI,.slice A3 1 c3,.slice E3 1 d3,.int .i64 G] 37)
 obtain ⟨hrr,_⟩:=(hro.below hb45).read
 obtain ⟨ad,rfl,hadb,c0,c1',c2,c3',c4,c5,c6⟩:=zCA hrr.1 0 zz rfl
 have hout:zz.r.out=7:=by rw [hzr];rfl
 have e0:ad.add (0 * 7)=ad:=by rw [Nat.zero_mul];unfold Addr.add;simp
 rw [hout,e0] at c4
 rw [e0] at c0 c1' c2 c3' c5 c6
 have q0:=zAA (i:=0) hxf rfl;have q1:=zAA (i:=1) hxf rfl
 have HB5:=yh ((HB3.out.trans (hb4.mono HB3.out.size)).trans (hb45.mono (HB3.out.trans (hb4.mono HB3.out.size)).size))
 clear hsay hro hb4 hb45 hxf hrr c0 c1' c2 c3' c5 c6 e0 hG hvI hzr hout hadb
 go_wp2
 go_ret
 exact ⟨rfl,HB5.out⟩
def JS (w:World) (base p b:Nat) (P:FsSt→Prop) (m:Nat) (W:World):Prop :=
 ∃ (σ:FsSt) (N:Nat) (F:List UInt8→Option Value),FsAt W base p b N σ F∧N≤m∧(∀ k,zAS p b F k→base≤k)∧base≤W.heap.size∧Below base w W∧P σ
theorem zPL {w W w':World} {base p b m N':Nat} {P:FsSt→Prop} {σ':FsSt} {F F':List UInt8→Option Value} (h1:∀ k,zAS p b F k→base≤k) (h2:base≤W.heap.size) (h3:Below base w W)
  (g1:FsAt w' base p b N' σ' F') (g2:N'≤m) (g3:Turn (zAS p b F) W w') (g4:∀ k,zAS p b F' k→zAS p b F k∨W.heap.size≤k) (hP:P σ'):JS w base p b P m w' :=
 ⟨σ',N',F',g1,g2,fun k hk =>by rcases g4 k hk with h | h;exact h1 k h;omega,Nat.le_trans h2 g3.2.2.2.1,h3.trans (g3.below h1 h2),hP⟩
theorem JS.below {w W w':World} {base p b m:Nat} {P:FsSt→Prop} (h:JS w base p b P m W) (hb:Below W.heap.size W w'):JS w base p b P m w':=by
 obtain ⟨σ,N,F,h1,h2,h3,h4,h5,h6⟩:=h
 exact ⟨σ,N,F,h1.below hb,h2,h3,Nat.le_trans h4 hb.size,h5.trans (hb.mono h4),h6⟩
theorem JS.under {w W:World} {base p b m:Nat} {P:FsSt→Prop} (h:JS w base p b P m W):Below base w W∧base≤W.heap.size:=by
 obtain ⟨σ,N,F,h1,h2,h3,h4,h5,h6⟩:=h
 exact ⟨h5,h4⟩
theorem JS.imp {w W:World} {base p b m:Nat} {P Q:FsSt→Prop} (h:JS w base p b P m W) (hi:∀ σ,P σ→Q σ):JS w base p b Q m W:=by
 obtain ⟨σ,N,F,h1,h2,h3,h4,h5,h6⟩:=h
 exact ⟨σ,N,F,h1,h2,h3,h4,h5,hi σ h6⟩
theorem JS.room {w W:World} {base p b m m':Nat} {P:FsSt→Prop} (h:JS w base p b P m W) (hm:m≤m'):JS w base p b P m' W:=by
 obtain ⟨σ,N,F,h1,h2,h3,h4,h5,h6⟩:=h
 exact ⟨σ,N,F,h1,by omega,h3,h4,h5,h6⟩
theorem zMx (v:Nat) (hv:1≤v∧v≤3) (A:Option Addr) (n c:Nat) (xs:List Rw) (hm:zAj (v:Int) xs) (hf2:∀ x ∈ xs,Fits x.r x.l∧Nums x.r x.l∧x.n≤1000) (h30:xs.length≤30) (w:World) (hl:Laid w) (hr:Recs w w.heap.size A n xs) :
  Calls Tryz.prog 8 #[.int .i64 (v:Int),.slice A n c] w fun e w' =>e=.returned (.tuple #[.pointer (some ⟨w.heap.size+1,0,none⟩),.bool true])∧JS w w.heap.size (w.heap.size+1) w.heap.size (StY [108,111,103] [110,101,119] (zAT v (v:Int) xs) 2000000 fs0) 8 w':=by
 have hk:(zAT v (v:Int) xs).length≤2000000:=by
  obtain ⟨_,_,f3,_⟩:=zCL hm h30
  unfold zAT
  rw [List.length_append,zBW]
  omega
 have hn:xs.length=n:=hr.len
 have HP:Hid (∀ W,Below w.heap.size w W→Calls Tryz.prog 25 #[.int .i64 (v:Int),.slice A n c] W fun e w' =>(∃ A1 c1,e=.returned (.tuple #[.slice A1 (zAT v (v:Int) xs).length c1,.int .i64 0])∧(A1=none→c1=0)∧w'.ownsRow W.heap.size 5 1 (.slice A1 (zAT v (v:Int) xs).length c1) (zAT v (v:Int) xs).length ((zAT v (v:Int) xs).map bv))∧Below W.heap.size W w'):=fun W hb =>by
  refine (zHB v hv xs A n c (by omega) hf2 W (hl.below hb) ((hr.below hb).more hb.size)).mono ?_
  rintro e w' ⟨h1,hb1⟩
  refine ⟨?_,hb1⟩
  rcases h1 with ⟨_,u,rfl,ho⟩ | ⟨hno,_⟩
  ·obtain ⟨A1,c1,rfl,hA⟩:=zAM ho
   exact ⟨A1,c1,rfl,hA,ho⟩
  ·exact absurd hm hno
 have HK:=yh hk
 clear hk hn hl hr hm hf2 h30
 go_enter Tryz.func8,Tryz.ntmps8
 go_wp2_with fail
 refine (zGK w.heap.size w).mono ?_
 rintro e w1 ⟨rfl,hbx,hfl,hb1⟩
 have HB1:=yh hb1
 have HFS:Hid (FsAt w1 w.heap.size (w.heap.size+1) w.heap.size 0 fs0 (fun _ =>none)):=⟨hbx,hfl⟩
 clear hbx hfl hb1
 go_wp2_with fail
 refine (zGe (w.heap.size+1) w.heap.size 0 w.heap.size fs0 (fun _ =>none) (by omega) 2000000 (by omega) (SzS.nil _) zFf zFf [108,111,103] [110,101,119] (zAT v (v:Int) xs) (by decide) (by simp) (by simp) (v:Int) A n c _ rfl HK.out w1 HB1.out.size HFS.out (yh fun W hb =>HP.out W (HB1.out.trans (hb.mono HB1.out.size)))).mono ?_
 rintro e w3 ⟨z,rfl,hy,hn⟩
 have hz:z=0:=by
  by_cases h0:z=0
  ·exact h0
  ·obtain ⟨_,_,_,_,_,_,_,h⟩:=hn h0
   exact absurd zFL h.loud
 subst hz
 obtain ⟨σ3,N3,F3,g1,g2,g3,g4,g5⟩:=hy rfl
 have HJ:Hid (JS w w.heap.size (w.heap.size+1) w.heap.size (StY [108,111,103] [110,101,119] (zAT v (v:Int) xs) 2000000 fs0) 8 w3) :=
  zPL (F:=fun _ =>none) (fun k hk =>zIK (by omega) (Nat.le_refl _) hk) HB1.out.size HB1.out g1 (by omega) g3 g4 g5
 clear hy hn g1 g2 g3 g4 g5
 go_wp2
 go_ret2
 exact ⟨rfl,HJ.out⟩
theorem zLo (p:Nat) (nm sd:List UInt8) (ver:Int) (en:Int) (hen:en≠0) (A:Option Addr) (n c:Nat) (w:World)
  (HP:Hid (∀ W,Below w.heap.size w W→Calls Tryz.prog 25 #[.int .i64 ver,.slice A n c] W fun e w' =>e=.returned (.tuple #[.slice none 0 0,.int .i64 en])∧Below W.heap.size W w')) :
  Calls Tryz.prog 12 #[.pointer (some ⟨p,0,none⟩),.string (tx nm),.string (tx sd),.int .i64 ver,.slice A n c] w fun e w' =>e=.returned (.int .i64 en)∧Below w.heap.size w w':=by
 have HB1:Below w.heap.size w (w.alloc (.cells #[.pointer (some ⟨p,0,none⟩)] 26)):=(Below.refl _ _).alloc (Nat.le_refl _) _
 have HB2:Below w.heap.size w ((w.alloc (.cells #[.pointer (some ⟨p,0,none⟩)] 26)).alloc (.cells #[.string (tx nm)] 9)):=HB1.alloc HB1.size _
 have HB3:Hid (Below w.heap.size w (((w.alloc (.cells #[.pointer (some ⟨p,0,none⟩)] 26)).alloc (.cells #[.string (tx nm)] 9)).alloc (.cells #[.string (tx sd)] 9))):=HB2.alloc HB2.size _
 have z1:(w.alloc (.cells #[.pointer (some ⟨p,0,none⟩)] 26)).heap.size=w.heap.size+1:=by simp
 have z2:((w.alloc (.cells #[.pointer (some ⟨p,0,none⟩)] 26)).alloc (.cells #[.string (tx nm)] 9)).heap.size=w.heap.size+2:=by simp
 have e1:=(Below.heap_alloc ((w.alloc (.cells #[.pointer (some ⟨p,0,none⟩)] 26)).alloc (.cells #[.string (tx nm)] 9)) (.cells #[.string (tx sd)] 9) w.heap.size (by rw [z2];omega)).trans ((Below.heap_alloc (w.alloc (.cells #[.pointer (some ⟨p,0,none⟩)] 26)) (.cells #[.string (tx nm)] 9) w.heap.size (by rw [z1];omega)).trans (zAD w (.cells #[.pointer (some ⟨p,0,none⟩)] 26)))
 have q1:=zAA (i:=0) e1 rfl
 have hen2:(en == 0)=false:=by simpa using hen
 clear HB1 HB2 z1 z2 e1
 go_enter Tryz.func12,Tryz.ntmps12
 go_wp2_with fail
 refine (HP.out _ HB3.out).mono ?_
 rintro e w4 ⟨rfl,hb4⟩
 have HB4:=yh (HB3.out.trans (hb4.mono HB3.out.size))
 clear hb4
 go_wp2
 go_ret
 exact ⟨rfl,by first | exact HB4.out | exact HB4.out.alloc HB4.out.size _⟩
theorem zMw (ver:Int) (en:Int) (hen:en≠0) (A:Option Addr) (n c:Nat) (w:World)
  (HP:Hid (∀ W,Below w.heap.size w W→Calls Tryz.prog 25 #[.int .i64 ver,.slice A n c] W fun e w' =>e=.returned (.tuple #[.slice none 0 0,.int .i64 en])∧Below W.heap.size W w')) :
  Calls Tryz.prog 8 #[.int .i64 ver,.slice A n c] w fun e w' =>e=.returned (.tuple #[.pointer (some ⟨w.heap.size+1,0,none⟩),.bool false])∧Below w.heap.size w w':=by
 have hen2:(en == 0)=false:=by simpa using hen
 have HEN:=yh hen
 clear hen
 go_enter Tryz.func8,Tryz.ntmps8
 go_wp2_with fail
 refine (zGK w.heap.size w).mono ?_
 rintro e w1 ⟨rfl,_,_,hb1⟩
 have HB1:=yh hb1
 clear hb1
 go_wp2_with fail
 refine (zLo (w.heap.size+1) [108,111,103] [110,101,119] ver en HEN.out A n c w1 (yh fun W hb =>HP.out W (HB1.out.trans (hb.mono HB1.out.size)))).mono ?_
 rintro e w3 ⟨rfl,hb3⟩
 have HB3:=yh (HB1.out.trans (hb3.mono HB1.out.size))
 clear hb3
 go_wp2
 go_ret2
 exact ⟨rfl,HB3.out⟩
section
variable {w W:World} {base p b m:Nat}
end
structure Ja (C:List UInt8) (s:Nat) (σ:FsSt):Prop where
 log:σ.fl [108,111,103]=some ⟨C,s⟩
 nf:σ.f.1=false
 hg:zAX σ.g
 sz:SzS 4000000 σ
structure Jz (C:List UInt8) (σ:FsSt):Prop where
 log:σ.fl [108,111,103]=some ⟨C,C.length⟩
 q:zBg σ
 sz:SzS 4000000 σ
theorem Ja.hf {C:List UInt8} {s:Nat} {σ:FsSt} (h:Ja C s σ):zAX σ.f:=fun e =>by rw [h.nf] at e;cases e
theorem Ja.le {C:List UInt8} {s:Nat} {σ:FsSt} (h:Ja C s σ):s≤C.length∧C.length≤4000000:=⟨(h.sz _ _ h.log).2.1,(h.sz _ _ h.log).1⟩
theorem zNZ {B:List UInt8} {σ0 σ:FsSt} (h:StY [108,111,103] [110,101,119] B 2000000 σ0 σ) (hq:zBg σ):Jz B σ:=⟨h.new,hq,h.sz.more (by omega)⟩
theorem Jz.ja {C:List UInt8} {σ:FsSt} (h:Jz C σ):Ja C C.length σ:=⟨h.log,h.q.2.1,(fun e =>by rw [h.q.2.2] at e;cases e),h.sz⟩
def JT (w:World) (base p b:Nat) (T:Nat→Prop) (P:FsSt→Prop) (m:Nat) (W:World):Prop :=
 ∃ (σ:FsSt) (N:Nat) (F:List UInt8→Option Value),FsAt W base p b N σ F∧N≤m∧(∀ k,zAS p b F k→base≤k∧¬ T k)∧base≤W.heap.size∧(∀ k,T k→k<W.heap.size)∧Below base w W∧P σ
def Past (T:Nat→Prop) (W w':World):Prop:=∀ k,T k→w'.heap[k]? = W.heap[k]?
theorem Past.trans {T:Nat→Prop} {a b c:World} (h:Past T a b) (k:Past T b c):Past T a c:=fun i hi =>(k i hi).trans (h i hi)
theorem Past.row {T:Nat→Prop} {W w':World} (h:Past T W w') {e:TypeId} {size n base:Nat} {v:Value} {xs:List Value} (ho:W.ownsRow base e size v n xs) (hT:∀ k,v.ownBlock=some k→T k):w'.ownsRow base e size v n xs :=
 zAP ho (fun k hk =>h k (hT k hk))
theorem Past.of_below {T:Nat→Prop} {W w':World} (hb:Below W.heap.size W w') (hT:∀ k,T k→k<W.heap.size):Past T W w':=fun k hk =>hb.block k (hT k hk)
theorem JT.of_js {w W:World} {base p b m:Nat} {P:FsSt→Prop} (h:JS w base p b P m W):JT w base p b (fun k =>k<base) P m W:=by
 obtain ⟨σ,N,F,h1,h2,h3,h4,h5,h6⟩:=h
 exact ⟨σ,N,F,h1,h2,fun k hk =>⟨h3 k hk,by have:=h3 k hk;omega⟩,h4,fun k hk =>Nat.lt_of_lt_of_le hk h4,h5,h6⟩
theorem zEO {w W w':World} {base p b m N':Nat} {T:Nat→Prop} {P:FsSt→Prop} {σ':FsSt} {F F':List UInt8→Option Value} (h1:∀ k,zAS p b F k→base≤k∧¬ T k) (h2:base≤W.heap.size) (hT:∀ k,T k→k<W.heap.size) (h3:Below base w W)
    (g1:FsAt w' base p b N' σ' F') (g2:N'≤m) (g3:Turn (zAS p b F) W w') (g4:∀ k,zAS p b F' k→zAS p b F k∨W.heap.size≤k) (hP:P σ'):JT w base p b T P m w'∧Past T W w' :=
  ⟨⟨σ',N',F',g1,g2,fun k hk =>by
    rcases g4 k hk with h | h
    · exact h1 k h
    · exact ⟨by omega,fun ht =>by have:=hT k ht;omega⟩,Nat.le_trans h2 g3.2.2.2.1,fun k hk =>Nat.lt_of_lt_of_le (hT k hk) g3.2.2.2.1,h3.trans (g3.below (fun k hk =>(h1 k hk).1) h2),hP⟩,
   fun k hk =>g3.2.2.2.2 k (hT k hk) (fun hs =>(h1 k hs).2 hk)⟩
theorem JT.below {w W w':World} {base p b m:Nat} {T:Nat→Prop} {P:FsSt→Prop} (h:JT w base p b T P m W) (hb:Below W.heap.size W w'):JT w base p b T P m w':=by
 obtain ⟨σ,N,F,h1,h2,h3,h4,hT,h5,h6⟩:=h
 exact ⟨σ,N,F,h1.below hb,h2,h3,Nat.le_trans h4 hb.size,fun k hk =>Nat.lt_of_lt_of_le (hT k hk) hb.size,h5.trans (hb.mono h4),h6⟩
theorem JT.wide {w W w':World} {base p b m:Nat} {T:Nat→Prop} {P:FsSt→Prop} (h:JT w base p b T P m W) (hb:Below W.heap.size W w'):JT w base p b (fun k =>T k∨(W.heap.size≤k∧k<w'.heap.size)) P m w':=by
 obtain ⟨σ,N,F,h1,h2,h3,h4,hT,h5,h6⟩:=h
 have hlt:=zEN h1.2 h1.1
 exact ⟨σ,N,F,h1.below hb,h2,fun k hk =>⟨(h3 k hk).1,fun ht =>by rcases ht with ht | ht;exact (h3 k hk).2 ht;have:=hlt k hk;omega⟩,Nat.le_trans h4 hb.size,fun k hk =>by rcases hk with hk | hk;exact Nat.lt_of_lt_of_le (hT k hk) hb.size;exact hk.2,h5.trans (hb.mono h4),h6⟩
theorem JT.kept {w W w':World} {base p b m:Nat} {S T:Nat→Prop} {P:FsSt→Prop} (h:JT w base p b T P m W) (ht:Turn S W w') (hS:∀ k,S k→T k∧base≤k):JT w base p b T P m w':=by
 obtain ⟨σ,N,F,h1,h2,h3,h4,hT,h5,h6⟩:=h
 exact ⟨σ,N,F,h1.past ht (fun k hk hs =>(h3 k hk).2 (hS k hs).1),h2,h3,Nat.le_trans h4 ht.2.2.2.1,fun k hk =>Nat.lt_of_lt_of_le (hT k hk) ht.2.2.2.1,h5.trans (ht.below (fun k hk =>(hS k hk).2) h4),h6⟩
theorem JT.under {w W:World} {base p b m:Nat} {T:Nat→Prop} {P:FsSt→Prop} (h:JT w base p b T P m W):Below base w W∧base≤W.heap.size:=by
 obtain ⟨σ,N,F,h1,h2,h3,h4,hT,h5,h6⟩:=h
 exact ⟨h5,h4⟩
theorem JT.lt {w W:World} {base p b m:Nat} {T:Nat→Prop} {P:FsSt→Prop} (h:JT w base p b T P m W):∀ k,T k→k<W.heap.size:=by
 obtain ⟨σ,N,F,h1,h2,h3,h4,hT,h5,h6⟩:=h
 exact hT
theorem JT.imp {w W:World} {base p b m:Nat} {T:Nat→Prop} {P Q:FsSt→Prop} (h:JT w base p b T P m W) (hi:∀ σ,P σ→Q σ):JT w base p b T Q m W:=by
 obtain ⟨σ,N,F,h1,h2,h3,h4,hT,h5,h6⟩:=h
 exact ⟨σ,N,F,h1,h2,h3,h4,hT,h5,hi σ h6⟩
theorem JT.less {w W:World} {base p b m:Nat} {T T':Nat→Prop} {P:FsSt→Prop} (h:JT w base p b T P m W) (hT':∀ k,T' k→T k):JT w base p b T' P m W:=by
 obtain ⟨σ,N,F,h1,h2,h3,h4,hT,h5,h6⟩:=h
 exact ⟨σ,N,F,h1,h2,fun k hk =>⟨(h3 k hk).1,fun ht =>(h3 k hk).2 (hT' k ht)⟩,h4,fun k hk =>hT k (hT' k hk),h5,h6⟩
theorem JT.room {w W:World} {base p b m m':Nat} {T:Nat→Prop} {P:FsSt→Prop} (h:JT w base p b T P m W) (hm:m≤m'):JT w base p b T P m' W:=by
 obtain ⟨σ,N,F,h1,h2,h3,h4,hT,h5,h6⟩:=h
 exact ⟨σ,N,F,h1,by omega,h3,h4,hT,h5,h6⟩
section
variable {w W:World} {base p b m:Nat} {T:Nat→Prop}
theorem zNb {C:List UInt8} {s:Nat} (body:List UInt8) (hbd:C.length+body.length≤4000000) (h:JT w base p b T (Ja C s) m W) (hm:m≤1000) (w1:World) (hb:Below W.heap.size W w1) (A:Option Addr) (k c:Nat) (hA:A=none→c=0) (hr:zAE w1 w1.heap.size 1 A k (body.map bv)) :
  Calls Tryz.prog 9 #[.pointer (some ⟨p,0,none⟩),.string (tx [108,111,103]),.slice A k c] w1 fun e w' =>∃ e0:Int,e=.returned (.int .i64 e0)∧Past T w1 w'∧((e0=0∧JT w base p b T (Ja (C++body) s) (m+2) w')∨(e0=7∧JT w base p b T (fun σ =>Ja C s σ∨Ja (C++body) s σ) (m+2) w')):=by
 obtain ⟨σ,N,F,h1,h2,h3,h4,hT,h5,hj⟩:=h.below hb
 have hbl:body.length=k:=by have:=hr.1;simpa using this
 refine (zJY p b N base σ F (by omega) (hj.sz.small (by omega)) hj.hf hj.hg w1 h4 h1 [108,111,103] (by unfold maxLen;simp) w1.heap.size (Nat.le_refl _) A k c body hA (by omega) hr).mono ?_
 rintro e w' ⟨e0,rfl,σ',N',F',a1,a2,a3,a4,a5⟩
 have hmk:∀ P:FsSt→Prop,P σ'→JT w base p b T P (m+2) w'∧Past T w1 w':=fun P hP =>zEO h3 h4 hT h5 a1 (by omega) a3 a4 hP
 have hnw:zBj σ ⟨0,[108,111,103],[],body,0,[]⟩=zAZ σ.fl [108,111,103] (some ⟨C++body,s⟩):=by simp [zBj,zAl,hj.log]
 have hle:=hj.le
 have hx:∀ σ2:FsSt,σ2.fl=zAZ σ.fl [108,111,103] (some ⟨C++body,s⟩)→σ2.f=σ.f→zAX σ2.g→Ja (C++body) s σ2:=fun σ2 he hf hg =>
  ⟨by rw [he,zDU],by rw [hf];exact hj.nf,hg,zCy hj.sz he (fun y h =>by obtain rfl:=Option.some.inj h;exact ⟨by simp;omega,by simp;omega,by simp⟩)⟩
 have hsame:∀ σ2:FsSt,σ2.fl=σ.fl→σ2.f=σ.f→zAX σ2.g→Ja C s σ2:=fun σ2 he hf hg =>
  ⟨by rw [he];exact hj.log,by rw [hf];exact hj.nf,hg,fun u y hu =>hj.sz u y (by rw [← he];exact hu)⟩
 obtain ⟨hal,han⟩:=zBt hj.nf
 refine ⟨e0,rfl,(hmk (fun _ =>True) trivial).2,?_⟩
 rcases a5 with ⟨h0,hs,rfl⟩ | ⟨h0,rfl,rfl⟩
 ·obtain rfl:=hs.symm
  have h7:refC σ ⟨0,[108,111,103],[],body,0,[]⟩=7:=by
   unfold refC at h0 ⊢
   split
   ·rfl
   ·rename_i hd;rw [if_neg hd] at h0;exact absurd rfl h0
  exact .inr ⟨h7,(hmk _ (.inl hj)).1⟩
 ·cases hgn:zAb σ.g with
  | true =>
   refine .inr ⟨by simp [zAn,hgn],(hmk _ (.inr (hx _ ?_ hal (zBJ hj.hg)))).1⟩
   rw [← hnw];simp [actS,zAm,hgn,zCH]
  | false =>
   refine .inl ⟨by simp [zAn,hgn,han],(hmk _ (hx _ ?_ hal (zBJ hj.hg))).1⟩
   rw [← hnw];simp [actS,zAm,hgn,han,zCH]
theorem zPK {C:List UInt8} {s:Nat} (h:JT w base p b T (Ja C s) m W) (hm:m≤1000) :
  Calls Tryz.prog 18 #[.pointer (some ⟨p,0,none⟩),.string (tx [108,111,103])] W fun e w' =>∃ e0:Int,e=.returned (.int .i64 e0)∧Past T W w'∧((e0=0∧JT w base p b T (Ja C C.length) (m+2) w')∨(e0=7∧JT w base p b T (Ja C s) (m+2) w')):=by
 obtain ⟨σ,N,F,h1,h2,h3,h4,hT,h5,hj⟩:=h
 refine (zIr p b N base σ F (by omega) hj.hf hj.hg W h1 [108,111,103] (by unfold maxLen;simp)).mono ?_
 rintro e w' ⟨e0,rfl,σ',N',F',a1,a2,a3,a4,a5⟩
 have hmk:∀ P:FsSt→Prop,P σ'→JT w base p b T P (m+2) w'∧Past T W w':=fun P hP =>zEO h3 h4 hT h5 a1 (by omega) a3 a4 hP
 have hnw:zBj σ ⟨2,[108,111,103],[],[],0,[]⟩=zAZ σ.fl [108,111,103] (some ⟨C,C.length⟩):=by simp [zBj,zAl,hj.log]
 have hle:=hj.le
 obtain ⟨hal,han⟩:=zBt hj.nf
 have hsame:∀ σ2:FsSt,σ2.fl=σ.fl→σ2.f=σ.f→zAX σ2.g→Ja C s σ2:=fun σ2 he hf hg =>
  ⟨by rw [he];exact hj.log,by rw [hf];exact hj.nf,hg,fun u y hu =>hj.sz u y (by rw [← he];exact hu)⟩
 refine ⟨e0,rfl,(hmk (fun _ =>True) trivial).2,?_⟩
 rcases a5 with ⟨h0,hs,rfl⟩ | ⟨h0,rfl,rfl⟩
 ·obtain rfl:=hs.symm
  have h7:refC σ ⟨2,[108,111,103],[],[],0,[]⟩=7:=by
   unfold refC at h0 ⊢
   simp only [hj.log] at h0 ⊢
   split
   ·rfl
   ·rename_i hd;rw [if_neg hd] at h0;simp at h0
  exact .inr ⟨h7,(hmk _ hj).1⟩
 ·cases hgn:zAb σ.g with
  | true =>
   refine .inr ⟨by simp [zAn,hgn],(hmk _ (hsame _ ?_ hal (zBJ hj.hg))).1⟩
   simp [actS,zAm,hgn,zCH]
  | false =>
   refine .inl ⟨by simp [zAn,hgn,han],(hmk _ ⟨?_,by show (zAH σ.f).1=false;rw [hal];exact hj.nf,zBJ hj.hg,?_⟩).1⟩
   ·show (actS _ _).fl _=_
    simp only [actS,zAm,hgn,han,zCH]
    rw [hnw];simp [zDU]
   ·refine zCy (x:=some ⟨C,C.length⟩) (s:=[108,111,103]) hj.sz ?_ (fun y h =>by obtain rfl:=Option.some.inj h;exact ⟨hle.2,Nat.le_refl _,by simp⟩)
    rw [← hnw];simp [actS,zAm,hgn,han,zCH]
theorem zNc {C:List UInt8} (h:JT w base p b T (Jz C) m W) (n:Int) (hn:n≤9223372036854775807) :
  Calls Tryz.prog 11 #[.pointer (some ⟨p,0,none⟩),.int .i64 n] W fun e w' =>e=.returned (.tuple #[])∧JT w base p b T (Ja C C.length) m w'∧Past T W w':=by
 obtain ⟨σ,N,F,h1,h2,h3,h4,hT,h5,hj⟩:=h
 refine (zNI p b σ.down σ.f σ.g n W h1.1).mono ?_
 rintro e w' ⟨rfl,hx,ht⟩
 have ht2:Turn (zAS p b F) W w':=⟨ht.1,ht.2.1,ht.2.2.1,ht.2.2.2.1,fun k hk hs =>ht.2.2.2.2 k hk (fun e =>hs (.inl e))⟩
 exact ⟨rfl,zEO (σ':=⟨σ.fl,σ.down,σ.f,zDY n⟩) h3 h4 hT h5 ⟨hx,zJC h1.2 h1.1 ht⟩ h2 ht2 (fun k hk =>.inl hk) ⟨hj.log,hj.q.2.1,zMu hn,hj.sz⟩⟩
theorem zFM {Q:List UInt8→Prop} {lo:Nat} (h:JT w base p b T (fun σ =>∃ C s,Q C∧lo≤s∧Ja C s σ) m W) (hm:m≤1000) (x:Int) :
  Calls Tryz.prog 13 #[.pointer (some ⟨p,0,none⟩),.slice (some ⟨W.heap.size,0,none⟩) 1 1] (W.alloc (.cells #[.int .i64 x] 3)) fun e w' =>e=.returned (.tuple #[])∧JT w base p b T (fun σ =>∃ C q,Q C∧lo≤q∧q≤C.length∧Jz (C.take q) σ) (2 * m) w'∧Past T W w':=by
 have hb:=(Below.refl W.heap.size W).alloc (Nat.le_refl _) (.cells #[.int .i64 x] 3)
 have hnew:=zAD W (.cells #[.int .i64 x] 3)
 obtain ⟨σ,N,F,h1,h2,h3,h4,hT,h5,C,s,hQ,hlo,hj⟩:=h
 have hlt:=zEN h1.2 h1.1
 have h1':=h1.below hb
 have hsz:(W.alloc (.cells #[.int .i64 x] 3)).heap.size=W.heap.size+1:=by simp
 refine (zLN p b N base σ.down σ.f σ.g σ.fl F (some ⟨W.heap.size,0,none⟩) 1 1 [x] (by omega) (fun u z hu =>⟨Nat.le_trans (hj.sz u z hu).1 (by omega),(hj.sz u z hu).2.1,Nat.le_trans (hj.sz u z hu).2.2 (by unfold maxLen;omega)⟩) (by omega) (by unfold maxLen;omega) (fun e =>by cases e) _ (Nat.le_trans h4 hb.size) h1'.1 h1'.2 (fun _ ad e hs =>by
  have e2:=Option.some.inj e
  have:=hlt _ hs
  rw [← e2] at this
  exact absurd this (by simp)) ⟨rfl,fun _ =>⟨_,rfl,by show W.heap.size<_;omega,fun j u hu =>?_⟩⟩).mono ?_
 ·have e2:(⟨W.heap.size,0,none⟩:Addr).add j=⟨W.heap.size,j,none⟩:=by simp [Addr.add];exact fun h =>h.symm
  rw [e2]
  refine zAA hnew ?_
  rw [← Array.getElem?_toList]
  exact hu
 ·rintro e w' ⟨rfl,F',ns,hns,hnl,hf',hx',ht,hsub⟩
  obtain ⟨q,hq1,hq2,hq3⟩:=zKR (ks:=[x]) hj.sz hns hj.log
  have hst:JT w base p b T (fun σ =>∃ C q,Q C∧lo≤q∧q≤C.length∧Jz (C.take q) σ) (2 * m) w'∧Past T (W.alloc (.cells #[.int .i64 x] 3)) w':=by
   refine zEO (σ':=⟨(crN ns (σ.fl,[x])).1,false,(false,0),(false,0)⟩) h3 (Nat.le_trans h4 hb.size) (fun k hk =>Nat.lt_of_lt_of_le (hT k hk) hb.size) (h5.trans (hb.mono h4)) ⟨hx',hf'⟩ (by omega) ht hsub ?_
   exact ⟨C,q,hQ,by omega,hq2,⟨by show (crN ns (σ.fl,[x])).1 _=_;rw [hq3,List.length_take,Nat.min_eq_left hq2],⟨rfl,rfl,rfl⟩,zNA hj.sz hns⟩⟩
  exact ⟨rfl,hst.1,(Past.of_below hb hT).trans hst.2⟩
end
theorem zHj:(Tryz.prog.info? 3).map (fun i =>(i.zero,i.size,i.bytes))=some (some (.int .i64 0),1,8):=by kernel_rfl
theorem zEi (A:Option Addr) (n c:Nat) (xs:List Value) (hn:n≤1073741824) (hA:A=none→c=0) (hone:∀ u ∈ xs,u.oneCell'=true) (w:World) (hr:zAE w w.heap.size 1 A n xs) :
  Calls Tryz.prog 60 #[.slice A n c] w fun e w' =>∃ v,e=.returned v∧w'.ownsRow w.heap.size 3 1 v n xs∧Below w.heap.size w w':=by
 obtain ⟨i0,hi,hz0,hz1,hz2⟩:=info_parts zHj
 have hlen:=hr.1
 cases A with
 | none =>
  obtain rfl:=hA rfl
  have hn0:n=0:=by
   rcases Nat.eq_zero_or_pos n with h0 | h0
   ·exact h0
   ·obtain ⟨_,e,_⟩:=hr.2 h0
    cases e
  subst hn0
  obtain rfl:xs=[]:=List.eq_nil_of_length_eq_zero (by simpa using hlen)
  have he:∀ w:World,(binOp .eql 35 (.slice none 0 0) (.slice none 0 0)).run Tryz.prog w=.ok (.bool true) w:=fun _ =>rfl
  clear hr hlen hone hA
  go_enter Tryz.func60,Tryz.ntmps60
  go_wp2
  go_ret
  exact ⟨_,rfl,World.ownsRow_nil _ _ _ _,Below.refl _ _⟩
 | some ad =>
  have he:∀ w:World,(binOp .eql 35 (.slice (some ad) n c) (.slice none 0 0)).run Tryz.prog w=.ok (.bool false) w:=fun _ =>rfl
  have hal:=hr.alloc (Nat.le_refl _) (.cells #[] 3)
  clear hlen hr
  go_enter Tryz.func60,Tryz.ntmps60
  go_wp2_with (at_builtin;refine zBZ _ rfl (.tmp 5) (.tmp 6) 35 rfl w.heap.size 3 i0 (.int .i64 0) 8 Tryz.underlying35 hi hz0 hz1 hz2 rfl (.slice (some ⟨w.heap.size,0,none⟩) 0 0) 0 [] rfl (zHn _ _) (some ad) n c w.heap.size _ rfl (fun e =>by cases e) hal hone (by unfold maxLen;omega) (by omega) (by simp) ?_;intro v3 w3 ho3 hg3)
  go_ret
  exact ⟨_,rfl,by simpa using ho3,((Below.refl _ w).alloc (Nat.le_refl _) _).grown hg3 (by simp) (fun k hk =>by simp [Value.ownBlock] at hk;omega)⟩
theorem zCh {w:World} {ops:Array Oper} {rest:List Oper} {o:Oper} {a:Act} {Q:Exit→Act→World→Prop} (hgd:o.guard=none) (x y:Operand) (ho:o.op=.store 35 x y) (g:Nat) (c0 c1 c2 c3:Value) (A:Option Addr) (n c:Nat)
  (hx:a.eval x=.pointer (some ⟨g,2,none⟩)) (hy:a.eval y=.slice A n c) (hg:w.heap[g]? = some (.cells #[c0,c1,c2,c3] 37 (0,0)))
  (h:∀ w',w'.heap[g]? = some (.cells #[c0,c1,.slice A n c,c3] 37 (0,0))→w.grownBy w' (some g)→wpList Tryz.prog ops Q rest (a.put o.dst undef) w'):wpList Tryz.prog ops Q (o :: rest) a w:=by
 have hown:w.ownsRow 0 37 4 (.slice (some ⟨g,0,none⟩) 1 1) 1 [c0,c1,c2,c3]:=⟨rfl,.inr ⟨g,1,#[c0,c1,c2,c3],rfl,Nat.zero_le _,hg,Nat.le_refl _,by unfold maxLen;omega,rfl,rfl⟩⟩
 have hcell:w.cell? ⟨g,2,none⟩=some c2:=zAA (i:=2) hg rfl
 have hfr:w.frozen? ⟨g,2,none⟩=false:=hown.frozenAt 2
 refine wpList_plain hgd fun K hK =>?_
 unfold Oper.wp execOp
 simp only [ho,hx,hy]
 go_simp
 exact hK _ _ (h _ (zAF hg 2 _) (hown.stored 2 _).2)
theorem zDg (r:Rc) (A:Option Addr) (n c:Nat) (l:List Dp) (hA:A=none→c=0) (hn:n≤1000000) (w:World) (h:zAE w w.heap.size 3 A n (dps l)) :
  Calls Tryz.prog 59 #[rcv r A n c] w fun e w' =>∃ A' c',e=.returned (rcv r A' n c')∧Deps w' w.heap.size A' n c' l∧Below w.heap.size w w':=by
 obtain ⟨i0,hi0,hz0,hz1,hz2⟩:=info_parts (show (Tryz.prog.info? 77).map (fun i =>(i.zero,i.size,i.bytes))=some (some (.agg #[.string ⟨#[]⟩,.int .u64 0,.bool false]),3,32) from by kernel_rfl)
 unfold rcv rsv
 obtain ⟨ha0,ha1,hsz⟩:=zFn w (.cells #[.int .i64 r.kind,.string (tx r.target),.int .u64 r.rule,.slice A n c,.int .u64 r.out,.int .u64 r.time,.string (tx r.tag)] 46) (.cells #[.int .i64 0,.string ⟨#[]⟩,.int .u64 0,.slice none 0 0,.int .u64 0,.int .u64 0,.string ⟨#[]⟩] 46)
 have hr:=(h.alloc (Nat.le_refl _) (.cells #[.int .i64 r.kind,.string (tx r.target),.int .u64 r.rule,.slice A n c,.int .u64 r.out,.int .u64 r.time,.string (tx r.tag)] 46)).alloc (by simp) (.cells #[.int .i64 0,.string ⟨#[]⟩,.int .u64 0,.slice none 0 0,.int .u64 0,.int .u64 0,.string ⟨#[]⟩] 46)
 have hb:=(((Below.refl w.heap.size w).alloc (Nat.le_refl _) (.cells #[.int .i64 r.kind,.string (tx r.target),.int .u64 r.rule,.slice A n c,.int .u64 r.out,.int .u64 r.time,.string (tx r.tag)] 46)).alloc (by simp) (.cells #[.int .i64 0,.string ⟨#[]⟩,.int .u64 0,.slice none 0 0,.int .u64 0,.int .u64 0,.string ⟨#[]⟩] 46))
 have HR:=yh hr
 have HB:=yh hb
 have HA0:=yh ha0
 have HA1:=yh ha1
 have HSZ:=yh hsz
 clear h hr hb ha0 ha1 hsz
 go_enter Tryz.func59,Tryz.ntmps59
 go_wp2_with (at_builtin;refine zBA _ rfl (.const (.slice none 0 0)) (.tmp 4) 44 rfl (w.heap.size+2) 77 i0 _ 3 32 Tryz.underlying44 hi0 hz0 hz1 hz2 rfl (by decide) (.slice none 0 0) 0 [] rfl (World.ownsRow_nil _ _ _ _) A n c w.heap.size (dps l) rfl hA HR.out (zHE l) (by unfold maxLen;omega) (by omega) (by rw [HSZ.out];exact Nat.le_refl _) ?_;intro v1 w1 ho1 hg1;rw [Nat.zero_add,List.nil_append] at ho1;obtain ⟨A1,c1,rfl,hc1⟩:=zAM ho1;have hh0:=(hg1.block w.heap.size (by rw [HSZ.out];omega) (by simp [Value.ownBlock])).trans HA0.out;have hh1:=(hg1.block (w.heap.size+1) (by rw [HSZ.out];omega) (by simp [Value.ownBlock])).trans HA1.out;have HB1:=yh (HB.out.grown hg1 (by rw [HSZ.out];omega) (by simp [Value.ownBlock]));have HO1:=yh ho1;have q0:=zAA (i:=0) hh0 rfl;have q1:=zAA (i:=1) hh0 rfl;have q2:=zAA (i:=2) hh0 rfl;have q3:=zAA (i:=3) hh0 rfl;have q4:=zAA (i:=4) hh0 rfl;have q5:=zAA (i:=5) hh0 rfl;have q6:=zAA (i:=6) hh0 rfl;have p0:=zAA (i:=0) hh1 rfl;have p1:=zAA (i:=1) hh1 rfl;have p2:=zAA (i:=2) hh1 rfl;have p3:=zAA (i:=3) hh1 rfl;have p4:=zAA (i:=4) hh1 rfl;have p5:=zAA (i:=5) hh1 rfl;have p6:=zAA (i:=6) hh1 rfl;have z3:=zAC (i:=3) hh0;have y0:=zAC (i:=0) hh1;have y1:=zAC (i:=1) hh1;have y2:=zAC (i:=2) hh1;have y3:=zAC (i:=3) hh1;have y4:=zAC (i:=4) hh1;have y5:=zAC (i:=5) hh1;have y6:=zAC (i:=6) hh1;have HH0:=yh hh0;have HH1:=yh hh1;clear hh0 hh1 ho1 hg1)
 have hfin:=zAF (zAF (zAF (zAF (zAF (zAF (zAF ((Below.heap_setCell w1 ⟨w.heap.size,3,none⟩ (.slice A1 n c1) (w.heap.size+1) (by show w.heap.size+1≠w.heap.size;omega)).trans HH1.out) 0 (.int .i64 r.kind)) 1 (.string (tx r.target))) 2 (.int .u64 r.rule)) 3 (.slice A1 n c1)) 4 (.int .u64 r.out)) 5 (.int .u64 r.time)) 6 (.string (tx r.tag))
 refine bodyPost_ret (results_cell_row rfl _ _ _ _ _ _ _ rfl hfin Tryz.underlying46 rfl (by kernel_rfl)) rfl ?_
 refine ⟨A1,c1,rfl,⟨zAV ?_ (show w.heap.size≤w.heap.size+2 by omega),hc1⟩,?_⟩
 ·exact ownsRow_setCell_below (ownsRow_setCell_below (ownsRow_setCell_below (ownsRow_setCell_below (ownsRow_setCell_below (ownsRow_setCell_below (ownsRow_setCell_below (ownsRow_setCell_below HO1.out (show w.heap.size<w.heap.size+2 by omega) _) (show w.heap.size+1<w.heap.size+2 by omega) _) (show w.heap.size+1<w.heap.size+2 by omega) _) (show w.heap.size+1<w.heap.size+2 by omega) _) (show w.heap.size+1<w.heap.size+2 by omega) _) (show w.heap.size+1<w.heap.size+2 by omega) _) (show w.heap.size+1<w.heap.size+2 by omega) _) (show w.heap.size+1<w.heap.size+2 by omega) _
 ·exact (((((((HB1.out.setCell (show w.heap.size≤w.heap.size by omega) _).setCell (show w.heap.size≤w.heap.size+1 by omega) _).setCell (show w.heap.size≤w.heap.size+1 by omega) _).setCell (show w.heap.size≤w.heap.size+1 by omega) _).setCell (show w.heap.size≤w.heap.size+1 by omega) _).setCell (show w.heap.size≤w.heap.size+1 by omega) _).setCell (show w.heap.size≤w.heap.size+1 by omega) _).setCell (show w.heap.size≤w.heap.size+1 by omega) _
end Go.Proofs.YtfbgmehicmpdiaaGreatDoor
