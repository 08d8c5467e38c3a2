/- Texts of one proof. -/
import Derived.Test.YtoclafdidjpndaaDoorMx26
import Derived.Test.YtoclafdidjpndaaDoorMx30
import Derived.Test.YtoclafdidjpndaaDoorMx32
set_option maxRecDepth 100000
set_option maxHeartbeats 8000000
namespace Go.Proofs.YtoclafdidjpndaaDoor
open Go.RowKit
theorem zHb (A:Option Addr) (n c x0 x1 y:Nat) (xs:List Rw) (hn:n≤maxLen) (hf:∀ x ∈ xs,Fits x.r x.l∧x.n≤maxLen) (w:World) (hl:Laid w) (h:Recs w w.heap.size A n xs) (sm:¬ zBE xs∨n=0) :
  Calls Tryd.prog 4 #[.slice A n c,.agg #[.int .u16 (x0:Int),.int .u16 (x1:Int)],.int .u32 (y:Int)] w fun e w' =>e=.returned (.bool true)∧Below w.heap.size w w':=by
 have HFX:Hid (∀ W,Below w.heap.size w W→Calls Tryd.prog 6 #[] W fun e w' =>e=.returned (.bool true)∧Below W.heap.size W w'):=fun W hb =>zBh W (hl.below hb)
 have HRDH:Hid (∀ W,Below w.heap.size w W→Recs W W.heap.size A n xs):=fun W hb =>(h.below hb).more hb.size
 have HB0:Hid (Below w.heap.size w (w.alloc (.cells #[.int .u16 (x0:Int),.int .u16 (x1:Int)] 37))):=(Below.refl _ w).alloc (Nat.le_refl _) _
 have HG:Hid (∀ W,Below w.heap.size w W→Calls Tryd.prog 5 #[.slice A n c] W fun e w' =>zAl (¬ zBE xs) e∧Below W.heap.size W w'):=fun W hb =>zBj A n c xs hn hf W (HRDH.out W hb)
 clear h hf hl hn
 by_cases hsm:zBE xs
 ·obtain rfl:n=0:=by rcases sm with h | h;exact absurd hsm h;exact h
  have SM:=yh hsm
  clear sm hsm
  go_enter Tryd.func4,Tryd.ntmps4
  go_wp2_with (first
   | (go_at_call 6;have hk:=HB2.out.size;refine (HFX.out _ HB2.out).mono ?_;rintro e w3 ⟨rfl,hb3⟩;have HB3:=yh (HB2.out.trans (hb3.mono HB2.out.size));clear hb3)
   | (go_at_call 5;refine (HG.out _ HB0.out).mono ?_;rintro e w2 ⟨he,hb2⟩;obtain rfl:=he.no (fun h =>h SM.out);have HB2:=yh (HB0.out.trans (hb2.mono HB0.out.size));clear hb2))
  go_ret
  exact ⟨rfl,HB3.out⟩
 ·have SM:=yh hsm
  clear sm hsm
  go_enter Tryd.func4,Tryd.ntmps4
  go_wp2_with (first
   | (go_at_call 6;have hk:=HB2.out.size;refine (HFX.out _ HB2.out).mono ?_;rintro e w3 ⟨rfl,hb3⟩;have HB3:=yh (HB2.out.trans (hb3.mono HB2.out.size));clear hb3)
   | (go_at_call 5;refine (HG.out _ HB0.out).mono ?_;rintro e w2 ⟨he,hb2⟩;obtain rfl:=he.yes SM.out;have HB2:=yh (HB0.out.trans (hb2.mono HB0.out.size));clear hb2))
  go_ret
  exact ⟨rfl,HB3.out⟩
theorem zIu (en:Int) (hen:en≠0) (A:Option Addr) (n c x0 x1 y:Nat) (hn0:0<n) (xs:List Rw) (hn:n≤maxLen) (hf:∀ x ∈ xs,Fits x.r x.l∧x.n≤maxLen) (w:World) (hl:Laid w) (h:Recs w w.heap.size A n xs) (sm:zBE xs)
  (HP:Hid (∀ W,Below w.heap.size w W→Calls Tryd.prog 7 #[.int .i64 3,.slice A n c] W fun e w' =>e=.returned (.tuple #[.slice none 0 0,.int .i64 en])∧Below W.heap.size W w')) :
  Calls Tryd.prog 4 #[.slice A n c,.agg #[.int .u16 (x0:Int),.int .u16 (x1:Int)],.int .u32 (y:Int)] w fun e w' =>e=.returned (.bool true)∧Below w.heap.size w w':=by
 have HFX:Hid (∀ W,Below w.heap.size w W→Calls Tryd.prog 6 #[] W fun e w' =>e=.returned (.bool true)∧Below W.heap.size W w'):=fun W hb =>zBh W (hl.below hb)
 have HRDH:Hid (∀ W,Below w.heap.size w W→Recs W W.heap.size A n xs):=fun W hb =>(h.below hb).more hb.size
 have HB0:Hid (Below w.heap.size w (w.alloc (.cells #[.int .u16 (x0:Int),.int .u16 (x1:Int)] 37))):=(Below.refl _ w).alloc (Nat.le_refl _) _
 have HG:Hid (∀ W,Below w.heap.size w W→Calls Tryd.prog 5 #[.slice A n c] W fun e w' =>zAl (¬ zBE xs) e∧Below W.heap.size W w'):=fun W hb =>zBj A n c xs hn hf W (HRDH.out W hb)
 have hen2:(en == 0)=false:=by simpa using hen
 have hz:((n:Int) == 0)=false:=by rw [beq_eq_false_iff_ne];omega
 have SM:=yh sm
 clear h hf hl hn sm hn0
 go_enter Tryd.func4,Tryd.ntmps4
 go_wp2_with (first
  | (go_at_call 6;have hk:=HB3.out.size;refine (HFX.out _ HB3.out).mono ?_;rintro e w5 ⟨rfl,hb5⟩;have HB5:=yh (HB3.out.trans (hb5.mono HB3.out.size));clear hb5)
  | (go_at_call 7;have hk:=HB2.out.size;refine (HP.out _ HB2.out).mono ?_;rintro e w3 ⟨rfl,hb3⟩;have HB3:=yh (HB2.out.trans (hb3.mono HB2.out.size));clear hb3)
  | (go_at_call 5;refine (HG.out _ HB0.out).mono ?_;rintro e w2 ⟨he,hb2⟩;obtain rfl:=he.no (fun h =>h SM.out);have HB2:=yh (HB0.out.trans (hb2.mono HB0.out.size));clear hb2))
 go_ret
 exact ⟨rfl,HB5.out⟩
def zNg (w:World) (g bx K cap n f0 first:Nat) (E:Value) (cells:Array Value) (ends:List Value) (pre tail p:List UInt8) (turned idx:Value) (wr:World):Prop :=
 ∃ (i q:Nat) (c:List UInt8),i≤32∧idx=.int .i64 (i:Int)∧turned=.bool (decide (q≠0))∧wr.ownsRow w.heap.size 5 1 (.slice (some ⟨g,0,none⟩) K cap) K ((pre++(c++tail)).map bv) ∧
  zBJ (fr p) c first i q∧c.take f0=vb p.length∧(q=0→c=fr p)∧wr.ownsRow w.heap.size 3 1 E n ends∧wr.heap[bx]? = some (.cells cells 32)∧Below w.heap.size w wr
theorem zIf (A:Option Addr) (n c x0 x1 y k N PL FL f0:Nat) (hx0:x0<65536) (hx1:x1<65536) (hy:y<4294967296) (hn0:0<n) (hn30:n≤30) (hk:k=x0 % n) (xs:List Rw) (pre tail p:List UInt8) (w:World)
  (hPL:PL=pre.length) (hFL:FL=(fr p).length) (hf0:f0=(vb p.length).length) (hFL2:f0+5≤FL) (hN:N=PL+FL+tail.length) (hNb:N≤1200000) (hek:eo ((3:Nat):Int) xs (k+1)=PL+FL) (heN:eo ((3:Nat):Int) xs n=N) (hc:n≤c) (hAN:A=none→c=0)
  (HGR:Hid (∀ W,Below w.heap.size w W→Calls Tryd.prog 5 #[.slice A n c] W fun e w' =>e=.returned (.bool false)∧Below W.heap.size W w'))
  (HPUT:Hid (∀ W,Below w.heap.size w W→Calls Tryd.prog 7 #[.int .i64 3,.slice A n c] W fun e w' =>(∃ u,e=.returned (.tuple #[u,.int .i64 0])∧w'.ownsRow W.heap.size 5 1 u N ((pre++(fr p++tail)).map bv))∧Below W.heap.size W w'))
  (HGET:Hid (∀ W,Below w.heap.size w W→∀ A1 c1,N≤c1→zAD W W.heap.size 1 A1 N ((pre++(fr p++tail)).map bv)→Calls Tryd.prog 8 #[.slice A1 N c1] W (zCB 3 xs n W)))
  (HGT:Hid (∀ (cs:List UInt8) (q:Nat),zBJ (fr p) cs (8 * (FL - 5)+x1 % 40) 32 q→q≠0→cs.take f0=vb p.length→∀ W,Below w.heap.size w W→∀ A1 c1,N≤c1→zAD W W.heap.size 1 A1 N ((pre++(cs++tail)).map bv)→Calls Tryd.prog 8 #[.slice A1 N c1] W (zCB 3 xs k W)))
  (HFX:Hid (∀ W,Below w.heap.size w W→Calls Tryd.prog 6 #[] W fun e w' =>e=.returned (.bool true)∧Below W.heap.size W w'))
  (HRD:Hid (∀ W,Below w.heap.size w W→Recs W W.heap.size A n xs)) :
  Calls Tryd.prog 4 #[.slice A n c,.agg #[.int .u16 (x0:Int),.int .u16 (x1:Int)],.int .u32 (y:Int)] w fun e w' =>e=.returned (.bool true)∧Below w.heap.size w w':=by
 have hkm:k<n:=by rw [hk];exact Nat.mod_lt _ hn0
 have hmod:(x0:Int).tmod (n:Int)=(k:Int):=by rw [Int.tmod_eq_emod_of_nonneg (by omega),hk];simp
 have hw0:IntKind.i64.wrap (x0:Int)=(x0:Int):=by rw [IntKind.wrap_i64];omega
 have hw1:IntKind.i64.wrap (x1:Int)=(x1:Int):=by rw [IntKind.wrap_i64];omega
 have hm0:((n:Int) == 0)=false:=by rw [beq_eq_false_iff_ne];omega
 have hn00:¬ n=0:=by omega
 have HY:=yh hy
 have HAN:=yh hAN
 have HCC:=yh hc
 have HPL:=yh hPL
 have HFL:=yh hFL
 have HF0:=yh hf0
 have HEK:=yh hek
 have HEN:=yh heN
 have HN30:=yh hn30
 have HKM:=yh hkm
 have HNN:=yh hN
 have HFL2:=yh hFL2
 clear hy hAN hc hPL hFL hf0 hek heN hk hN hFL2
 have HB0:Hid (Below w.heap.size w (w.alloc (.cells #[.int .u16 (x0:Int),.int .u16 (x1:Int)] 37))):=(Below.refl _ w).alloc (Nat.le_refl _) _
 have hbx0:=zAG w (.cells #[.int .u16 (x0:Int),.int .u16 (x1:Int)] 37)
 obtain ⟨W0,hW0⟩:∃ W0,W0=w.alloc (.cells #[.int .u16 (x0:Int),.int .u16 (x1:Int)] 37):=⟨_,rfl⟩
 rw [← hW0] at HB0 hbx0
 have HX0:=yh hbx0
 have HW0:=yh hW0
 clear hbx0 hW0
 go_enter Tryd.func4,Tryd.ntmps4
 go_wp2_with fail
 rw [← HW0.out]
 refine (HGR.out _ HB0.out).mono ?_
 rintro e w1 ⟨rfl,hb1⟩
 have HB1:=yh (HB0.out.trans (hb1.mono HB0.out.size))
 have HX1:=yh ((hb1.block w.heap.size (Array.getElem?_eq_some_iff.1 HX0.out).1).trans HX0.out)
 clear hb1
 go_wp2_with fail
 refine (HPUT.out _ HB1.out).mono ?_
 rintro e w2 ⟨⟨u,rfl,ho⟩,hb2⟩
 have hKpos:0<N:=by have:=HNN.out;have:=HFL2.out;omega
 obtain ⟨g,cap,rfl,hgb,hgl⟩:=ho.form hKpos
 have hcap:N≤cap:=by
  obtain ⟨_,⟨h,_⟩ | ⟨g',cap',cur,h,_,_,hle,_⟩⟩:=ho
  ·cases h
  ·cases h
   exact hle
 have HCAP:=yh hcap
 have hgw:w.heap.size≤g:=Nat.le_trans HB1.out.size hgb
 have HB2:=yh (HB1.out.trans (hb2.mono HB1.out.size))
 have HX2:=yh ((hb2.block w.heap.size (Array.getElem?_eq_some_iff.1 HX1.out).1).trans HX1.out)
 have HO2:Hid (w2.ownsRow w.heap.size 5 1 (.slice (some ⟨g,0,none⟩) N cap) N ((pre++(fr p++tail)).map bv)):=zAh ho HB1.out.size
 clear ho hb2 hcap
 go_wp2_with fail
 refine (HGET.out _ HB2.out _ _ HCAP.out (zAD.of_own HO2.out)).mono ?_
 rintro e w3 ⟨⟨A3,E3,c3,d3,zs,rfl,_,_,_,hoe⟩,hb3⟩
 obtain ⟨vI,hvI⟩:∃ vI:Int,vI=((3:Nat):Int):=⟨_,rfl⟩
 rw [HEN.out,← hvI]
 have HVI:=yh hvI
 clear hvI
 have HB3:=yh (HB2.out.trans (hb3.mono HB2.out.size))
 have HX3:=yh ((hb3.block w.heap.size (Array.getElem?_eq_some_iff.1 HX2.out).1).trans HX2.out)
 have HO3:=yh (zAX HO2.out hb3)
 have HOE3:Hid (w3.ownsRow w.heap.size 3 1 (.slice E3 n d3) n ((List.range n).map fun i =>inv (eo ((3:Nat):Int) xs (i+1)))):=zAh hoe HB2.out.size
 obtain ⟨_,_,he,_,hre⟩:=zAe hoe
 cases he
 obtain ⟨ad2,rfl,_,_⟩:=hre.2 hn0
 have hgw3:g<w3.heap.size:=Nat.lt_of_lt_of_le hgl hb3.size
 have hx4:=zAG w3 (.cells #[.int .i64 vI,.slice A3 n c3,.slice (some ad2) n d3,.int .i64 (N:Int)] 32)
 have hb34:=(Below.refl w3.heap.size w3).alloc (Nat.le_refl _) (.cells #[.int .i64 vI,.slice A3 n c3,.slice (some ad2) n d3,.int .i64 (N:Int)] 32)
 obtain ⟨w4,hw4⟩:∃ x,x=w3.alloc (.cells #[.int .i64 vI,.slice A3 n c3,.slice (some ad2) n d3,.int .i64 (N:Int)] 32):=⟨_,rfl⟩
 rw [← hw4] at hx4 hb34
 have HB4:=yh (HB3.out.trans (hb34.mono HB3.out.size))
 have hbx4:=(hb34.block w.heap.size (Array.getElem?_eq_some_iff.1 HX3.out).1).trans HX3.out
 have HO4:=yh (zAX HO3.out hb34)
 have HOE4:=yh (zAX HOE3.out hb34)
 have HX4:=yh hx4
 have HW4:=yh hw4
 have p2:=zAA (i:=2) hx4 rfl
 have hc0:=zAA (i:=0) hbx4 rfl
 have hc1:=zAA (i:=1) hbx4 rfl
 have g2:=p2
 have g0:=hc0
 rw [hw4] at g2 g0
 clear hb3 hoe hre hx4 hb34 hw4 hbx4
 go_wp2_with fail
 rw [← HW4.out]
 clear g2 g0
 obtain ⟨ek,hek⟩:∃ ek,ek=PL+FL:=⟨_,rfl⟩
 have hcEk:w4.cell? (ad2.add k)=some (.int .i64 (ek:Int)):=by
  obtain ⟨_,_,he,_,hre⟩:=zAe HOE4.out
  cases he
  obtain ⟨ad3,u3,e3,_,hu3,h3⟩:=hre.at_ (k:=k) hkm
  cases e3
  rw [List.getElem?_map,List.getElem?_range hkm] at hu3
  have:u3=.int .i64 (ek:Int):=by rw [hek,← HEK.out];simpa [inv] using hu3.symm
  rw [h3,this]
 have hN:=HNN.out
 have hFL2:=HFL2.out
 obtain ⟨s5,hs5⟩:∃ s5,s5=ek - 5:=⟨_,rfl⟩
 obtain ⟨a8,ha8⟩:∃ a8,a8=8 * s5:=⟨_,rfl⟩
 obtain ⟨z,hz⟩:∃ z,z=x1 % 40:=⟨_,rfl⟩
 obtain ⟨first,hfirst⟩:∃ first,first=a8+z:=⟨_,rfl⟩
 have i1:(ek:Int) - 5=(s5:Int):=by omega
 have i3:8 * (s5:Int)=(a8:Int):=by omega
 have i4:(x1:Int).tmod 40=(z:Int):=by rw [Int.tmod_eq_emod_of_nonneg (by omega),hz];simp
 have i5:(a8:Int)+(z:Int)=(first:Int):=by omega
 have hwr:∀ q:Nat,q≤100000000→IntKind.i64.wrap (q:Int)=(q:Int):=fun q h =>by rw [IntKind.wrap_i64];omega
 have q1:=hwr a8 (by omega)
 have q2:=hwr s5 (by omega)
 have q4:=hwr z (by omega)
 have q5:=hwr first (by omega)
 clear hwr
 have hzl:z<40:=by omega
 have hfb:first≤20000000:=by omega
 have hekb:ek≤1200000:=by omega
 have HEQ:Hid (ek=PL+FL∧s5=ek - 5∧a8=8 * s5∧first=a8+z∧z<40∧N=PL+FL+tail.length∧f0+5≤FL∧z=x1 % 40):=⟨hek,hs5,ha8,hfirst,hzl,hN,hFL2,hz⟩
 clear hek hs5 ha8 hz hfirst hzl hN hFL2 hKpos
 have hS:w4.drew=w4.drew:=rfl
 refine wp_region_held (S:=fun W =>W=w4.drew) (by kernel_rfl) ?_
 refine zAB 0 (.pointer (some ⟨w3.heap.size,2,none⟩)) rfl (by kernel_rfl) (by kernel_rfl) (by kernel_rfl) (fun _ _ _ h =>h) (by kernel_rfl) hS (by rintro w' rfl;go_simp) ?_
 refine zAB 1 (.slice (some ad2) n d3) rfl (by kernel_rfl) (by kernel_rfl) (by kernel_rfl) (fun _ _ _ h =>h) (by kernel_rfl) hS (by rintro w' rfl;go_simp) ?_
 refine zAB 2 (.int .i64 (k:Int)) rfl (by kernel_rfl) (by kernel_rfl) (by kernel_rfl) (fun _ _ _ h =>h) (by kernel_rfl) hS (fun _ _ =>by kernel_rfl) ?_
 refine zAB 3 (.pointer (some (ad2.add k))) rfl (by kernel_rfl) (by kernel_rfl) (by kernel_rfl) (fun _ _ _ h =>h) (by kernel_rfl) hS (by rintro w' rfl;go_simp) ?_
 refine zAB 4 (.int .i64 (ek:Int)) rfl (by kernel_rfl) (by kernel_rfl) (by kernel_rfl) (fun _ _ _ h =>h) (by kernel_rfl) hS (by rintro w' rfl;go_simp) ?_
 refine zAB 5 (.int .i64 (s5:Int)) rfl (by kernel_rfl) (by kernel_rfl) (by kernel_rfl) (fun _ _ _ h =>h) (by kernel_rfl) hS (by rintro w' rfl;go_simp) ?_
 refine zAB 6 (.int .i64 (a8:Int)) rfl (by kernel_rfl) (by kernel_rfl) (by kernel_rfl) (fun _ _ _ h =>h) (by kernel_rfl) hS (by rintro w' rfl;go_simp) ?_
 refine zAB 7 (.pointer (some ⟨w.heap.size,1,none⟩)) rfl (by kernel_rfl) (by kernel_rfl) (by kernel_rfl) (fun _ _ _ h =>h) (by kernel_rfl) hS (by rintro w' rfl;go_simp) ?_
 refine zAB 8 (.int .u16 (x1:Int)) rfl (by kernel_rfl) (by kernel_rfl) (by kernel_rfl) (fun _ _ _ h =>h) (by kernel_rfl) hS (by rintro w' rfl;go_simp) ?_
 refine zAB 9 (.int .i64 (x1:Int)) rfl (by kernel_rfl) (by kernel_rfl) (by kernel_rfl) (fun _ _ _ h =>h) (by kernel_rfl) hS (by rintro w' rfl;go_simp) ?_
 refine zAB 10 (.int .i64 (z:Int)) rfl (by kernel_rfl) (by kernel_rfl) (by kernel_rfl) (fun _ _ _ h =>h) (by kernel_rfl) hS (by rintro w' rfl;go_simp) ?_
 refine zAB 11 (.int .i64 (first:Int)) rfl (by kernel_rfl) (by kernel_rfl) (by kernel_rfl) (fun _ _ _ h =>h) (by kernel_rfl) hS (by rintro w' rfl;go_simp) ?_
 refine zAB 12 (.int .i64 (first:Int)) rfl (by kernel_rfl) (by kernel_rfl) (by kernel_rfl) (fun _ _ _ h =>h) (by kernel_rfl) hS (fun _ _ =>by kernel_rfl) ?_
 refine wpAnyH_done (by kernel_rfl) ?_ _
 go_simp
 clear i1 i3 i4 i5 q1 q2 q4 q5 hw0 hw1 hmod hc0 hc1 p2 hcEk
 obtain ⟨E,hE⟩:∃ E,E=Value.slice (some ad2) n d3:=⟨_,rfl⟩
 have HEV:=yh hE
 obtain ⟨ends,hends⟩:∃ ends:List Value,ends=(List.range n).map fun i =>inv (eo ((3:Nat):Int) xs (i+1)):=⟨_,rfl⟩
 have HCe:Hid (ends[k]? = some (.int .i64 (ek:Int))):=by
  show _=_
  rw [hends,List.getElem?_map,List.getElem?_range hkm]
  show some (inv (eo ((3:Nat):Int) xs (k+1)))=_
  rw [HEK.out,← HEQ.out.1];rfl
 have HOE5:Hid (w4.ownsRow w.heap.size 3 1 E n ends):=by rw [hE,hends];exact HOE4.out
 clear hE hends HOE4
 go_wp2_with fail
 go_loopw [13,67] (fun tv idx wr =>zNg w g w3.heap.size N cap n f0 (8 * (FL - 5)+z) E #[.int .i64 vI,.slice A3 n c3,.slice (some ad2) n d3,.int .i64 (N:Int)] ends pre tail p tv idx wr) (fun _ idx wr =>32 - (intOf idx).toNat)
 case atStart =>exact ⟨0,0,fr p,by omega,rfl,rfl,HO4.out.drew,zBJ.start _ _,by rw [HF0.out];exact zKD p,fun _ =>rfl,HOE5.out.drew,HX4.out,HB4.out.drew⟩
 case round =>
  obtain ⟨i,q,cs,hi,rfl,rfl,ho,ht,hpre,hkeep,hoE,hbox,hb⟩:=hrel
  have HT:=yh ht
  have HPRF:=yh hpre
  have HKEEP:=yh hkeep
  have HOE:=yh hoE
  have HBOX:=yh hbox
  have hlen:(pre++(cs++tail)).length=N:=by
   rw [List.length_append,List.length_append,ht.1,← HPL.out,← HFL.out]
   have:=HEQ.out
   omega
  have HLEN:=yh hlen
  by_cases hi32:i<32
  ·have p2:=zAA (i:=2) hbox rfl
   have hcE2:wr.cell? (ad2.add k)=some (.int .i64 (ek:Int)):=by
    obtain ⟨A',c',e',_,hr'⟩:=zAe hoE
    rw [HEV.out] at e'
    injection e' with e1' e2' e3'
    subst e1'
    obtain ⟨ad3,u3,e3,_,hu3,h3⟩:=hr'.at_ (k:=k) hkm
    cases e3
    rw [HCe.out] at hu3
    rw [h3]
    exact hu3.symm
   obtain ⟨pos,hpos'⟩:∃ pos,pos=first+i:=⟨_,rfl⟩
   have j1:(first:Int)+(i:Int)=(pos:Int):=by omega
   have hposb:pos≤20000032:=by omega
   obtain ⟨t,ht1⟩:∃ t,t=y / 2 ^ i % 2:=⟨_,rfl⟩
   have j2:bits .and .u32 ((y:Int) / 2 ^ i) 1=(t:Int):=zMq y i t HY.out ht1
   have t2:t=0∨t=1:=by omega
   obtain ⟨e8,he8⟩:∃ e8,e8=8 * ek:=⟨_,rfl⟩
   have j3:8 * (ek:Int)=(e8:Int):=by omega
   have he8b:e8≤10000000:=by omega
   have HPOS:=yh hpos'
   have HE8:=yh he8
   clear hpos' ht1 ht hpre hkeep hoE hbox he8 hlen
   by_cases htk:t=1∧pos<e8
   ·obtain ⟨rfl,hple⟩:=htk
    obtain ⟨ib,hib⟩:∃ ib,ib=pos / 8:=⟨_,rfl⟩
    obtain ⟨b8,hb8⟩:∃ b8,b8=pos % 8:=⟨_,rfl⟩
    have j4:(pos:Int) / 8=(ib:Int):=by omega
    have j5:(pos:Int) % 8=(b8:Int):=by omega
    have hEQ:=HEQ.out
    have hE8:=HE8.out
    have hPOS:=HPOS.out
    have hiK:ib<N:=by omega
    have hb8':b8<8:=by omega
    obtain ⟨jc,hjc⟩:∃ jc,jc=ib - PL:=⟨_,rfl⟩
    have hclen:cs.length=FL:=by rw [HT.out.1,← HFL.out]
    have hjcl:jc<cs.length:=by omega
    have hidx:ib=pre.length+jc:=by rw [← HPL.out];omega
    have hrow:(pre++(cs++tail))[ib]? = some cs[jc]:=by rw [hidx];exact zNQ hjcl
    have hcellb:wr.cell? ⟨g,ib,none⟩=some (.int .u8 (cs[jc].toNat:Int)):=by
     rw [ho.cellAt ib (by omega),List.getElem?_map,hrow]
     rfl
    have hfz:wr.frozen? ⟨g,ib,none⟩=false:=ho.frozenAt ib
    obtain ⟨xo,hxo⟩:∃ xo,xo=cs[jc].toNat:=⟨_,rfl⟩
    rw [← hxo] at hcellb
    have HXO:=yh hxo
    have HO:=yh ho
    have HI:=yh (And.intro hib (And.intro hb8 (And.intro hjc hidx)))
    clear hxo ho hib hb8 hjc hidx hrow hEQ hE8 hPOS hclen
    go_wp2_with fail
    have hp:=HPOS.out
    obtain ⟨hib,hb8,hjc,hidx⟩:=HI.out
    have hEQ:=HEQ.out
    have hE8:=HE8.out
    have hst:=HO.out.stored ib (bv (cs[jc] ^^^ UInt8.ofNat (2 ^ b8)))
    have hset:((pre++(cs++tail)).map bv).set ib (bv (cs[jc] ^^^ UInt8.ofNat (2 ^ b8)))=(pre++(cs.set jc (cs[jc] ^^^ UInt8.ofNat (2 ^ b8))++tail)).map bv:=by
     rw [← List.map_set,hidx,zMI hjcl]
    have hv:bv (cs[jc] ^^^ UInt8.ofNat (2 ^ b8))=.int .u8 (bits .xor .u8 (xo:Int) (2 ^ b8 % 256)):=by rw [HXO.out];exact zKq _ b8 hb8'
    have hx:=zKp cs[jc] b8 hb8'
    rw [hset] at hst
    have hgr:=hb.grown hst.2 hb.size (by intro g' hg';injection hg' with hg';omega)
    have hoE2:=zCE (v1:=.slice (some ⟨g,0,none⟩) N cap) HO.out HOE.out (by decide) hst.2
    have hbox2:=(hst.2.block w3.heap.size (Array.getElem?_eq_some_iff.1 HBOX.out).1 (by intro e;injection e with e;omega)).trans HBOX.out
    rw [hv] at hst hgr hoE2 hbox2
    refine ⟨⟨i+1,q+2 ^ i,cs.set jc (cs[jc] ^^^ UInt8.ofNat (2 ^ b8)),by omega,by go_num,?_,hst.1,?_,?_,?_,hoE2,hbox2,hgr⟩,by simp [intOf];omega⟩
    ·have:0<2 ^ i:=Nat.two_pow_pos i
     rw [decide_eq_true (by omega)]
    ·have e1:jc=(8 * (FL - 5)+z+i) / 8:=by omega
     have e2:b8=(8 * (FL - 5)+z+i) % 8:=by omega
     subst e1
     subst e2
     exact HT.out.turn hi32 (by rw [← HFL.out];omega) _ hjcl hx
    ·rw [take_set (by omega)]
     exact HPRF.out
    ·intro h0
     have:0<2 ^ i:=Nat.two_pow_pos i
     omega
   ·have hkeep:=HT.out.keep
    have HK:=yh hkeep
    have HO:=yh ho
    clear hkeep ho
    rcases t2 with rfl | rfl
    ·go_wp2_with fail
     exact ⟨⟨i+1,q,cs,by omega,by go_num,rfl,HO.out,HK.out,HPRF.out,HKEEP.out,HOE.out,HBOX.out,hb⟩,by simp [intOf];omega⟩
    ·have hple:¬ pos<e8:=fun h =>htk ⟨rfl,h⟩
     clear htk
     go_wp2_with fail
     exact ⟨⟨i+1,q,cs,by omega,by go_num,rfl,HO.out,HK.out,HPRF.out,HKEEP.out,HOE.out,HBOX.out,hb⟩,by simp [intOf];omega⟩
  ·obtain rfl:i=32:=by omega
   have hrd:=zAD.of_own ho
   have HBW:=yh hb
   by_cases hq0:q=0
   ·subst hq0
    rw [hkeep rfl] at hrd
    have HRN:=yh (HGET.out wr hb _ _ HCAP.out hrd)
    clear hb hrd ho ht hpre hkeep hoE hbox HT HPRF HKEEP HOE HBOX hlen HLEN
    go_wp2_with fail
    refine HRN.out.mono ?_
    rintro e w5 ⟨⟨A5,E5,c5,d5,zs5,rfl,_,_,_,_⟩,hb5⟩
    rw [HEN.out,← HVI.out]
    have HB5:=yh (HBW.out.trans (hb5.mono HBW.out.size))
    have hx6:=zAG w5 (.cells #[.int .i64 vI,.slice A5 n c5,.slice E5 n d5,.int .i64 (N:Int)] 32)
    have hb56:=(Below.refl w5.heap.size w5).alloc (Nat.le_refl _) (.cells #[.int .i64 vI,.slice A5 n c5,.slice E5 n d5,.int .i64 (N:Int)] 32)
    obtain ⟨w6,hw6⟩:∃ x,x=w5.alloc (.cells #[.int .i64 vI,.slice A5 n c5,.slice E5 n d5,.int .i64 (N:Int)] 32):=⟨_,rfl⟩
    rw [← hw6] at hx6 hb56
    have HB6:=yh (HB5.out.trans (hb56.mono HB5.out.size))
    have HX6:=yh hx6
    have HW6:=yh hw6
    clear hb5 hx6 hb56 hw6
    go_wp2_with fail
    rw [← HW6.out]
    refine (HFX.out _ HB6.out).mono ?_
    rintro e w7 ⟨rfl,hb7⟩
    have r1:=zAA (i:=1) ((hb7.block w5.heap.size (Array.getElem?_eq_some_iff.1 HX6.out).1).trans HX6.out) rfl
    go_wp2
    go_ret
    exact ⟨rfl,HB6.out.trans (hb7.mono HB6.out.size)⟩
   ·have HRN:=yh (HGT.out cs q (by rw [← HEQ.out.2.2.2.2.2.2.2];exact ht) hq0 hpre wr hb _ _ HCAP.out hrd)
    have hqt:decide (q≠0)=true:=by rw [decide_eq_true_iff];exact hq0
    rw [hqt]
    have hsl:∀ W:World,(Instr.sliceAt 22 (.slice A n c) none (some (.int .i64 (k:Int))) none).run Tryd.prog W=.ok (.slice A k c) W:=fun W =>by
     have hk0:(0:Int)≤(k:Int):=by omega
     have hcc:=HCC.out
     have hkc:(k:Int)≤(c:Int):=by omega
     cases A with
     | none =>
      have hc0:=HAN.out rfl
      omega
     | some ad =>go_simp
    have HSL:=yh hsl
    clear hb hrd ho ht hpre hkeep hoE hbox HT HPRF HKEEP HOE HBOX hlen HLEN hq0 hqt hsl
    go_wp2_with fail
    refine HRN.out.mono ?_
    rintro e w5 ⟨⟨A5,E5,c5,d5,zs5,rfl,hsay,hzn,hrc,_⟩,hb5⟩
    obtain ⟨G,hG⟩:∃ G,G=eo ((3:Nat):Int) xs k:=⟨_,rfl⟩
    rw [← hG,← HVI.out]
    have HB5:=yh (HBW.out.trans (hb5.mono HBW.out.size))
    have hx6:=zAG w5 (.cells #[.int .i64 vI,.slice A5 k c5,.slice E5 k d5,.int .i64 (G:Int)] 32)
    have hb56:=(Below.refl w5.heap.size w5).alloc (Nat.le_refl _) (.cells #[.int .i64 vI,.slice A5 k c5,.slice E5 k d5,.int .i64 (G:Int)] 32)
    obtain ⟨w6,hw6⟩:∃ x,x=w5.alloc (.cells #[.int .i64 vI,.slice A5 k c5,.slice E5 k d5,.int .i64 (G:Int)] 32):=⟨_,rfl⟩
    rw [← hw6] at hx6 hb56
    have HB6:=yh (HB5.out.trans (hb56.mono HB5.out.size))
    have HRC:=yh ((hrc.below hb56).more hb56.size)
    have HSAY:=yh hsay
    have HZN:=yh hzn
    have HLT:Hid (w5.heap.size<w6.heap.size):=(Array.getElem?_eq_some_iff.1 hx6).1
    have q1:=zAA (i:=1) hx6 rfl
    have HW6:=yh hw6
    clear hb5 hx6 hb56 hw6 hsay hzn hrc hG
    go_wp2_with fail
    rw [← HW6.out]
    refine wp_region_held (S:=fun v =>∀ j:Nat,j<w6.heap.size→v.heap[j]? = w6.heap[j]?) (by kernel_rfl) (show wpAnyH _ _ _ _ _ _ _ _ (w6.drew) from ?_)
    have ONLY:Hid (∀ j:Nat,j<w6.heap.size→w6.drew.heap[j]? = w6.heap[j]?):=fun _ _ =>rfl
    have HD:Hid (Below w.heap.size w w6.drew):=HB6.out.drew
    have HD6:Hid (Below w6.heap.size w6 w6.drew):=(Below.refl _ _).drew
    have HSZ0:Hid (w6.heap.size≤w6.drew.heap.size):=Nat.le_refl _
    obtain ⟨W1,hW1⟩:∃ x,x=w6.drew:=⟨_,rfl⟩
    rw [← hW1] at ONLY HD HD6 HSZ0 ⊢
    clear hW1
    refine zAS 0 rfl (by kernel_rfl) (by kernel_rfl) (fun K hK =>?_)
    go_simp
    refine (HFX.out W1 HD.out).mono ?_
    rintro e w7 ⟨rfl,hb7⟩
    have ONLY7:Hid (∀ j:Nat,j<w6.heap.size→w7.heap[j]? = w6.heap[j]?):=fun j h1 =>(hb7.block j (Nat.lt_of_lt_of_le h1 HSZ0.out)).trans (ONLY.out j h1)
    have HB7:=yh (HD.out.trans (hb7.mono HD.out.size))
    have HBQ:Hid (Below w6.heap.size w6 w7):=HD6.out.trans (hb7.mono HSZ0.out)
    have HSZ7:Hid (w6.heap.size≤w7.heap.size):=Nat.le_trans HSZ0.out hb7.size
    clear hb7
    refine hK _ _ ONLY7.out ?_
    clear hK K
    refine zAB 1 (.bool true) rfl (by kernel_rfl) (by kernel_rfl) (by kernel_rfl) (fun _ _ _ h =>h) (by kernel_rfl) ONLY7.out (fun _ _ =>by kernel_rfl) ?_
    refine zAB 2 (.int .i64 0) rfl (by kernel_rfl) (by kernel_rfl) (by kernel_rfl) (fun _ _ _ h =>h) (by kernel_rfl) ONLY7.out (fun _ _ =>by kernel_rfl) ?_
    refine zAB 3 (.bool true) rfl (by kernel_rfl) (by kernel_rfl) (by kernel_rfl) (fun _ _ _ h =>h) (by kernel_rfl) ONLY7.out (by intro v1 hv;go_simp) ?_
    refine zAB 4 (.bool true) rfl (by kernel_rfl) (by kernel_rfl) (by kernel_rfl) (fun _ _ _ h =>h) (by kernel_rfl) ONLY7.out (fun _ _ =>by kernel_rfl) ?_
    refine zAB 5 (.bool true) rfl (by kernel_rfl) (by kernel_rfl) (by kernel_rfl) (fun _ _ _ h =>h) (by kernel_rfl) ONLY7.out (fun _ _ =>by kernel_rfl) ?_
    refine zAB 6 (.pointer (some ⟨w5.heap.size,1,none⟩)) rfl (by kernel_rfl) (by kernel_rfl) (by kernel_rfl) (fun _ _ _ h =>h) (by kernel_rfl) ONLY7.out (fun _ _ =>by kernel_rfl) ?_
    refine zAB 7 (.slice A5 k c5) rfl (by kernel_rfl) (by kernel_rfl) (by kernel_rfl) (fun _ _ _ h =>h) (by kernel_rfl) ONLY7.out (by intro v1 hv;have q:=(zBq hv HLT.out).trans q1;go_simp) ?_
    refine zAB 8 (.slice A n c) rfl (by kernel_rfl) (by kernel_rfl) (by kernel_rfl) (fun _ _ _ h =>h) (by kernel_rfl) ONLY7.out (fun _ _ =>by kernel_rfl) ?_
    refine zAB 9 (.int .i64 (k:Int)) rfl (by kernel_rfl) (by kernel_rfl) (by kernel_rfl) (fun _ _ _ h =>h) (by kernel_rfl) ONLY7.out (fun _ _ =>by kernel_rfl) ?_
    refine zAB 10 (.slice A k c) rfl (by kernel_rfl) (by kernel_rfl) (by kernel_rfl) (fun _ _ _ h =>h) (by kernel_rfl) ONLY7.out (by intro v1 hv;have z1:=HSL.out v1;go_simp) ?_
    refine zAS 11 rfl (by kernel_rfl) (by kernel_rfl) (fun K hK =>?_)
    go_simp
    have hbq:=HBQ.out
    refine (zEe A5 A k k c5 c zs5 (xs.take k) (by have:=HKM.out;have:=HN30.out;unfold maxLen;omega) (by have:=HKM.out;have:=HN30.out;unfold maxLen;omega) HZN.out w7 ((HRC.out.below hbq).more hbq.size) (zDd (HRD.out w7 HB7.out) (Nat.le_of_lt HKM.out))).mono ?_
    rintro e w8 ⟨he,hb8⟩
    obtain rfl:=he.yes HSAY.out
    have ONLY8:Hid (∀ j:Nat,j<w6.heap.size→w8.heap[j]? = w6.heap[j]?):=fun j h1 =>(hb8.block j (Nat.lt_of_lt_of_le h1 HSZ7.out)).trans (ONLY7.out j h1)
    have HB8:=yh (HB7.out.trans (hb8.mono HB7.out.size))
    clear hb8 he
    refine hK _ _ ONLY8.out ?_
    clear hK K
    refine zAB 12 (.bool true) rfl (by kernel_rfl) (by kernel_rfl) (by kernel_rfl) (fun _ _ _ h =>h) (by kernel_rfl) ONLY8.out (fun _ _ =>by kernel_rfl) ?_
    refine zAB 13 (.bool true) rfl (by kernel_rfl) (by kernel_rfl) (by kernel_rfl) (fun _ _ _ h =>h) (by kernel_rfl) ONLY8.out (fun _ _ =>by kernel_rfl) ?_
    refine wpAnyH_done (by kernel_rfl) ?_ _
    go_simp
    go_wp2
    go_ret
    exact ⟨rfl,HB8.out⟩
theorem zJi (A:Option Addr) (n c x0 x1 y:Nat) (hx0:x0<65536) (hx1:x1<65536) (hy:y<4294967296) (hc:n≤c) (hA:A=none→c=0) (xs:List Rw) (hn:n≤maxLen) (hf:∀ x ∈ xs,(Fits x.r x.l∧x.n≤maxLen)∧Nums x.r x.l) (w:World) (hl:Laid w) (h:Recs w w.heap.size A n xs) :
  Calls Tryd.prog 4 #[.slice A n c,.agg #[.int .u16 (x0:Int),.int .u16 (x1:Int)],.int .u32 (y:Int)] w fun e w' =>e=.returned (.bool true)∧Below w.heap.size w w':=by
 by_cases sm:zBE xs∧0<n
 ·obtain ⟨sm,hn0⟩:=sm
  have HL:xs.length=n:=h.len
  have h30:xs.length≤30:=sm.2
  have hf2:∀ x ∈ xs,Fits x.r x.l∧Nums x.r x.l∧x.n≤1000:=fun x hx =>⟨(hf x hx).1.1,(hf x hx).2,by have h1:=(h.2 x hx).1.1;rw [zAg] at h1;have h2:=(sm.1 x hx).2.1;omega⟩
  have hv2:1≤3∧3≤3:=by omega
  by_cases hm:zAo ((3:Nat):Int) xs
  ·obtain ⟨f1,f2,f3,f4⟩:=zCT hm h30
   obtain ⟨N,hN⟩:∃ N,N=(zAq 3 ((3:Nat):Int) xs).length:=⟨_,rfl⟩
   have hN2:N=eo ((3:Nat):Int) xs n:=by rw [hN,zGb,HL]
   have hN8:N=8+(frs (zAE ((3:Nat):Int) [] xs)).length:=by rw [hN];unfold zAq;rw [List.length_append,zAz]
   have hfit:∀ x ∈ xs,Fits x.r x.l:=fun x hx =>(hf2 x hx).1
   have hl60:∀ x ∈ xs,x.l.length≤1000000:=fun x hx =>by have:=(sm.1 x hx).2.1;omega
   obtain ⟨k,hk⟩:∃ k,k=x0 % n:=⟨_,rfl⟩
   have hkn:k<n:=by rw [hk];exact Nat.mod_lt _ hn0
   have hgr:=zDw ((3:Nat):Int) xs (show k<k+1 by omega) (by omega)
   have hle:=zCp ((3:Nat):Int) [] xs (k+1)
   obtain ⟨ps,hps⟩:∃ ps,ps=zAE ((3:Nat):Int) [] xs:=⟨_,rfl⟩
   obtain ⟨j,hj⟩:∃ j,(zAE ((3:Nat):Int) [] (xs.take (k+1))).length=j+1:=⟨(zAE ((3:Nat):Int) [] (xs.take (k+1))).length - 1,by omega⟩
   rw [hj] at hgr hle
   rw [← hps] at hle f3 f4 hN8
   obtain ⟨p,hp⟩:∃ p,ps[j]? = some p:=⟨_,List.getElem?_eq_getElem (by omega)⟩
   have hpp:pay p:=f4 p (List.mem_of_getElem? hp)
   have hB:zAq 3 ((3:Nat):Int) xs=(hd 3++frs (ps.take j))++(fr p++frs (ps.drop (j+1))):=by
    unfold zAq
    rw [← hps,zJv hp,List.append_assoc]
   have hPLl:(hd 3++frs (ps.take j)).length=8+(frs (ps.take j)).length:=by rw [List.length_append,zAz]
   have hek:eo ((3:Nat):Int) xs (k+1)=(hd 3++frs (ps.take j)).length+(fr p).length:=by
    have h1:=zDz ((3:Nat):Int) xs (k+1)
    rw [← hps,hj,zCq hp,List.length_append] at h1
    rw [hPLl]
    exact h1.trans (by omega)
   have hfl:(fr p).length=(vb p.length).length+p.length+4:=by rw [zDF,zBR]
   have hfl2:(vb p.length).length+5≤(fr p).length:=by have h1:1≤p.length:=hpp.1;omega
   have hsz:N=(hd 3++frs (ps.take j)).length+(fr p).length+(frs (ps.drop (j+1))).length:=by
    rw [hN,hB];simp only [List.length_append];omega
   have hwhole:∀ W,Below w.heap.size w W→∀ A1 c1,N≤c1→zAD W W.heap.size 1 A1 N (((hd 3++frs (ps.take j))++(fr p++frs (ps.drop (j+1)))).map bv)→Calls Tryd.prog 8 #[.slice A1 N c1] W (zCB 3 xs n W):=fun W hb A1 c1 hc1 hr1 =>by
    obtain ⟨m,j2,m1,m2,m3,m4,m5⟩:=zJe 3 ((3:Nat):Int) xs hm h30 N (by omega) (by omega)
    have hmn:m=n:=by have:=(m2 n (by omega)).1 (by omega);omega
    rw [hmn] at m1 m4 m5
    have e:(zAq 3 ((3:Nat):Int) xs).take N=zAq 3 ((3:Nat):Int) xs:=by rw [hN,List.take_length]
    rw [e] at m3
    exact zEn 3 xs hm hfit hl60 h30 n j2 m1 m4 m5 _ N (by unfold zAq;exact zIP 3 hv2 _) m3 A1 c1 hc1 (by omega) W (hl.below hb) (by rw [hB];exact hr1)
   refine zIf A n c x0 x1 y k N _ _ _ hx0 hx1 hy hn0 (by omega) hk xs (hd 3++frs (ps.take j)) (frs (ps.drop (j+1))) p w rfl rfl rfl hfl2 hsz (by omega) hek hN2.symm hc hA (yh fun W hb =>?_) (yh fun W hb =>?_) (yh hwhole) (yh fun cs q ht hq hcs W hb A1 c1 hc1 hr1 =>?_) (yh fun W hb =>zBh W (hl.below hb)) (yh fun W hb =>(h.below hb).more hb.size)
   ·refine (zBj A n c xs hn (fun x hx =>(hf x hx).1) W ((h.below hb).more hb.size)).mono ?_
    rintro e w2 ⟨he,hb2⟩
    exact ⟨he.no (fun h =>h sm),hb2⟩
   ·refine (zDH 3 hv2 xs A n c (by omega) hf2 W (hl.below hb) ((h.below hb).more hb.size)).mono ?_
    rintro e w1 ⟨h1,hb1⟩
    refine ⟨?_,hb1⟩
    rcases h1 with ⟨_,u,rfl,ho⟩ | ⟨hno,_⟩
    ·rw [← hN,hB] at ho
     exact ⟨u,rfl,ho⟩
    ·exact absurd hm hno
   ·have hcl:cs.length=(fr p).length:=ht.1
    have hKl:((hd 3++frs (ps.take j))++(cs++frs (ps.drop (j+1)))).length=N:=by
     simp only [List.length_append] at hsz ⊢;omega
    have h1:=zJP 3 ps j p cs (frs (ps.drop (j+1))) _ q N f4 hpp ht hq hcs (by rw [← List.append_assoc];exact hKl)
    rw [← List.append_assoc] at h1
    exact zEn 3 xs hm hfit hl60 h30 k j (by omega) (by omega) (fun _ =>by omega) _ N (by rw [List.append_assoc];exact zIP 3 hv2 _) (by rw [← hps];exact h1) A1 c1 hc1 (by omega) W (hl.below hb) hr1
  ·refine zIu 1 (by omega) A n c x0 x1 y hn0 xs hn (fun x hx =>(hf x hx).1) w hl h sm (yh fun W hb =>?_)
   refine (zDH 3 hv2 xs A n c (by omega) hf2 W (hl.below hb) ((h.below hb).more hb.size)).mono ?_
   rintro e w1 ⟨h1,hb1⟩
   rcases h1 with ⟨hy,_⟩ | ⟨_,rfl⟩
   ·exact absurd hy hm
   ·exact ⟨rfl,hb1⟩
 ·exact zHb A n c x0 x1 y xs hn (fun x hx =>(hf x hx).1) w hl h (by by_cases h1:zBE xs;exact .inr (by rcases Nat.eq_zero_or_pos n with h2 | h2;exact h2;exact absurd ⟨h1,h2⟩ sm);exact .inl h1)
open Go.ChangeShapes Go.WideShapes Go.ChangeAt Go.RowKit
theorem zIX {P:Program} {w:World} {r:Reach} {base n:Nat} {t e:TypeId} {v:Value} (ht:P.underlying t=some (.array n e)) (h:Value.okWide P w r base t v):∃ cs,v=.agg cs∧cs.size=P.cellsOf t:=by
 unfold Value.okWide at h
 rw [ht] at h
 cases v <;> simp_all
theorem zJT {H:Type} {enc:TypeId×Value→H} {P:Program} {W:World} {t e:TypeId} {v:Value} {d:DataW H} {ps:List MemPlace} {r:Reach} {b0:Nat} (ht:P.underlying t=some (.array 2 e)) (he:P.underlying e=some (.int .u16)) (hc:P.cellsOf e=1) (hc2:P.cellsOf t=2)
  (hval:Value.okWide P W r b0 t v) (hd:DataW.Trod enc P W 0 (fun _ =>true) true t v d ps) :
  ∃ x0 x1:Nat,v=.agg #[.int .u16 (x0:Int),.int .u16 (x1:Int)]∧x0<65536∧x1<65536:=by
 obtain ⟨cs,rfl,hsz⟩:=zIX ht hval
 obtain ⟨fuel,hf⟩:=hd
 obtain ⟨xs,m,rfl,hx,hlen,hxl,hel⟩:=DataW.trod_array ht hf
 have hcell:∀ i,i<2→∃ x:Nat,x<65536∧cs.toList[i]? = some (.int .u16 (x:Int)):=by
  intro i hi
  obtain ⟨y,hy⟩:∃ y,xs[i]? = some y:=⟨_,List.getElem?_eq_getElem (by omega)⟩
  have h2:=hel i hi
  rw [hy,hc,Nat.mul_one] at h2
  obtain ⟨z,e1,_,e3⟩:=DataW.trod_int he h2
  have h3:cs.toList[i]? = some (.int .u16 z):=by
   have:=congrArg (fun l:List Value =>l[0]?) e1
   simpa [List.getElem?_take,List.getElem?_drop,Value.cells] using this
  have hz:0≤z∧z≤65535:=by simpa [Lit.wf,IntKind.min,IntKind.max,IntKind.signed,IntKind.bits] using e3
  refine ⟨z.toNat,by omega,?_⟩
  rw [h3]
  congr 2
  omega
 obtain ⟨x0,l0,g0⟩:=hcell 0 (by omega)
 obtain ⟨x1,l1,g1⟩:=hcell 1 (by omega)
 refine ⟨x0,x1,?_,l0,l1⟩
 congr 1
 apply Array.ext'
 have hl:cs.toList.length=2:=by rw [Array.length_toList,hsz,hc2]
 match h:cs.toList,hl with
 | [a,b],_ =>
  rw [h] at g0 g1
  simp at g0 g1
  rw [g0,g1]
end Go.Proofs.YtoclafdidjpndaaDoor
