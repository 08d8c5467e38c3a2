/- Texts of one proof. -/
import Derived.Test.YtoclafdidjpndaaDoorMx26
import Derived.Test.YtoclafdidjpndaaDoorMx30
set_option maxRecDepth 100000
set_option maxHeartbeats 8000000
namespace Go.Proofs.YtoclafdidjpndaaDoor
open Go.RowKit
theorem zHa (ver:Int) (A:Option Addr) (n c a:Nat) (xs:List Rw) (hn:n≤maxLen) (hf:∀ x ∈ xs,Fits x.r x.l∧x.n≤maxLen) (w:World) (hl:Laid w) (h:Recs w w.heap.size A n xs) (sm:¬ zBE xs) :
  Calls Tryd.prog 3 #[.int .i64 ver,.slice A n c,.int .u16 (a:Int)] w fun e w' =>e=.returned (.bool true)∧Below w.heap.size w w':=by
 have HFX:Hid (∀ W,Below w.heap.size w W→Calls Tryd.prog 6 #[] W fun e w' =>e=.returned (.bool true)∧Below W.heap.size W w'):=fun W hb =>zBh W (hl.below hb)
 have HG:=yh (zBj A n c xs hn hf w h)
 have SM:=yh sm
 clear h hf hl hn sm
 go_enter Tryd.func3,Tryd.ntmps3
 go_wp2_with (first
  | (go_at_call 6;have hk:=HB2.out.size;refine (HFX.out _ HB2.out).mono ?_;rintro e w3 ⟨rfl,hb3⟩;have HB3:=yh (HB2.out.trans (hb3.mono HB2.out.size));clear hb3)
  | (go_at_call 5;refine HG.out.mono ?_;rintro e w2 ⟨he,hb2⟩;obtain rfl:=he.yes SM.out;have HB2:=yh hb2;clear hb2))
 go_ret
 exact ⟨rfl,HB3.out⟩
theorem zFy (ver en:Int) (hen:en≠0) (A:Option Addr) (n c a:Nat) (xs:List Rw) (hn:n≤maxLen) (hf:∀ x ∈ xs,Fits x.r x.l∧x.n≤maxLen) (w:World) (hl:Laid w) (h:Recs w w.heap.size A n xs) (sm:zBE xs)
  (HP:Hid (∀ W,Below w.heap.size w W→Calls Tryd.prog 7 #[.int .i64 ver,.slice A n c] W fun e w' =>e=.returned (.tuple #[.slice none 0 0,.int .i64 en])∧Below W.heap.size W w')) :
  Calls Tryd.prog 3 #[.int .i64 ver,.slice A n c,.int .u16 (a:Int)] w fun e w' =>e=.returned (.bool true)∧Below w.heap.size w w':=by
 have HFX:Hid (∀ W,Below w.heap.size w W→Calls Tryd.prog 6 #[] W fun e w' =>e=.returned (.bool true)∧Below W.heap.size W w'):=fun W hb =>zBh W (hl.below hb)
 have HG:=yh (zBj A n c xs hn hf w h)
 have SM:=yh sm
 have hen2:(en == 0)=false:=by simpa using hen
 clear h hf hl hn sm
 go_enter Tryd.func3,Tryd.ntmps3
 go_wp2_with (first
  | (go_at_call 6;have hk:=HB3.out.size;refine (HFX.out _ HB3.out).mono ?_;rintro e w5 ⟨rfl,hb5⟩;have HB5:=yh (HB3.out.trans (hb5.mono HB3.out.size));clear hb5)
  | (go_at_call 7;have hk:=HB2.out.size;refine (HP.out _ HB2.out).mono ?_;rintro e w3 ⟨rfl,hb3⟩;have HB3:=yh (HB2.out.trans (hb3.mono HB2.out.size));clear hb3)
  | (go_at_call 5;refine HG.out.mono ?_;rintro e w2 ⟨he,hb2⟩;obtain rfl:=he.no (fun h =>h SM.out);have HB2:=yh hb2;clear hb2))
 go_ret
 exact ⟨rfl,HB5.out⟩
structure zGS (v:Nat) (A:Option Addr) (n c N k:Nat) (xs:List Rw) (B:List UInt8) (w:World):Prop where
 great:Hid (Calls Tryd.prog 5 #[.slice A n c] w fun e w' =>e=.returned (.bool false)∧Below w.heap.size w w')
 put:Hid (∀ W,Below w.heap.size w W→Calls Tryd.prog 7 #[.int .i64 (v:Int),.slice A n c] W fun e w' =>(∃ A1 c1,e=.returned (.tuple #[.slice A1 N c1,.int .i64 0])∧N≤c1∧zAD w' w'.heap.size 1 A1 N (B.map bv))∧Below W.heap.size W w')
 get:Hid (∀ W,Below w.heap.size w W→∀ A1 c1,N≤c1→zAD W W.heap.size 1 A1 N (B.map bv)→Calls Tryd.prog 8 #[.slice A1 N c1] W (zCB v xs n W))
 fix:Hid (∀ W,Below w.heap.size w W→Calls Tryd.prog 6 #[] W fun e w' =>e=.returned (.bool true)∧Below W.heap.size W w')
 eoN:Hid (eo (v:Int) xs n=N)
 n30:Hid (n≤30)
 few:Hid (N≤1200000∧8≤N)
 kN:Hid (k≤N)
theorem zIo (v:Nat) (A:Option Addr) (n c N k:Nat) (ha:k<65536) (xs:List Rw) (B:List UInt8) (w:World) (hC:zGS v A n c N k xs B w) (h8:k<8)
  (HG2:Hid (∀ W,Below w.heap.size w W→∀ A1 c1,k≤c1→zAD W W.heap.size 1 A1 k ((B.take k).map bv)→Calls Tryd.prog 8 #[.slice A1 k c1] W fun e w' =>e=.returned (.tuple #[.agg #[.int .i64 0,.slice none 0 0,.slice none 0 0,.int .i64 0],.int .i64 2])∧Below W.heap.size W w')) :
  Calls Tryd.prog 3 #[.int .i64 (v:Int),.slice A n c,.int .u16 (k:Int)] w fun e w' =>e=.returned (.bool true)∧Below w.heap.size w w':=by
 have HGR:=hC.great
 have HPUT:=hC.put
 have HGET:=hC.get
 have hw0:IntKind.i64.wrap (k:Int)=(k:Int):=by rw [IntKind.wrap_i64];omega
 have hkN:=hC.kN.out
 have HEO:=hC.eoN
 go_enter Tryd.func3,Tryd.ntmps3
 go_wp2_with fail
 refine HGR.out.mono ?_
 rintro e w2 ⟨rfl,hb2⟩
 have HB2:=yh hb2
 clear hb2
 go_wp2_with fail
 refine (HPUT.out _ HB2.out).mono ?_
 rintro e w3 ⟨⟨A1,c1,rfl,hc1,hr1⟩,hb3⟩
 have HB3:=yh (HB2.out.trans (hb3.mono HB2.out.size))
 have HC1:=yh hc1
 have HR3:=yh hr1
 clear hb3 hr1
 go_wp2_with fail
 refine (HGET.out _ HB3.out A1 c1 HC1.out HR3.out).mono ?_
 rintro e w4 ⟨⟨A3,E3,c3,d3,zs,rfl,_,_,_,hoe⟩,hb4⟩
 rw [HEO.out]
 have HR4:=yh ((HR3.out.below hb4).more hb4.size)
 have HB4:=yh (HB3.out.trans (hb4.mono HB3.out.size))
 obtain ⟨_,_,he,_,hre⟩:=zAe hoe
 cases he
 have hx4:=zAG w4 (.cells #[.int .i64 (v:Int),.slice A3 n c3,.slice E3 n d3,.int .i64 (N:Int)] 32)
 have hb45:=(Below.refl w4.heap.size w4).alloc (Nat.le_refl _) (.cells #[.int .i64 (v:Int),.slice A3 n c3,.slice E3 n d3,.int .i64 (N:Int)] 32)
 obtain ⟨w6,hw6⟩:∃ x,x=w4.alloc (.cells #[.int .i64 (v:Int),.slice A3 n c3,.slice E3 n d3,.int .i64 (N:Int)] 32):=⟨_,rfl⟩
 have p0:=zAA (i:=0) hx4 rfl;have p2:=zAA (i:=2) hx4 rfl;have p3:=zAA (i:=3) hx4 rfl
 rw [← hw6] at hx4 hb45
 have HB6:=yh (HB4.out.trans (hb45.mono HB4.out.size))
 have HRK:Hid (zAD w6 w6.heap.size 1 A1 k ((B.take k).map bv)):=by
  show zAD _ _ _ _ _ _
  rw [List.map_take]
  exact (((HR4.out.below hb45).more hb45.size).take hC.kN.out)
 have HRE:=yh ((hre.below hb45).more hb45.size)
 have HX6:=yh hx4
 have HW6:=yh hw6
 have hkc:k≤c1:=by omega
 have hsl:∀ W:World,(Instr.sliceAt 26 (.slice A1 N c1) none (some (.int .i64 (k:Int))) none).run Tryd.prog W=.ok (.slice A1 k c1) W:=fun W =>by
  have hk0:(0:Int)≤(k:Int):=by omega
  have hkc2:(k:Int)≤(c1:Int):=by omega
  obtain ⟨ad,rfl,_⟩:=HR4.out.2 (by have:=hC.few.out.2;omega)
  go_simp
 clear hb4 hoe hre hx4 hb45 hw6 hc1
 go_wp2_with fail
 rw [← HW6.out]
 have hlow:decide (k<8)=true:=decide_eq_true h8
 have hlow2:decide ((k:Int)<8)=true:=by rw [decide_eq_true_iff];omega
 go_wp2_with fail
 refine (HG2.out w6 HB6.out A1 c1 hkc HRK.out).mono ?_
 rintro e w7 ⟨rfl,hb7⟩
 have hx7:=zAG w7 (.cells #[.int .i64 0,.slice none 0 0,.slice none 0 0,.int .i64 0] 32)
 have hb78:=(Below.refl w7.heap.size w7).alloc (Nat.le_refl _) (.cells #[.int .i64 0,.slice none 0 0,.slice none 0 0,.int .i64 0] 32)
 obtain ⟨w8,hw8⟩:∃ x,x=w7.alloc (.cells #[.int .i64 0,.slice none 0 0,.slice none 0 0,.int .i64 0] 32):=⟨_,rfl⟩
 rw [← hw8] at hx7 hb78
 have HB8:=yh ((HB6.out.trans (hb7.mono HB6.out.size)).trans (hb78.mono (HB6.out.trans (hb7.mono HB6.out.size)).size))
 have HX8:=yh hx7
 have HW8:=yh hw8
 clear hb7 hb78 hx7 hw8
 go_wp2_with fail
 rw [← HW8.out]
 refine (hC.fix.out _ HB8.out).mono ?_
 rintro e w9 ⟨rfl,hb9⟩
 have hx9:=(hb9.block w7.heap.size (Array.getElem?_eq_some_iff.1 HX8.out).1).trans HX8.out
 have q1:=zAA (i:=1) hx9 rfl
 go_wp2
 go_ret
 exact ⟨rfl,HB8.out.trans (hb9.mono HB8.out.size)⟩
theorem zIx (v:Nat) (A:Option Addr) (n c N k m G:Nat) (ha:k<65536) (xs:List Rw) (B:List UInt8) (w:World) (hC:zGS v A n c N k xs B w) (h8:8≤k) (hm:m≤n) (hc:n≤c)
  (hG:G=eo (v:Int) xs m) (hek:Hid (∀ i,i≤n→(eo (v:Int) xs i≤k ↔ i≤m))) (hsay0:∀ i,i≤n→eo (v:Int) xs i≤N)
  (HAN:Hid (A=none→c=0)) (HRD:Hid (∀ W,Below w.heap.size w W→Recs W W.heap.size A n xs))
  (HG2:Hid (∀ W,Below w.heap.size w W→∀ A1 c1,k≤c1→zAD W W.heap.size 1 A1 k ((B.take k).map bv)→Calls Tryd.prog 8 #[.slice A1 k c1] W (zCB v xs m W))) :
  Calls Tryd.prog 3 #[.int .i64 (v:Int),.slice A n c,.int .u16 (k:Int)] w fun e w' =>e=.returned (.bool true)∧Below w.heap.size w w':=by
 have HM:=yh hm
 have HCC:=yh hc
 have HGG:=yh hG
 have HSA:=yh hsay0
 have hn30:=hC.n30.out
 have hfew:=hC.few.out
 clear hm hc hG hsay0
 have HGR:=hC.great
 have HPUT:=hC.put
 have HGET:=hC.get
 have hw0:IntKind.i64.wrap (k:Int)=(k:Int):=by rw [IntKind.wrap_i64];omega
 have hkN:=hC.kN.out
 have HEO:=hC.eoN
 go_enter Tryd.func3,Tryd.ntmps3
 go_wp2_with fail
 refine HGR.out.mono ?_
 rintro e w2 ⟨rfl,hb2⟩
 have HB2:=yh hb2
 clear hb2
 go_wp2_with fail
 refine (HPUT.out _ HB2.out).mono ?_
 rintro e w3 ⟨⟨A1,c1,rfl,hc1,hr1⟩,hb3⟩
 have HB3:=yh (HB2.out.trans (hb3.mono HB2.out.size))
 have HC1:=yh hc1
 have HR3:=yh hr1
 clear hb3 hr1
 go_wp2_with fail
 refine (HGET.out _ HB3.out A1 c1 HC1.out HR3.out).mono ?_
 rintro e w4 ⟨⟨A3,E3,c3,d3,zs,rfl,_,_,_,hoe⟩,hb4⟩
 rw [HEO.out]
 have HR4:=yh ((HR3.out.below hb4).more hb4.size)
 have HB4:=yh (HB3.out.trans (hb4.mono HB3.out.size))
 obtain ⟨_,_,he,_,hre⟩:=zAe hoe
 cases he
 have hx4:=zAG w4 (.cells #[.int .i64 (v:Int),.slice A3 n c3,.slice E3 n d3,.int .i64 (N:Int)] 32)
 have hb45:=(Below.refl w4.heap.size w4).alloc (Nat.le_refl _) (.cells #[.int .i64 (v:Int),.slice A3 n c3,.slice E3 n d3,.int .i64 (N:Int)] 32)
 obtain ⟨w6,hw6⟩:∃ x,x=w4.alloc (.cells #[.int .i64 (v:Int),.slice A3 n c3,.slice E3 n d3,.int .i64 (N:Int)] 32):=⟨_,rfl⟩
 have p0:=zAA (i:=0) hx4 rfl;have p2:=zAA (i:=2) hx4 rfl;have p3:=zAA (i:=3) hx4 rfl
 rw [← hw6] at hx4 hb45
 have HB6:=yh (HB4.out.trans (hb45.mono HB4.out.size))
 have HRK:Hid (zAD w6 w6.heap.size 1 A1 k ((B.take k).map bv)):=by
  show zAD _ _ _ _ _ _
  rw [List.map_take]
  exact (((HR4.out.below hb45).more hb45.size).take hC.kN.out)
 have HRE:=yh ((hre.below hb45).more hb45.size)
 have HX6:=yh hx4
 have HW6:=yh hw6
 have hkc:k≤c1:=by omega
 have hsl:∀ W:World,(Instr.sliceAt 26 (.slice A1 N c1) none (some (.int .i64 (k:Int))) none).run Tryd.prog W=.ok (.slice A1 k c1) W:=fun W =>by
  have hk0:(0:Int)≤(k:Int):=by omega
  have hkc2:(k:Int)≤(c1:Int):=by omega
  obtain ⟨ad,rfl,_⟩:=HR4.out.2 (by have:=hC.few.out.2;omega)
  go_simp
 clear hb4 hoe hre hx4 hb45 hw6 hc1
 go_wp2_with fail
 rw [← HW6.out]
 have hlow:decide (k<8)=false:=decide_eq_false (by omega)
 have hlow2:decide ((k:Int)<8)=false:=by rw [decide_eq_false_iff_not];omega
 go_wp2_with fail
 refine (HG2.out w6 HB6.out A1 c1 hkc HRK.out).mono ?_
 rintro e w7 ⟨⟨A4,E4,c4,d4,zs2,rfl,hsay,hzn,hrc,hoe4⟩,hb7⟩
 rw [← HGG.out]
 have hx7:=zAG w7 (.cells #[.int .i64 (v:Int),.slice A4 m c4,.slice E4 m d4,.int .i64 (G:Int)] 32)
 have hb78:=(Below.refl w7.heap.size w7).alloc (Nat.le_refl _) (.cells #[.int .i64 (v:Int),.slice A4 m c4,.slice E4 m d4,.int .i64 (G:Int)] 32)
 obtain ⟨w8,hw8⟩:∃ x,x=w7.alloc (.cells #[.int .i64 (v:Int),.slice A4 m c4,.slice E4 m d4,.int .i64 (G:Int)] 32):=⟨_,rfl⟩
 rw [← hw8] at hx7 hb78
 have hb68:=hb7.trans (hb78.mono hb7.size)
 have HB8:=yh (HB6.out.trans (hb68.mono HB6.out.size))
 have hx8:=(hb68.block w4.heap.size (Array.getElem?_eq_some_iff.1 HX6.out).1).trans HX6.out
 have HRE8:=yh ((HRE.out.below hb68).more hb68.size)
 have HRC:=yh ((hrc.below hb78).more hb78.size)
 have HSAY:=yh hsay
 have HZN:=yh hzn
 have HPL:Hid (w7.heap.size<w8.heap.size):=(Array.getElem?_eq_some_iff.1 hx7).1
 have q0:=zAA (i:=0) hx7 rfl;have q1:=zAA (i:=1) hx7 rfl;have q3:=zAA (i:=3) hx7 rfl
 have p2:=zAA (i:=2) hx8 rfl
 rw [hw8] at p2
 have HW8:=yh hw8
 obtain ⟨zs,hzs⟩:∃ x,x=zs2:=⟨_,rfl⟩
 rw [← hzs] at HRC HSAY HZN
 clear hsay hzn hrc hoe4 hb7 hb78 hb68 hx7 hx8 hw8 hzs
 go_wp2_with fail
 rw [← HW8.out]
 go_loopw [14,15,80] (fun v14 v15 v80 wr =>∃ i:Nat,i≤n∧v80=.int .i64 (i:Int)∧v14=.int .i64 ((min i m:Nat):Int)∧v15=.int .i64 ((eo (v:Int) xs (min i m):Nat):Int)∧wr=w8) (fun _ _ v80 _ =>n - (intOf v80).toNat)
 case atStart =>exact ⟨0,Nat.zero_le _,rfl,by simp,by rw [Nat.zero_min];rfl,rfl⟩
 case round =>
  obtain ⟨i,hi,rfl,rfl,rfl,rfl⟩:=hrel
  by_cases hlt:i<n
  ·obtain ⟨ad,u,rfl,hadb,hx,hcell⟩:=HRE8.out.at_ hlt
   obtain ⟨f,hf⟩:∃ f,f=eo (v:Int) xs (i+1):=⟨_,rfl⟩
   obtain rfl:u=.int .i64 (f:Int):=by
    rw [List.getElem?_map,List.getElem?_range hlt] at hx
    rw [hf]
    simpa [inv] using hx.symm
   have hle:=hek.out (i+1) (by omega)
   rw [← hf] at hle
   by_cases him:i+1≤m
   ·have hd:decide (f≤k)=true:=decide_eq_true (hle.2 him)
    have hd2:decide ((f:Int)≤(k:Int))=true:=by rw [decide_eq_true_iff];have:=hle.2 him;omega
    have e1:min (i+1) m=i+1:=by omega
    have e2:min i m=i:=by omega
    have E1:=yh e1
    have HF:=yh hf
    rw [e2]
    clear hx hf hle e1 e2
    go_wp2
    exact ⟨⟨i+1,by omega,by go_num,by rw [E1.out];go_num,by rw [E1.out,← HF.out],by first | rfl | trivial⟩,by simp [intOf];omega⟩
   ·have hd:decide (f≤k)=false:=decide_eq_false (fun h =>him (hle.1 h))
    have hd2:decide ((f:Int)≤(k:Int))=false:=by rw [decide_eq_false_iff_not];intro h;exact him (hle.1 (by omega))
    have e1:min (i+1) m=m:=by omega
    have e2:min i m=m:=by omega
    have E1:=yh e1
    rw [e2]
    clear hx hf hle e1 e2
    go_wp2
    exact ⟨⟨i+1,by omega,by go_num,by rw [E1.out],by rw [E1.out],by first | rfl | trivial⟩,by simp [intOf];omega⟩
  ·obtain rfl:n=i:=by omega
   have e2:min n m=m:=by have:=HM.out;omega
   rw [e2,← HGG.out]
   clear e2
   have hsl:∀ W:World,(Instr.sliceAt 22 (.slice A n c) none (some (.int .i64 (m:Int))) none).run Tryd.prog W=.ok (.slice A m c) W:=fun W =>by
    have hk0:(0:Int)≤(m:Int):=by omega
    have hkn:=HM.out
    have hcc:=HCC.out
    have hkc:(m:Int)≤(c:Int):=by omega
    cases A with
    | none =>
     have hc0:=HAN.out rfl
     have hk2:m=0:=by omega
     subst hc0
     subst hk2
     rfl
    | some ad =>go_simp
   have HSL:=yh hsl
   clear hsl
   go_wp2_with fail
   refine wp_region_held (S:=fun v =>∀ j:Nat,j<wr.heap.size→v.heap[j]? = wr.heap[j]?) (by kernel_rfl) (show wpAnyH _ _ _ _ _ _ _ _ (wr.drew) from ?_)
   have ONLY:Hid (∀ j:Nat,j<wr.heap.size→wr.drew.heap[j]? = wr.heap[j]?):=fun _ _ =>rfl
   have HD:Hid (Below w.heap.size w wr.drew):=HB8.out.drew
   have HD8:Hid (Below wr.heap.size wr wr.drew):=(Below.refl _ _).drew
   have HSZ0:Hid (wr.heap.size≤wr.drew.heap.size):=Nat.le_refl _
   obtain ⟨W0,hW0⟩:∃ x,x=wr.drew:=⟨_,rfl⟩
   rw [← hW0] at ONLY HD HD8 HSZ0 ⊢
   clear hW0
   refine zAS 0 rfl (by kernel_rfl) (by kernel_rfl) (fun K hK =>?_)
   go_simp
   refine (hC.fix.out W0 HD.out).mono ?_
   rintro e w9 ⟨rfl,hb9⟩
   have ONLY9:Hid (∀ j:Nat,j<wr.heap.size→w9.heap[j]? = wr.heap[j]?):=fun j h1 =>(hb9.block j (Nat.lt_of_lt_of_le h1 HSZ0.out)).trans (ONLY.out j h1)
   have HB9:=yh (HD.out.trans (hb9.mono HD.out.size))
   have HBQ:Hid (Below wr.heap.size wr w9):=HD8.out.trans (hb9.mono HSZ0.out)
   have HSZ9:Hid (wr.heap.size≤w9.heap.size):=Nat.le_trans HSZ0.out hb9.size
   clear hb9
   refine hK _ _ ONLY9.out ?_
   clear hK K
   refine zAB 1 (.bool true) rfl (by kernel_rfl) (by kernel_rfl) (by kernel_rfl) (fun _ _ _ h =>h) (by kernel_rfl) ONLY9.out (fun _ _ =>by kernel_rfl) ?_
   refine zAB 2 (.int .i64 0) rfl (by kernel_rfl) (by kernel_rfl) (by kernel_rfl) (fun _ _ _ h =>h) (by kernel_rfl) ONLY9.out (fun _ _ =>by kernel_rfl) ?_
   refine zAB 3 (.bool true) rfl (by kernel_rfl) (by kernel_rfl) (by kernel_rfl) (fun _ _ _ h =>h) (by kernel_rfl) ONLY9.out (by intro v1 hv;go_simp) ?_
   refine zAB 4 (.bool true) rfl (by kernel_rfl) (by kernel_rfl) (by kernel_rfl) (fun _ _ _ h =>h) (by kernel_rfl) ONLY9.out (fun _ _ =>by kernel_rfl) ?_
   refine zAB 5 (.bool true) rfl (by kernel_rfl) (by kernel_rfl) (by kernel_rfl) (fun _ _ _ h =>h) (by kernel_rfl) ONLY9.out (fun _ _ =>by kernel_rfl) ?_
   refine zAB 6 (.pointer (some ⟨w7.heap.size,0,none⟩)) rfl (by kernel_rfl) (by kernel_rfl) (by kernel_rfl) (fun _ _ _ h =>h) (by kernel_rfl) ONLY9.out (fun _ _ =>by kernel_rfl) ?_
   refine zAB 7 (.int .i64 (v:Int)) rfl (by kernel_rfl) (by kernel_rfl) (by kernel_rfl) (fun _ _ _ h =>h) (by kernel_rfl) ONLY9.out (by intro v1 hv;have q:=(zBq hv HPL.out).trans q0;go_simp) ?_
   refine zAB 8 (.int .i64 (v:Int)) rfl (by kernel_rfl) (by kernel_rfl) (by kernel_rfl) (fun _ _ _ h =>h) (by kernel_rfl) ONLY9.out (fun _ _ =>by kernel_rfl) ?_
   refine zAB 9 (.bool true) rfl (by kernel_rfl) (by kernel_rfl) (by kernel_rfl) (fun _ _ _ h =>h) (by kernel_rfl) ONLY9.out (by intro v1 hv;go_simp) ?_
   refine zAB 10 (.bool true) rfl (by kernel_rfl) (by kernel_rfl) (by kernel_rfl) (fun _ _ _ h =>h) (by kernel_rfl) ONLY9.out (fun _ _ =>by kernel_rfl) ?_
   refine zAB 11 (.bool true) rfl (by kernel_rfl) (by kernel_rfl) (by kernel_rfl) (fun _ _ _ h =>h) (by kernel_rfl) ONLY9.out (fun _ _ =>by kernel_rfl) ?_
   refine zAB 12 (.pointer (some ⟨w7.heap.size,3,none⟩)) rfl (by kernel_rfl) (by kernel_rfl) (by kernel_rfl) (fun _ _ _ h =>h) (by kernel_rfl) ONLY9.out (fun _ _ =>by kernel_rfl) ?_
   refine zAB 13 (.int .i64 (G:Int)) rfl (by kernel_rfl) (by kernel_rfl) (by kernel_rfl) (fun _ _ _ h =>h) (by kernel_rfl) ONLY9.out (by intro v1 hv;have q:=(zBq hv HPL.out).trans q3;go_simp) ?_
   refine zAB 14 (.int .i64 (G:Int)) rfl (by kernel_rfl) (by kernel_rfl) (by kernel_rfl) (fun _ _ _ h =>h) (by kernel_rfl) ONLY9.out (fun _ _ =>by kernel_rfl) ?_
   refine zAB 15 (.bool true) rfl (by kernel_rfl) (by kernel_rfl) (by kernel_rfl) (fun _ _ _ h =>h) (by kernel_rfl) ONLY9.out (by intro v1 hv;go_simp) ?_
   refine zAB 16 (.bool true) rfl (by kernel_rfl) (by kernel_rfl) (by kernel_rfl) (fun _ _ _ h =>h) (by kernel_rfl) ONLY9.out (fun _ _ =>by kernel_rfl) ?_
   refine zAB 17 (.bool true) rfl (by kernel_rfl) (by kernel_rfl) (by kernel_rfl) (fun _ _ _ h =>h) (by kernel_rfl) ONLY9.out (fun _ _ =>by kernel_rfl) ?_
   refine zAB 18 (.pointer (some ⟨w7.heap.size,1,none⟩)) rfl (by kernel_rfl) (by kernel_rfl) (by kernel_rfl) (fun _ _ _ h =>h) (by kernel_rfl) ONLY9.out (fun _ _ =>by kernel_rfl) ?_
   refine zAB 19 (.slice A4 m c4) rfl (by kernel_rfl) (by kernel_rfl) (by kernel_rfl) (fun _ _ _ h =>h) (by kernel_rfl) ONLY9.out (by intro v1 hv;have q:=(zBq hv HPL.out).trans q1;go_simp) ?_
   refine zAB 20 (.slice A n c) rfl (by kernel_rfl) (by kernel_rfl) (by kernel_rfl) (fun _ _ _ h =>h) (by kernel_rfl) ONLY9.out (fun _ _ =>by kernel_rfl) ?_
   refine zAB 21 (.int .i64 (m:Int)) rfl (by kernel_rfl) (by kernel_rfl) (by kernel_rfl) (fun _ _ _ h =>h) (by kernel_rfl) ONLY9.out (fun _ _ =>by kernel_rfl) ?_
   refine zAB 22 (.slice A m c) rfl (by kernel_rfl) (by kernel_rfl) (by kernel_rfl) (fun _ _ _ h =>h) (by kernel_rfl) ONLY9.out (by intro v1 hv;have z1:=HSL.out v1;go_simp) ?_
   refine zAS 23 rfl (by kernel_rfl) (by kernel_rfl) (fun K hK =>?_)
   go_simp
   have hbq:=HBQ.out
   refine (zEe A4 A m m c4 c zs (xs.take m) (by have:=HM.out;have:=hC.n30.out;unfold maxLen;omega) (by have:=HM.out;have:=hC.n30.out;unfold maxLen;omega) HZN.out w9 ((HRC.out.below hbq).more hbq.size) (zDd (HRD.out w9 HB9.out) HM.out)).mono ?_
   rintro e w10 ⟨he,hb10⟩
   obtain rfl:=he.yes HSAY.out
   have ONLY10:Hid (∀ j:Nat,j<wr.heap.size→w10.heap[j]? = wr.heap[j]?):=fun j h1 =>(hb10.block j (Nat.lt_of_lt_of_le h1 HSZ9.out)).trans (ONLY9.out j h1)
   have HB10:=yh (HB9.out.trans (hb10.mono HB9.out.size))
   clear hb10 he
   refine hK _ _ ONLY10.out ?_
   clear hK K
   refine zAB 24 (.bool true) rfl (by kernel_rfl) (by kernel_rfl) (by kernel_rfl) (fun _ _ _ h =>h) (by kernel_rfl) ONLY10.out (fun _ _ =>by kernel_rfl) ?_
   refine zAB 25 (.bool true) rfl (by kernel_rfl) (by kernel_rfl) (by kernel_rfl) (fun _ _ _ h =>h) (by kernel_rfl) ONLY10.out (fun _ _ =>by kernel_rfl) ?_
   refine wpAnyH_done (by kernel_rfl) ?_ _
   go_simp
   go_wp2
   go_ret
   exact ⟨rfl,HB10.out⟩
theorem zJf (v:Nat) (A:Option Addr) (n c a N m G:Nat) (ha:a<65536) (hNa:N<a) (xs:List Rw) (B:List UInt8) (w:World) (hC:zGS v A n c N N xs B w) (h8:8≤N) (hm:m≤n) (hc:n≤c)
  (hG:G=eo (v:Int) xs m) (hek:Hid (∀ i,i≤n→(eo (v:Int) xs i≤N ↔ i≤m))) (hsay0:∀ i,i≤n→eo (v:Int) xs i≤N)
  (HAN:Hid (A=none→c=0)) (HRD:Hid (∀ W,Below w.heap.size w W→Recs W W.heap.size A n xs))
  (HG2:Hid (∀ W,Below w.heap.size w W→∀ A1 c1,N≤c1→zAD W W.heap.size 1 A1 N ((B.take N).map bv)→Calls Tryd.prog 8 #[.slice A1 N c1] W (zCB v xs m W))) :
  Calls Tryd.prog 3 #[.int .i64 (v:Int),.slice A n c,.int .u16 (a:Int)] w fun e w' =>e=.returned (.bool true)∧Below w.heap.size w w':=by
 have HM:=yh hm
 have HCC:=yh hc
 have HGG:=yh hG
 have HSA:=yh hsay0
 have hn30:=hC.n30.out
 have hfew:=hC.few.out
 clear hm hc hG hsay0
 have HGR:=hC.great
 have HPUT:=hC.put
 have HGET:=hC.get
 have hw0:IntKind.i64.wrap (a:Int)=(a:Int):=by rw [IntKind.wrap_i64];omega
 have HEO:=hC.eoN
 go_enter Tryd.func3,Tryd.ntmps3
 go_wp2_with fail
 refine HGR.out.mono ?_
 rintro e w2 ⟨rfl,hb2⟩
 have HB2:=yh hb2
 clear hb2
 go_wp2_with fail
 refine (HPUT.out _ HB2.out).mono ?_
 rintro e w3 ⟨⟨A1,c1,rfl,hc1,hr1⟩,hb3⟩
 have HB3:=yh (HB2.out.trans (hb3.mono HB2.out.size))
 have HC1:=yh hc1
 have HR3:=yh hr1
 clear hb3 hr1
 go_wp2_with fail
 refine (HGET.out _ HB3.out A1 c1 HC1.out HR3.out).mono ?_
 rintro e w4 ⟨⟨A3,E3,c3,d3,zs,rfl,_,_,_,hoe⟩,hb4⟩
 rw [HEO.out]
 have HR4:=yh ((HR3.out.below hb4).more hb4.size)
 have HB4:=yh (HB3.out.trans (hb4.mono HB3.out.size))
 obtain ⟨_,_,he,_,hre⟩:=zAe hoe
 cases he
 have hx4:=zAG w4 (.cells #[.int .i64 (v:Int),.slice A3 n c3,.slice E3 n d3,.int .i64 (N:Int)] 32)
 have hb45:=(Below.refl w4.heap.size w4).alloc (Nat.le_refl _) (.cells #[.int .i64 (v:Int),.slice A3 n c3,.slice E3 n d3,.int .i64 (N:Int)] 32)
 obtain ⟨w6,hw6⟩:∃ x,x=w4.alloc (.cells #[.int .i64 (v:Int),.slice A3 n c3,.slice E3 n d3,.int .i64 (N:Int)] 32):=⟨_,rfl⟩
 have p0:=zAA (i:=0) hx4 rfl;have p2:=zAA (i:=2) hx4 rfl;have p3:=zAA (i:=3) hx4 rfl
 rw [← hw6] at hx4 hb45
 have HB6:=yh (HB4.out.trans (hb45.mono HB4.out.size))
 have HRK:Hid (zAD w6 w6.heap.size 1 A1 N ((B.take N).map bv)):=by
  show zAD _ _ _ _ _ _
  rw [List.map_take]
  exact (((HR4.out.below hb45).more hb45.size).take hC.kN.out)
 have HRE:=yh ((hre.below hb45).more hb45.size)
 have HX6:=yh hx4
 have HW6:=yh hw6
 have hkc:N≤c1:=by omega
 have hsl:∀ W:World,(Instr.sliceAt 26 (.slice A1 N c1) none (some (.int .i64 (N:Int))) none).run Tryd.prog W=.ok (.slice A1 N c1) W:=fun W =>by
  have hk0:(0:Int)≤(N:Int):=by omega
  have hkc2:(N:Int)≤(c1:Int):=by omega
  obtain ⟨ad,rfl,_⟩:=HR4.out.2 (by have:=hC.few.out.2;omega)
  go_simp
 clear hb4 hoe hre hx4 hb45 hw6 hc1
 go_wp2_with fail
 rw [← HW6.out]
 have hlow:decide (N<8)=false:=decide_eq_false (by omega)
 have hlow2:decide ((N:Int)<8)=false:=by rw [decide_eq_false_iff_not];omega
 go_wp2_with fail
 refine (HG2.out w6 HB6.out A1 c1 hkc HRK.out).mono ?_
 rintro e w7 ⟨⟨A4,E4,c4,d4,zs2,rfl,hsay,hzn,hrc,hoe4⟩,hb7⟩
 rw [← HGG.out]
 have hx7:=zAG w7 (.cells #[.int .i64 (v:Int),.slice A4 m c4,.slice E4 m d4,.int .i64 (G:Int)] 32)
 have hb78:=(Below.refl w7.heap.size w7).alloc (Nat.le_refl _) (.cells #[.int .i64 (v:Int),.slice A4 m c4,.slice E4 m d4,.int .i64 (G:Int)] 32)
 obtain ⟨w8,hw8⟩:∃ x,x=w7.alloc (.cells #[.int .i64 (v:Int),.slice A4 m c4,.slice E4 m d4,.int .i64 (G:Int)] 32):=⟨_,rfl⟩
 rw [← hw8] at hx7 hb78
 have hb68:=hb7.trans (hb78.mono hb7.size)
 have HB8:=yh (HB6.out.trans (hb68.mono HB6.out.size))
 have hx8:=(hb68.block w4.heap.size (Array.getElem?_eq_some_iff.1 HX6.out).1).trans HX6.out
 have HRE8:=yh ((HRE.out.below hb68).more hb68.size)
 have HRC:=yh ((hrc.below hb78).more hb78.size)
 have HSAY:=yh hsay
 have HZN:=yh hzn
 have HPL:Hid (w7.heap.size<w8.heap.size):=(Array.getElem?_eq_some_iff.1 hx7).1
 have q0:=zAA (i:=0) hx7 rfl;have q1:=zAA (i:=1) hx7 rfl;have q3:=zAA (i:=3) hx7 rfl
 have p2:=zAA (i:=2) hx8 rfl
 rw [hw8] at p2
 have HW8:=yh hw8
 obtain ⟨zs,hzs⟩:∃ x,x=zs2:=⟨_,rfl⟩
 rw [← hzs] at HRC HSAY HZN
 clear hsay hzn hrc hoe4 hb7 hb78 hb68 hx7 hx8 hw8 hzs
 go_wp2_with fail
 rw [← HW8.out]
 go_loopw [14,15,80] (fun v14 v15 v80 wr =>∃ i:Nat,i≤n∧v80=.int .i64 (i:Int)∧v14=.int .i64 ((min i m:Nat):Int)∧v15=.int .i64 ((eo (v:Int) xs (min i m):Nat):Int)∧wr=w8) (fun _ _ v80 _ =>n - (intOf v80).toNat)
 case atStart =>exact ⟨0,Nat.zero_le _,rfl,by simp,by rw [Nat.zero_min];rfl,rfl⟩
 case round =>
  obtain ⟨i,hi,rfl,rfl,rfl,rfl⟩:=hrel
  by_cases hlt:i<n
  ·obtain ⟨ad,u,rfl,hadb,hx,hcell⟩:=HRE8.out.at_ hlt
   obtain ⟨f,hf⟩:∃ f,f=eo (v:Int) xs (i+1):=⟨_,rfl⟩
   obtain rfl:u=.int .i64 (f:Int):=by
    rw [List.getElem?_map,List.getElem?_range hlt] at hx
    rw [hf]
    simpa [inv] using hx.symm
   have hle:=hek.out (i+1) (by omega)
   rw [← hf] at hle
   by_cases him:i+1≤m
   ·have hd:decide (f≤N)=true:=decide_eq_true (hle.2 him)
    have hd2:decide ((f:Int)≤(N:Int))=true:=by rw [decide_eq_true_iff];have:=hle.2 him;omega
    have e1:min (i+1) m=i+1:=by omega
    have e2:min i m=i:=by omega
    have E1:=yh e1
    have HF:=yh hf
    rw [e2]
    clear hx hf hle e1 e2
    go_wp2
    exact ⟨⟨i+1,by omega,by go_num,by rw [E1.out];go_num,by rw [E1.out,← HF.out],by first | rfl | trivial⟩,by simp [intOf];omega⟩
   ·have hd:decide (f≤N)=false:=decide_eq_false (fun h =>him (hle.1 h))
    have hd2:decide ((f:Int)≤(N:Int))=false:=by rw [decide_eq_false_iff_not];intro h;exact him (hle.1 (by omega))
    have e1:min (i+1) m=m:=by omega
    have e2:min i m=m:=by omega
    have E1:=yh e1
    rw [e2]
    clear hx hf hle e1 e2
    go_wp2
    exact ⟨⟨i+1,by omega,by go_num,by rw [E1.out],by rw [E1.out],by first | rfl | trivial⟩,by simp [intOf];omega⟩
  ·obtain rfl:n=i:=by omega
   have e2:min n m=m:=by have:=HM.out;omega
   rw [e2,← HGG.out]
   clear e2
   have hsl:∀ W:World,(Instr.sliceAt 22 (.slice A n c) none (some (.int .i64 (m:Int))) none).run Tryd.prog W=.ok (.slice A m c) W:=fun W =>by
    have hk0:(0:Int)≤(m:Int):=by omega
    have hkn:=HM.out
    have hcc:=HCC.out
    have hkc:(m:Int)≤(c:Int):=by omega
    cases A with
    | none =>
     have hc0:=HAN.out rfl
     have hk2:m=0:=by omega
     subst hc0
     subst hk2
     rfl
    | some ad =>go_simp
   have HSL:=yh hsl
   clear hsl
   go_wp2_with fail
   refine wp_region_held (S:=fun v =>∀ j:Nat,j<wr.heap.size→v.heap[j]? = wr.heap[j]?) (by kernel_rfl) (show wpAnyH _ _ _ _ _ _ _ _ (wr.drew) from ?_)
   have ONLY:Hid (∀ j:Nat,j<wr.heap.size→wr.drew.heap[j]? = wr.heap[j]?):=fun _ _ =>rfl
   have HD:Hid (Below w.heap.size w wr.drew):=HB8.out.drew
   have HD8:Hid (Below wr.heap.size wr wr.drew):=(Below.refl _ _).drew
   have HSZ0:Hid (wr.heap.size≤wr.drew.heap.size):=Nat.le_refl _
   obtain ⟨W0,hW0⟩:∃ x,x=wr.drew:=⟨_,rfl⟩
   rw [← hW0] at ONLY HD HD8 HSZ0 ⊢
   clear hW0
   refine zAS 0 rfl (by kernel_rfl) (by kernel_rfl) (fun K hK =>?_)
   go_simp
   refine (hC.fix.out W0 HD.out).mono ?_
   rintro e w9 ⟨rfl,hb9⟩
   have ONLY9:Hid (∀ j:Nat,j<wr.heap.size→w9.heap[j]? = wr.heap[j]?):=fun j h1 =>(hb9.block j (Nat.lt_of_lt_of_le h1 HSZ0.out)).trans (ONLY.out j h1)
   have HB9:=yh (HD.out.trans (hb9.mono HD.out.size))
   have HBQ:Hid (Below wr.heap.size wr w9):=HD8.out.trans (hb9.mono HSZ0.out)
   have HSZ9:Hid (wr.heap.size≤w9.heap.size):=Nat.le_trans HSZ0.out hb9.size
   clear hb9
   refine hK _ _ ONLY9.out ?_
   clear hK K
   refine zAB 1 (.bool true) rfl (by kernel_rfl) (by kernel_rfl) (by kernel_rfl) (fun _ _ _ h =>h) (by kernel_rfl) ONLY9.out (fun _ _ =>by kernel_rfl) ?_
   refine zAB 2 (.int .i64 0) rfl (by kernel_rfl) (by kernel_rfl) (by kernel_rfl) (fun _ _ _ h =>h) (by kernel_rfl) ONLY9.out (fun _ _ =>by kernel_rfl) ?_
   refine zAB 3 (.bool true) rfl (by kernel_rfl) (by kernel_rfl) (by kernel_rfl) (fun _ _ _ h =>h) (by kernel_rfl) ONLY9.out (by intro v1 hv;go_simp) ?_
   refine zAB 4 (.bool true) rfl (by kernel_rfl) (by kernel_rfl) (by kernel_rfl) (fun _ _ _ h =>h) (by kernel_rfl) ONLY9.out (fun _ _ =>by kernel_rfl) ?_
   refine zAB 5 (.bool true) rfl (by kernel_rfl) (by kernel_rfl) (by kernel_rfl) (fun _ _ _ h =>h) (by kernel_rfl) ONLY9.out (fun _ _ =>by kernel_rfl) ?_
   refine zAB 6 (.pointer (some ⟨w7.heap.size,0,none⟩)) rfl (by kernel_rfl) (by kernel_rfl) (by kernel_rfl) (fun _ _ _ h =>h) (by kernel_rfl) ONLY9.out (fun _ _ =>by kernel_rfl) ?_
   refine zAB 7 (.int .i64 (v:Int)) rfl (by kernel_rfl) (by kernel_rfl) (by kernel_rfl) (fun _ _ _ h =>h) (by kernel_rfl) ONLY9.out (by intro v1 hv;have q:=(zBq hv HPL.out).trans q0;go_simp) ?_
   refine zAB 8 (.int .i64 (v:Int)) rfl (by kernel_rfl) (by kernel_rfl) (by kernel_rfl) (fun _ _ _ h =>h) (by kernel_rfl) ONLY9.out (fun _ _ =>by kernel_rfl) ?_
   refine zAB 9 (.bool true) rfl (by kernel_rfl) (by kernel_rfl) (by kernel_rfl) (fun _ _ _ h =>h) (by kernel_rfl) ONLY9.out (by intro v1 hv;go_simp) ?_
   refine zAB 10 (.bool true) rfl (by kernel_rfl) (by kernel_rfl) (by kernel_rfl) (fun _ _ _ h =>h) (by kernel_rfl) ONLY9.out (fun _ _ =>by kernel_rfl) ?_
   refine zAB 11 (.bool true) rfl (by kernel_rfl) (by kernel_rfl) (by kernel_rfl) (fun _ _ _ h =>h) (by kernel_rfl) ONLY9.out (fun _ _ =>by kernel_rfl) ?_
   refine zAB 12 (.pointer (some ⟨w7.heap.size,3,none⟩)) rfl (by kernel_rfl) (by kernel_rfl) (by kernel_rfl) (fun _ _ _ h =>h) (by kernel_rfl) ONLY9.out (fun _ _ =>by kernel_rfl) ?_
   refine zAB 13 (.int .i64 (G:Int)) rfl (by kernel_rfl) (by kernel_rfl) (by kernel_rfl) (fun _ _ _ h =>h) (by kernel_rfl) ONLY9.out (by intro v1 hv;have q:=(zBq hv HPL.out).trans q3;go_simp) ?_
   refine zAB 14 (.int .i64 (G:Int)) rfl (by kernel_rfl) (by kernel_rfl) (by kernel_rfl) (fun _ _ _ h =>h) (by kernel_rfl) ONLY9.out (fun _ _ =>by kernel_rfl) ?_
   refine zAB 15 (.bool true) rfl (by kernel_rfl) (by kernel_rfl) (by kernel_rfl) (fun _ _ _ h =>h) (by kernel_rfl) ONLY9.out (by intro v1 hv;go_simp) ?_
   refine zAB 16 (.bool true) rfl (by kernel_rfl) (by kernel_rfl) (by kernel_rfl) (fun _ _ _ h =>h) (by kernel_rfl) ONLY9.out (fun _ _ =>by kernel_rfl) ?_
   refine zAB 17 (.bool true) rfl (by kernel_rfl) (by kernel_rfl) (by kernel_rfl) (fun _ _ _ h =>h) (by kernel_rfl) ONLY9.out (fun _ _ =>by kernel_rfl) ?_
   refine zAB 18 (.pointer (some ⟨w7.heap.size,1,none⟩)) rfl (by kernel_rfl) (by kernel_rfl) (by kernel_rfl) (fun _ _ _ h =>h) (by kernel_rfl) ONLY9.out (fun _ _ =>by kernel_rfl) ?_
   refine zAB 19 (.slice A4 m c4) rfl (by kernel_rfl) (by kernel_rfl) (by kernel_rfl) (fun _ _ _ h =>h) (by kernel_rfl) ONLY9.out (by intro v1 hv;have q:=(zBq hv HPL.out).trans q1;go_simp) ?_
   refine zAB 20 (.slice A n c) rfl (by kernel_rfl) (by kernel_rfl) (by kernel_rfl) (fun _ _ _ h =>h) (by kernel_rfl) ONLY9.out (fun _ _ =>by kernel_rfl) ?_
   refine zAB 21 (.int .i64 (m:Int)) rfl (by kernel_rfl) (by kernel_rfl) (by kernel_rfl) (fun _ _ _ h =>h) (by kernel_rfl) ONLY9.out (fun _ _ =>by kernel_rfl) ?_
   refine zAB 22 (.slice A m c) rfl (by kernel_rfl) (by kernel_rfl) (by kernel_rfl) (fun _ _ _ h =>h) (by kernel_rfl) ONLY9.out (by intro v1 hv;have z1:=HSL.out v1;go_simp) ?_
   refine zAS 23 rfl (by kernel_rfl) (by kernel_rfl) (fun K hK =>?_)
   go_simp
   have hbq:=HBQ.out
   refine (zEe A4 A m m c4 c zs (xs.take m) (by have:=HM.out;have:=hC.n30.out;unfold maxLen;omega) (by have:=HM.out;have:=hC.n30.out;unfold maxLen;omega) HZN.out w9 ((HRC.out.below hbq).more hbq.size) (zDd (HRD.out w9 HB9.out) HM.out)).mono ?_
   rintro e w10 ⟨he,hb10⟩
   obtain rfl:=he.yes HSAY.out
   have ONLY10:Hid (∀ j:Nat,j<wr.heap.size→w10.heap[j]? = wr.heap[j]?):=fun j h1 =>(hb10.block j (Nat.lt_of_lt_of_le h1 HSZ9.out)).trans (ONLY9.out j h1)
   have HB10:=yh (HB9.out.trans (hb10.mono HB9.out.size))
   clear hb10 he
   refine hK _ _ ONLY10.out ?_
   clear hK K
   refine zAB 24 (.bool true) rfl (by kernel_rfl) (by kernel_rfl) (by kernel_rfl) (fun _ _ _ h =>h) (by kernel_rfl) ONLY10.out (fun _ _ =>by kernel_rfl) ?_
   refine zAB 25 (.bool true) rfl (by kernel_rfl) (by kernel_rfl) (by kernel_rfl) (fun _ _ _ h =>h) (by kernel_rfl) ONLY10.out (fun _ _ =>by kernel_rfl) ?_
   refine wpAnyH_done (by kernel_rfl) ?_ _
   go_simp
   go_wp2
   go_ret
   exact ⟨rfl,HB10.out⟩
theorem zJM (ver:Int) (A:Option Addr) (n c a:Nat) (ha:a<65536) (hc:n≤c) (hA:A=none→c=0) (xs:List Rw) (hn:n≤maxLen) (hf:∀ x ∈ xs,(Fits x.r x.l∧x.n≤maxLen)∧Nums x.r x.l) (w:World) (hl:Laid w) (h:Recs w w.heap.size A n xs) :
  Calls Tryd.prog 3 #[.int .i64 ver,.slice A n c,.int .u16 (a:Int)] w fun e w' =>e=.returned (.bool true)∧Below w.heap.size w w':=by
 by_cases sm:zBE xs
 ·have HL:xs.length=n:=h.len
  have h30:xs.length≤30:=sm.2
  have hf2:∀ x ∈ xs,Fits x.r x.l∧Nums x.r x.l∧x.n≤1000:=fun x hx =>⟨(hf x hx).1.1,(hf x hx).2,by have h1:=(h.2 x hx).1.1;rw [zAg] at h1;have h2:=(sm.1 x hx).2.1;omega⟩
  by_cases hv:1≤ver∧ver≤3
  ·obtain ⟨v,rfl⟩:∃ v:Nat,ver=(v:Int):=⟨ver.toNat,by omega⟩
   have hv2:1≤v∧v≤3:=by omega
   by_cases hm:zAo (v:Int) xs
   ·obtain ⟨f1,f2,f3,f4⟩:=zCT hm h30
    obtain ⟨N,hN⟩:∃ N,N=(zAq v (v:Int) xs).length:=⟨_,rfl⟩
    have hN2:N=eo (v:Int) xs n:=by rw [hN,zGb,HL]
    have hN8:N=8+(frs (zAE (v:Int) [] xs)).length:=by rw [hN];unfold zAq;rw [List.length_append,zAz]
    obtain ⟨k,hk⟩:∃ k,k=min a N:=⟨_,rfl⟩
    have hfit:∀ x ∈ xs,Fits x.r x.l:=fun x hx =>(hf2 x hx).1
    have hl60:∀ x ∈ xs,x.l.length≤1000000:=fun x hx =>by have:=(sm.1 x hx).2.1;omega
    have hgrow:∀ i,i≤n→eo (v:Int) xs i≤N:=fun i hi =>by
     rcases Nat.lt_or_ge i n with h1 | h1
     ·have:=zEi (v:Int) xs h1 (by omega);omega
     ·obtain rfl:i=n:=by omega
      omega
    have hGET:∀ (q:Nat),8≤q→q≤N→∃ m,m≤n∧(∀ i,i≤n→(eo (v:Int) xs i≤q ↔ i≤m))∧∀ W,Below w.heap.size w W→∀ A1 c1,q≤c1→zAD W W.heap.size 1 A1 q (((zAq v (v:Int) xs).take q).map bv)→Calls Tryd.prog 8 #[.slice A1 q c1] W (zCB v xs m W):=fun q hq8 hqN =>by
     obtain ⟨m,j,m1,m2,m3,m4,m5⟩:=zJe v (v:Int) xs hm h30 q hq8 (by rw [← hN];exact hqN)
     refine ⟨m,by omega,fun i hi =>m2 i (by omega),fun W hb A1 c1 hc1 hr1 =>?_⟩
     exact zEn v xs hm hfit hl60 h30 m j m1 m4 m5 _ q (zMs hv2 xs q hq8) m3 A1 c1 hc1 (by omega) W (hl.below hb) hr1
    have hC:zGS v A n c N k xs (zAq v (v:Int) xs) w:=by
     refine ⟨?_,?_,?_,fun W hb =>zBh W (hl.below hb),hN2.symm,by show _≤_;omega,⟨by omega,by omega⟩,by show _≤_;omega⟩
     ·refine (zBj A n c xs hn (fun x hx =>(hf x hx).1) w h).mono ?_
      rintro e w2 ⟨he,hb2⟩
      exact ⟨he.no (fun h =>h sm),hb2⟩
     ·intro W hb
      refine (zDH v hv2 xs A n c (by omega) hf2 W (hl.below hb) ((h.below hb).more hb.size)).mono ?_
      rintro e w1 ⟨h1,hb1⟩
      refine ⟨?_,hb1⟩
      rcases h1 with ⟨_,u,rfl,ho⟩ | ⟨hno,_⟩
      ·rw [← hN] at ho
       obtain ⟨A1,c1,rfl,hc1,hr1⟩:=zAe ho
       exact ⟨A1,c1,rfl,hc1,hr1⟩
      ·exact absurd hm hno
     ·intro W hb A1 c1 hc1 hr1
      obtain ⟨m,m1,m2,m3⟩:=hGET N (by omega) (Nat.le_refl _)
      obtain rfl:m=n:=by have:=(m2 n (Nat.le_refl _)).1 (by omega);omega
      exact m3 W hb A1 c1 hc1 (by rw [hN,List.take_length,← hN];exact hr1)
    by_cases h8:k<8
    ·obtain rfl:k=a:=by omega
     have hC2:=hC
     refine zIo v A n c N k (by omega) xs _ w hC2 (by omega) (yh fun W hb A1 c1 hc1 hr1 =>?_)
     have hs:vg ((zAq v (v:Int) xs).take k)=(0,2):=zLZ (by rw [List.length_take];omega)
     have h1:=zKZ A1 k c1 _ hc1 (by omega) (by rw [hs];omega) W (hl.below hb) hr1
     rw [hs] at h1
     exact h1
    ·obtain ⟨m,m1,m2,m3⟩:=hGET k (by omega) (by omega)
     rcases Nat.lt_or_ge N a with h9 | h9
     ·obtain rfl:k=N:=by omega
      exact zJf v A n c a k m (eo (v:Int) xs m) ha h9 xs _ w hC (by omega) m1 hc rfl (yh m2) hgrow (yh hA) (yh fun W hb =>(h.below hb).more hb.size) (yh m3)
     ·obtain rfl:k=a:=by omega
      exact zIx v A n c N k m (eo (v:Int) xs m) ha xs _ w hC (by omega) m1 hc rfl (yh m2) hgrow (yh hA) (yh fun W hb =>(h.below hb).more hb.size) (yh m3)
   ·refine zFy (v:Int) 1 (by omega) A n c a xs hn (fun x hx =>(hf x hx).1) w hl h sm (yh fun W hb =>?_)
    refine (zDH v hv2 xs A n c (by omega) hf2 W (hl.below hb) ((h.below hb).more hb.size)).mono ?_
    rintro e w1 ⟨h1,hb1⟩
    rcases h1 with ⟨hy,_⟩ | ⟨_,rfl⟩
    ·exact absurd hy hm
    ·exact ⟨rfl,hb1⟩
  ·exact zFy ver 11 (by omega) A n c a xs hn (fun x hx =>(hf x hx).1) w hl h sm (yh fun W _ =>zKf ver hv A n c W)
 ·exact zHa ver A n c a xs hn (fun x hx =>(hf x hx).1) w hl h sm
end Go.Proofs.YtoclafdidjpndaaDoor
