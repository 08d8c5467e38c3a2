/- Texts of one proof. -/
import Derived.Lib.MinMax
import Derived.Test.YtfbgmehicmpdiaaGreatDoorMx21
import Derived.Test.YtfbgmehicmpdiaaGreatDoorMx46
set_option maxRecDepth 100000
set_option maxHeartbeats 8000000
namespace Go.Proofs.YtfbgmehicmpdiaaGreatDoor
open Go.RowKit
theorem zEj {w W:World} {base p b m:Nat} {T:Nat→Prop} (xs:List Rw) (u:Nat) (hu:xs.length=u) (hm:zAj 3 xs) (hf:∀ x ∈ xs,Fits x.r x.l) (hl60:∀ x ∈ xs,x.l.length≤1000000) (h30:xs.length≤30) (hl:Laid W) (h:JT w base p b T (Jz (zAT 3 3 xs)) m W) :
  Calls Tryz.prog 14 #[.pointer (some ⟨p,0,none⟩),.string (tx [108,111,103])] W fun e w' =>(∃ A3 E3 c3 d3 zs,e=.returned (.tuple #[.agg #[.int .i64 3,.slice A3 u c3,.slice E3 u d3,.int .i64 (eo 3 xs u:Int)],.int .i64 0])∧zs.map Rw.say=xs.map Rw.say∧(∀ z ∈ zs,z.n≤1000000)∧zAo w' W.heap.size u (.slice A3 u c3) (.slice E3 u d3) zs (zBr 3 xs u))∧Below W.heap.size W w':=by
 obtain ⟨σ,N,F,h1,h2,h3,h4,_,h5,hj⟩:=h
 refine (zFs p b N base σ F [108,111,103] (by unfold maxLen;simp) 3 u (by omega) xs hu hm hf hl60 h30 _ hj.log W hl h1).mono ?_
 rintro e w' ⟨⟨A3,E3,c3,d3,zs,rfl,hsay,hzn,hro⟩,hb⟩
 rw [List.take_of_length_le (by omega)] at hsay
 exact ⟨⟨A3,E3,c3,d3,zs,rfl,hsay,hzn,hro⟩,hb⟩
theorem zHH {w W:World} {base p b m:Nat} {T:Nat→Prop} {C:List UInt8} (h:JT w base p b T (Jz C) m W) (G:Nat) (hG:C.length=G) :
  Calls Tryz.prog 19 #[.pointer (some ⟨p,0,none⟩),.string (tx [108,111,103])] W fun e w' =>(∃ A' c',e=.returned (.tuple #[.slice A' G c',.int .i64 0]))∧Below W.heap.size W w':=by
 obtain ⟨σ,N,F,h1,h2,h3,h4,hT,h5,hj⟩:=h
 have h0:=zFQ p b N base σ.down σ.f σ.g σ.fl F [108,111,103] (by unfold maxLen;simp) ⟨C,C.length⟩ hj.log (by show C.length≤_;have:=hj.ja.le;omega) W h1.1 h1.2
 simp only [hG] at h0
 refine h0.mono ?_
 rintro e w2 ⟨⟨A',c',rfl,_⟩,hb2⟩
 exact ⟨⟨A',c',rfl⟩,hb2⟩
theorem zHN {w1 wr:World} {base p b u syn mm:Nat} {T:Nat→Prop} {xs:List Rw} (hu:u≤xs.length) (h30:xs.length≤30) (hl:Laid wr) (hok:∀ x ∈ xs,Fits x.r x.l∧Nums x.r x.l∧x.n≤1000) (hln:∀ x ∈ xs,x.l.length=x.n) (hM:zAj 3 (xs.take u)) (hs:syn≤u) (hmm:mm≤900)
  (h:JT w1 base p b T (fun σ =>∃ C q,(∃ u',syn≤u'∧u'≤u∧C=zAT 3 3 (xs.take u'))∧eo 3 xs syn≤q∧q≤C.length∧Jz (C.take q) σ) mm wr) :
  ∃ kk,syn≤kk∧kk≤u∧Calls Tryz.prog 14 #[.pointer (some ⟨p,0,none⟩),.string (tx [108,111,103])] wr fun e w' =>(∃ A3 E3 c3 d3 zs,e=.returned (.tuple #[.agg #[.int .i64 3,.slice A3 kk c3,.slice E3 kk d3,.int .i64 (eo 3 xs kk:Int)],.int .i64 0])∧zs.map Rw.say=(xs.take kk).map Rw.say∧(∀ z ∈ zs,z.n≤1000000)∧zAo w' wr.heap.size kk (.slice A3 kk c3) (.slice E3 kk d3) zs (zBr 3 xs kk))∧JT w1 base p b T (Jz (zAT 3 3 (xs.take kk))) (mm+2) w'∧Past T wr w':=by
 obtain ⟨C,q,⟨⟨u',h1,h2,rfl⟩,h3,h4⟩,hj⟩:=JT.ex (R:=fun C q =>(∃ u',syn≤u'∧u'≤u∧C=zAT 3 3 (xs.take u'))∧eo 3 xs syn≤q∧q≤C.length) (h.imp fun σ ⟨C,q,a,b,c,d⟩ =>⟨C,q,⟨a,b,c⟩,d⟩)
 have h5:=zLU 3 xs u' u q h2 h4
 have h6:(zAT 3 3 (xs.take u')).take q=(zAT 3 3 (xs.take u)).take q:=h5
 rw [h6] at hj
 have h8:8≤q:=by unfold eo at h3;omega
 have h7:(zAT 3 3 (xs.take u')).length≤(zAT 3 3 (xs.take u)).length:=by
  have e1:(zAT 3 3 (xs.take u')).length=eo 3 (xs.take u') (xs.take u').length:=zBp 3 (xs.take u')
  have e2:(zAT 3 3 (xs.take u)).length=eo 3 (xs.take u) (xs.take u).length:=zBp 3 (xs.take u)
  rw [e1,e2,List.length_take,List.length_take,Nat.min_eq_left (by omega),Nat.min_eq_left hu,zCS 3 xs (Nat.le_refl _),zCS 3 xs (Nat.le_refl _)]
  exact zOy 3 xs h2 hu
 obtain ⟨kk,k1,k2,k3⟩:=zJH 3 (by omega) (xs.take u) hM (fun x hx =>(hok x (List.mem_of_mem_take hx)).1) (fun x hx =>by have:=hok x (List.mem_of_mem_take hx);have:=hln x (List.mem_of_mem_take hx);omega) (by rw [List.length_take];omega) q h8 (by exact Nat.le_trans h4 h7) hl hj (by omega)
 rw [List.length_take,Nat.min_eq_left hu] at k1 k2
 refine ⟨kk,(k2 syn hs).1 (by rw [show eo ((3:Nat):Int) (xs.take u) syn=eo 3 (xs.take u) syn from rfl,zCS 3 xs hs];exact h3),k1,k3.mono ?_⟩
 rintro e w' ⟨⟨A3,E3,c3,d3,zs,rfl,hsay,hzn,hro⟩,hj2,hp⟩
 rw [List.take_take,Nat.min_eq_left k1] at hsay hj2
 have he1:eo ((3:Nat):Int) (xs.take u) kk=eo 3 xs kk:=zCS 3 xs k1
 have he2:zBr ((3:Nat):Int) (xs.take u) kk=zBr 3 xs kk:=by
  unfold zBr
  refine List.map_congr_left fun i hi =>?_
  have hi:=List.mem_range.1 hi
  rw [show eo ((3:Nat):Int) (xs.take u) (i+1)=eo 3 xs (i+1) from zCS 3 xs (by omega)]
 rw [he2] at hro
 rw [he1]
 exact ⟨⟨A3,E3,c3,d3,zs,rfl,hsay,hzn,hro⟩,hj2,hp⟩
theorem zNa (A:Option Addr) (n c x0 x1 x2 x3 kp k:Nat) (hx0:x0<256) (hx1:x1<256) (hx2:x2<256) (hkp:kp<65536) (hk:k≤n) (hmin:min (x0:Int) (n:Int)=(k:Int)) (hnc:n≤c) (hA:A=none→c=0) (xs:List Rw) (w:World) (hl:Laid w)
  (HG1:Hid (∀ W,Below w.heap.size w W→Calls Tryz.prog 6 #[.slice A n c] W fun e w' =>e=.returned (.bool false)∧Below W.heap.size W w'))
  (HFX:Hid (∀ W,Below w.heap.size w W→Calls Tryz.prog 7 #[] W fun e w' =>e=.returned (.bool true)∧Below W.heap.size W w'))
  (HBEG:Hid (∀ W,Below w.heap.size w W→Calls Tryz.prog 8 #[.int .i64 3,.slice A k c] W fun e w' =>e=.returned (.tuple #[.pointer (some ⟨W.heap.size+1,0,none⟩),.bool true])∧JT W W.heap.size (W.heap.size+1) W.heap.size (fun j =>j<W.heap.size) (Jz (zAT 3 3 (xs.take k))) 8 w'))
  (HRX:Hid (∀ W,Below w.heap.size w W→Recs W W.heap.size A n xs)) (hok:∀ x ∈ xs,Fits x.r x.l∧Nums x.r x.l∧x.n≤1000) (hln:∀ x ∈ xs,x.l.length=x.n) (hn:xs.length=n∧n≤30) (hM:zAj 3 (xs.take k)) :
  Calls Tryz.prog 4 #[.slice A n c,.agg #[.int .u8 (x0:Int),.int .u8 (x1:Int),.int .u8 (x2:Int),.int .u8 (x3:Int)],.int .u16 (kp:Int)] w fun e w' =>e=.returned (.bool true)∧Below w.heap.size w w':=by
 obtain ⟨ig,hig,hz0,hz1,hz2⟩:=info_parts (show (Tryz.prog.info? 46).map (fun i =>(i.zero,i.size,i.bytes))=some (some (.agg #[.int .i64 0,.string ⟨#[]⟩,.int .u64 0,.slice none 0 0,.int .u64 0,.int .u64 0,.string ⟨#[]⟩]),7,88) from by kernel_rfl)
 have HL:=yh hl
 have HOK:=yh hok
 have HLN:=yh hln
 have HN:=yh hn
 have HM:=yh hM
 have HK:=yh hk
 have HNC:=yh hnc
 have HAN:=yh hA
 have hbx0:=zAD w (.cells #[.int .u8 (x0:Int),.int .u8 (x1:Int),.int .u8 (x2:Int),.int .u8 (x3:Int)] 23)
 have hb0:=(Below.refl w.heap.size w).alloc (Nat.le_refl _) (.cells #[.int .u8 (x0:Int),.int .u8 (x1:Int),.int .u8 (x2:Int),.int .u8 (x3:Int)] 23)
 obtain ⟨w0,hw0⟩:∃ x,x=w.alloc (.cells #[.int .u8 (x0:Int),.int .u8 (x1:Int),.int .u8 (x2:Int),.int .u8 (x3:Int)] 23):=⟨_,rfl⟩
 rw [← hw0] at hbx0 hb0
 have HX0:=yh hbx0
 have HB0:=yh hb0
 have HW0:=yh hw0
 have gx0:IntKind.i64.wrap (x0:Int)=(x0:Int):=by rw [IntKind.wrap_i64];omega
 have hmn:∀ (ts:Array TypeId) (t:TypeId) (W:World),(Builtin.min_ ts t #[.int .i64 (x0:Int),.int .i64 (n:Int)]).run Tryz.prog W=.ok (.int .i64 (k:Int)) W:=fun ts t W =>by rw [Lib.run_min_ints,hmin]
 have hsl:∀ W:World,(Instr.sliceAt 22 (.slice A n c) none (some (.int .i64 (k:Int))) none).run Tryz.prog W=.ok (.slice A k c) W:=fun W =>by
  have hk0:(0:Int)≤(k:Int):=by omega
  have hkn:(k:Int)≤(n:Int):=by omega
  have hkc:(k:Int)≤(c:Int):=by omega
  cases A with
  | none =>
   obtain rfl:=hA rfl
   obtain rfl:k=0:=by omega
   go_simp
  | some ad =>go_simp
 obtain ⟨P,q,mc,hP,hq,hmc⟩:∃ (P:Option Addr) (q m:Nat),P=(if c=k then A else A.map (·.add (k * 7)))∧q=n - k∧m=c - k:=⟨_,_,_,rfl,rfl,rfl⟩
 have hsl2:∀ W:World,(Instr.sliceAt 22 (.slice A n c) (some (.int .i64 (k:Int))) none none).run Tryz.prog W=.ok (.slice P q mc) W:=fun W =>by
  rw [hP,hq,hmc]
  have hk0:(0:Int)≤(k:Int):=by omega
  have hkn:(k:Int)≤(n:Int):=by omega
  have hkc:(k:Int)≤(c:Int):=by omega
  cases A with
  | none =>
   obtain rfl:=hA rfl
   obtain rfl:k=0:=by omega
   obtain rfl:n=0:=by omega
   go_simp
  | some ad =>go_simp
 have HCUT:Hid (∀ W,Below w.heap.size w W→Recs W W.heap.size P q (xs.drop k)):=fun W hb =>by rw [hP,hq];exact (HRX.out W hb).cutk hk hnc
 have HQ:Hid (q=n - k):=hq
 clear hl hok hln hn hM hk hnc hA hbx0 hb0 hw0 hmin hP hq hmc
 go_enter Tryz.func4,Tryz.ntmps4
 go_wp2_with fail
 rw [← HW0.out]
 refine (HG1.out _ HB0.out).mono ?_
 rintro e w1 ⟨rfl,hb1⟩
 have HB1:=yh (HB0.out.trans (hb1.mono HB0.out.size))
 have HX1:=yh ((hb1.block w.heap.size (Array.getElem?_eq_some_iff.1 HX0.out).1).trans HX0.out)
 have c0:=zAA (i:=0) HX1.out rfl
 have HWB:Hid (w.heap.size<w1.heap.size):=zAJ HX1.out
 clear hb1
 go_wp2_with fail
 refine (HBEG.out w1 HB1.out).mono ?_
 rintro e w2 ⟨rfl,hj2⟩
 obtain ⟨bs,hbs⟩:∃ bs,bs=w1.heap.size:=⟨_,rfl⟩
 rw [← hbs] at hj2 ⊢
 have HBS:=yh hbs
 have HJ2:=yh hj2
 have HU2:=yh hj2.under
 have HBW2:Hid (Below w.heap.size w w2):=HB1.out.trans (hj2.under.1.mono (by have:=HWB.out;omega))
 have HLK:Hid ((xs.take k).length=k):=by have:=HN.out;have:=HK.out;show (xs.take k).length=k;rw [List.length_take];omega
 clear hj2 hbs c0
 go_wp2_with fail
 refine (zEj (xs.take k) k HLK.out HM.out (fun x hx =>(HOK.out x (List.mem_of_mem_take hx)).1) (fun x hx =>by have:=HOK.out x (List.mem_of_mem_take hx);have:=HLN.out x (List.mem_of_mem_take hx);omega) (by have:=HLK.out;have:=HN.out;have:=HK.out;omega) (HL.out.below HBW2.out) HJ2.out).mono ?_
 rintro e w3 ⟨⟨A3,E3,c3,d3,zs,rfl,hsay,hzn,hro⟩,hb3⟩
 have hee:eo 3 (xs.take k) k=eo 3 xs k:=zCS 3 xs (Nat.le_refl _)
 have hev:zBr 3 (xs.take k) k=zBr 3 xs k:=by
  unfold zBr
  refine List.map_congr_left fun i hi =>?_
  have hi:=List.mem_range.1 hi
  rw [zCS 3 xs (by omega)]
 rw [hee]
 rw [hev] at hro
 obtain ⟨bx,hbx⟩:∃ bx,bx=w3.heap.size:=⟨_,rfl⟩
 have hxf:=zAD w3 (.cells #[.int .i64 3,.slice A3 k c3,.slice E3 k d3,.int .i64 (eo 3 xs k:Int)] 37)
 have hb34:=(Below.refl w3.heap.size w3).alloc (Nat.le_refl _) (.cells #[.int .i64 3,.slice A3 k c3,.slice E3 k d3,.int .i64 (eo 3 xs k:Int)] 37)
 have q1:=zAA (i:=1) hxf rfl
 have hx4:=(hb34.block w.heap.size (by have:=HWB.out;have:=HBS.out;have:=HU2.out.2;have:=hb3.size;omega)).trans ((hb3.block w.heap.size (by have:=HWB.out;have:=HBS.out;have:=HU2.out.2;omega)).trans ((HU2.out.1.block w.heap.size (by have:=HWB.out;have:=HBS.out;omega)).trans HX1.out))
 have c1:=zAA (i:=1) hx4 rfl
 obtain ⟨y1,hy1⟩:∃ y1,y1=x1 % 32:=⟨_,rfl⟩
 have j1:(x1:Int).tmod 32=(y1:Int):=by rw [Int.tmod_eq_emod_of_nonneg (by omega),hy1];simp
 have j2:IntKind.u8.wrap (y1:Int)=(y1:Int):=by rw [IntKind.wrap_u8];omega
 have j3:IntKind.i64.wrap (y1:Int)=(y1:Int):=by rw [IntKind.wrap_i64];omega
 have hyb:y1≤31:=by omega
 obtain ⟨w4,hw4⟩:∃ x,x=w3.alloc (.cells #[.int .i64 3,.slice A3 k c3,.slice E3 k d3,.int .i64 (eo 3 xs k:Int)] 37):=⟨_,rfl⟩
 have hbb:=hb3.trans (by rw [← hw4] at hb34;exact hb34.mono hb3.size:Below w2.heap.size w3 w4)
 have HJ4:=yh (HJ2.out.wide hbb)
 have HRO4:Hid (zAo w4 w2.heap.size k (.slice A3 k c3) (.slice E3 k d3) zs (zBr 3 xs k)):=by rw [hw4];exact hro.below hb34
 have HXF:Hid (w4.heap[bx]? = some (.cells #[.int .i64 3,.slice A3 k c3,.slice E3 k d3,.int .i64 (eo 3 xs k:Int)] 37 (0,0))):=by rw [hw4,hbx];exact hxf
 have HBX:Hid (w2.heap.size≤bx∧bx<w4.heap.size):=by
  have:=hb3.size
  refine ⟨by omega,?_⟩
  rw [hw4,hbx];simp
 have HIT4:=yh (HRO4.out.inT (T:=fun j =>j<bs))
 have HW4:=yh hw4
 have HSAY:=yh hsay
 have HBXE:=yh hbx
 clear hsay hzn hro hb3 hee hev hxf hb34 hx4 hbb hw4 hy1 hbx
 go_wp2_with fail
 rw [← HW4.out,← HBXE.out]
 refine (zNc HJ4.out (y1:Int) (by omega)).mono ?_
 rintro e w5 ⟨rfl,hj5,hp5⟩
 clear q1 c1 j1 j2 j3 hyb
 have HX5:Hid (w5.heap[bx]? = some (.cells #[.int .i64 3,.slice A3 k c3,.slice E3 k d3,.int .i64 (eo 3 xs k:Int)] 37 (0,0))):=(hp5 bx (.inr HBX.out)).trans HXF.out
 have HRO5:=yh (HRO4.out.past HIT4.out hp5)
 have HJ5:=yh hj5
 have HU5:=yh hj5.under
 have HBX5:Hid (bx<w5.heap.size):=zAJ HX5.out
 have HBW5:Hid (Below w.heap.size w w5):=HB1.out.trans (hj5.under.1.mono (by have:=HWB.out;have:=HBS.out;omega))
 have hal5:=(Below.refl w5.heap.size w5).alloc (Nat.le_refl _) (.cells #[] 46)
 have HN6:=yh (zBl (HRX.out _ (HBW5.out.trans (hal5.mono HBW5.out.size))) HK.out).1
 have HLS5:Hid (bs≤w5.heap.size):=HU5.out.2
 clear hj5 hp5 hal5
 go_wp2_with (at_builtin;refine zBA _ rfl (.tmp 66) (.tmp 69) 22 rfl w5.heap.size 46 ig _ 7 88 Tryz.underlying22 hig hz0 hz1 hz2 rfl (by decide) (.slice (some ⟨w5.heap.size,0,none⟩) 0 0) 0 [] rfl (zKl _ _ _) A k c _ (rws (xs.take k)) rfl HAN.out HN6.out (zCf _) (by have:=HN.out;have:=HK.out;unfold maxLen;omega) (by have:=HN.out;have:=HK.out;omega) (by simp) ?_;intro v13 w6 ho6 hg6;rw [Nat.zero_add,List.nil_append] at ho6;have hb6:Below w5.heap.size w5 w6:=((Below.refl _ w5).alloc (Nat.le_refl _) _).grown hg6 (by simp) (fun k hk =>by simp [Value.ownBlock] at hk;omega);have HAP:Hid (ApSt w1 bs (bs+1) bs xs k k k bx 8 v13 w6):=⟨⟨_,8,A3,c3,E3,d3,zs,w2.heap.size,_,HJ5.out.wide hb6,Nat.le_refl _,by have h1:(zAT 3 3 (xs.take k)).length=eo 3 (xs.take k) (xs.take k).length:=zBp 3 (xs.take k);rw [h1,HLK.out,zCS 3 xs (Nat.le_refl _)];exact Nat.le_refl _,(hb6.block bx HBX5.out).trans HX5.out,HSAY.out,HRO5.out.below hb6,HIT4.out.wide (fun j hj =>.inl hj),.inl (.inr HBX.out),zAV ho6 HLS5.out,fun g hg =>⟨.inr ⟨zAG ho6 g hg,zAO ho6 g hg⟩,by have:=zAG ho6 g hg;have:=HBX5.out;omega,HRO5.out.apt (.inr (zAG ho6 g hg))⟩⟩,by have:=HBX.out;have:=HU2.out.2;omega,Nat.le_refl _,Nat.le_refl _,(HJ5.out.below hb6).under⟩;clear ho6 hg6 hb6 HJ5 HX5 HRO5 HN6)
 clear hmn hsl
 go_loopw [12,13,75] (fun v12 v13 v75 wr =>∃ (i syn:Nat),i≤q∧v75=.int .i64 (i:Int)∧v12=.int .i64 (syn:Int)∧ApSt w1 bs (bs+1) bs xs (k+i) (k+i) syn bx (8+4 * i) v13 wr∧zAj 3 (xs.take (k+i))) (fun _ _ v75 _ =>q - (intOf v75).toNat)
 case atStart =>exact ⟨0,k,Nat.zero_le _,rfl,rfl,HAP.out,HM.out⟩
 case round =>
  obtain ⟨i,syn,hiq,rfl,rfl,hst,hmay⟩:=hrel
  have HST:=yh hst
  have HMI:=yh hmay
  clear hst hmay
  have hq30:q≤30:=by have:=HQ.out;have:=HN.out;omega
  have HUN0:Hid (k+i≤n):=by have:=HQ.out;have:=HK.out;show k+i≤n;omega
  obtain ⟨A13,c13,rfl,hA13,hc13⟩:∃ A13 c13,u13=.slice A13 (k+i) c13∧(A13=none→c13=0)∧k+i≤c13:=by
   obtain ⟨T,m,_,_,_,_,_,_,_,_,_,_,_,_,_,_,_,ho,_⟩:=HST.out.ex
   obtain ⟨A',c',e,h⟩:=zAM ho
   exact ⟨A',c',e,h,by rw [e] at ho;exact zDu ho⟩
  have HLT13:Hid (∀ g,(Value.slice A13 (k+i) c13).ownBlock=some g→g<wr.heap.size):=by
   obtain ⟨T,m,_,_,_,_,_,_,_,_,_,_,_,_,_,_,_,ho,_⟩:=HST.out.ex
   exact fun g hg =>zAO ho g hg
  by_cases hlt:i<q
  ·obtain ⟨x,hx⟩:∃ x,xs[k+i]? = some x:=⟨_,List.getElem?_eq_getElem (by have:=HN.out;have:=HQ.out;have:=HK.out;omega)⟩
   have hbw:=HST.out.bw
   have HBWR:Hid (Below w.heap.size w wr):=HB1.out.trans (hbw.1.mono (by have:=HWB.out;have:=HBS.out;omega))
   have hdx:(xs.drop k)[i]? = some x:=by rw [List.getElem?_drop];exact hx
   obtain ⟨ad,rfl,_,e0,e1,e2,e3,e4,e5,e6⟩:=zCA (HCUT.out wr HBWR.out).1 i x hdx
   have hxm:=List.mem_of_getElem? hx
   have hrd:=(HRX.out wr HBWR.out).2 x hxm
   have HRD1:Hid (zAE w1 bs 3 x.A x.n (dps x.l)∧(x.A=none→x.c=0)):=by rw [HBS.out];exact yh ((HRX.out w1 HB1.out).2 x hxm)
   have HOKX:=yh (HOK.out x hxm)
   have HX:=yh hx
   have hix0:(0:Int)≤(i:Int):=by omega
   have hix1:(i:Int)<(q:Int):=by omega
   have HI:Hid (i<q):=hlt
   obtain ⟨r,xA,xn,xc,l⟩:=x
   simp only at e0 e1 e2 e3 e4 e5 e6 hrd
   have hx7:=zAD wr (.cells #[.int .i64 r.kind,.string (tx r.target),.int .u64 r.rule,.slice xA xn xc,.int .u64 r.out,.int .u64 r.time,.string (tx r.tag)] 46)
   have l0:=zAA (i:=0) hx7 rfl
   have l1:=zAA (i:=1) hx7 rfl
   have l2:=zAA (i:=2) hx7 rfl
   have l3:=zAA (i:=3) hx7 rfl
   have l4:=zAA (i:=4) hx7 rfl
   have l5:=zAA (i:=5) hx7 rfl
   have l6:=zAA (i:=6) hx7 rfl
   have hb7:=(Below.refl wr.heap.size wr).alloc (Nat.le_refl _) (.cells #[.int .i64 r.kind,.string (tx r.target),.int .u64 r.rule,.slice xA xn xc,.int .u64 r.out,.int .u64 r.time,.string (tx r.tag)] 46)
   obtain ⟨w7,hw7⟩:∃ x,x=wr.alloc (.cells #[.int .i64 r.kind,.string (tx r.target),.int .u64 r.rule,.slice xA xn xc,.int .u64 r.out,.int .u64 r.time,.string (tx r.tag)] 46):=⟨_,rfl⟩
   rw [← hw7] at hb7 hx7
   have HST7:=yh (HST.out.below hb7)
   have HMY:=zNz 3 r xA xn xc l HOKX.out.2.2 HOKX.out.1 w7 ((hrd.1.below hb7).more hb7.size)
   unfold rcv at HMY
   have HMY:=yh HMY
   have HX7:=yh hx7
   have HW7:=yh hw7
   clear hx hbw hdx hxm hrd hx7 hb7 hw7 hlt
   go_wp2_with fail
   rw [← HW7.out]
   refine HMY.out.mono ?_
   rintro e w8 ⟨he,hb8⟩
   have HST8:=yh (HST7.out.below hb8)
   have HX8:=yh ((hb8.block wr.heap.size (zAJ HX7.out)).trans HX7.out)
   clear hb8 e0 e1 e2 e3 e4 e5 e6 l0 l1 l2 l3 l4 l5 l6 HMY
   by_cases hmy:MayP 3 r l
   ·obtain rfl:=he.yes hmy
    have l0:=zAA (i:=0) HX8.out rfl;have l1:=zAA (i:=1) HX8.out rfl;have l2:=zAA (i:=2) HX8.out rfl;have l3:=zAA (i:=3) HX8.out rfl;have l4:=zAA (i:=4) HX8.out rfl;have l5:=zAA (i:=5) HX8.out rfl;have l6:=zAA (i:=6) HX8.out rfl
    have hal8:=(Below.refl w8.heap.size w8).alloc (Nat.le_refl _) (.cells #[.int .i64 r.kind,.string (tx r.target),.int .u64 r.rule,.slice xA xn xc,.int .u64 r.out,.int .u64 r.time,.string (tx r.tag)] 46)
    have HSA8:Hid (w8.heap.size≤(w8.alloc (.cells #[.int .i64 r.kind,.string (tx r.target),.int .u64 r.rule,.slice xA xn xc,.int .u64 r.out,.int .u64 r.time,.string (tx r.tag)] 46)).heap.size):=hal8.size
    have HN8:=yh (zCO w8 ⟨r,xA,xn,xc,l⟩)
    have HST8a:=yh (HST8.out.below hal8)
    have HX8a:=yh ((hal8.block wr.heap.size (zAJ HX8.out)).trans HX8.out)
    have HO8:Hid ((w8.alloc (.cells #[.int .i64 r.kind,.string (tx r.target),.int .u64 r.rule,.slice xA xn xc,.int .u64 r.out,.int .u64 r.time,.string (tx r.tag)] 46)).ownsRow bs 46 7 (.slice A13 (k+i) c13) (k+i) (rws (xs.take (k+i)))):=by
     obtain ⟨T,m,_,_,_,_,_,_,_,_,_,_,_,_,_,_,_,ho,_⟩:=HST8a.out.ex
     exact ho
    have HM9:Hid (zAj 3 (xs.take (k+i+1))):=fun y hy =>by
     rw [List.take_add_one,HX.out] at hy
     rcases List.mem_append.1 hy with hy | hy
     ·exact HMI.out y hy
     ·obtain rfl:=List.mem_singleton.1 hy
      exact ⟨hmy,HOKX.out.2.1⟩
    have HUN:Hid (k+i+1≤n):=by have:=HQ.out;have:=HK.out;have:=HI.out;show k+i+1≤n;omega
    clear hal8 he hmy hA13 hc13
    go_wp2_with (at_builtin;refine zCC _ rfl (.tmp 83) (.tmp 85) 22 rfl bs 46 ig _ 7 88 Tryz.underlying22 hig hz0 hz1 hz2 rfl (by decide) (.slice A13 (k+i) c13) (k+i) (rws (xs.take (k+i))) rfl HO8.out (some ⟨w8.heap.size,0,none⟩) 1 1 (w8.heap.size+1) (rws [⟨r,xA,xn,xc,l⟩]) rfl (by intro h;cases h) HN8.out (zCf _) (by have:=HUN0.out;have:=HN.out;unfold maxLen;omega) (by have:=HUN0.out;have:=HN.out;omega) HST8a.out.bw.2 ?_;intro v14 w9 ho9 hg9 hv9;rw [← zCe,show xs.take (k+i)++[⟨r,xA,xn,xc,l⟩]=xs.take (k+i+1) from by rw [List.take_add_one,HX.out];rfl] at ho9;have HST9:=yh (HST8a.out.grow hg9 ho9 hv9);obtain ⟨A14,c14,rfl,hA14⟩:=zAM ho9;have hc14:k+i+1≤c14:=zDu ho9;have hx9:=(hg9.block wr.heap.size (Nat.lt_of_lt_of_le (zAJ HX8.out) HSA8.out) (fun e =>by have:=HLT13.out _ e.symm;omega)).trans HX8a.out;have HX9:=yh hx9;have l0:=zAA (i:=0) hx9 rfl;have l1:=zAA (i:=1) hx9 rfl;have l2:=zAA (i:=2) hx9 rfl;have l3:=zAA (i:=3) hx9 rfl;have l4:=zAA (i:=4) hx9 rfl;have l5:=zAA (i:=5) hx9 rfl;have l6:=zAA (i:=6) hx9 rfl;have HBW9:Hid (Below w.heap.size w w9):=HB1.out.trans (HST9.out.bw.1.mono (by have:=HWB.out;have:=HBS.out;omega));obtain ⟨A3',c3',E3',d3',hbx9,hcall⟩:=zLF HST9.out (by have:=HN.out;omega) (HL.out.below HBW9.out) HOK.out HM9.out ⟨r,xA,xn,xc,l⟩ HX.out HRD1.out (by have:=HUN0.out;have:=HN.out;omega);have HCALL:=yh hcall;have HBX9:=yh hbx9;have m0:=zAA (i:=0) hbx9 rfl;have m1:=zAA (i:=1) hbx9 rfl;have m2:=zAA (i:=2) hbx9 rfl;have m3:=zAA (i:=3) hbx9 rfl;clear ho9 hg9 hv9 hx9 hbx9 hcall)
    refine HCALL.out.mono ?_
    rintro e w10 (⟨A',c',E',d',rfl,hbx10,hlt10,hnext⟩ | ⟨rfl,hpo⟩)
    ·have hxn:=zAD w10 (.cells #[.int .i64 3,.slice A' (k+i+1) c',.slice E' (k+i+1) d',.int .i64 (eo 3 xs (k+i+1):Int)] 37)
     have n0:=zAA (i:=0) hxn rfl;have n1:=zAA (i:=1) hxn rfl;have n2:=zAA (i:=2) hxn rfl;have n3:=zAA (i:=3) hxn rfl
     have hal:=(Below.refl w10.heap.size w10).alloc (Nat.le_refl _) (.cells #[.int .i64 3,.slice A' (k+i+1) c',.slice E' (k+i+1) d',.int .i64 (eo 3 xs (k+i+1):Int)] 37)
     have hbr:=(hal.block bx hlt10).trans (hbx10.trans HBX9.out)
     have r0:=zAA (i:=0) hbr rfl;have r1:=zAA (i:=1) hbr rfl;have r2:=zAA (i:=2) hbr rfl;have r3:=zAA (i:=3) hbr rfl
     have y0:=zAC (i:=0) hbr;have y1:=zAC (i:=1) hbr;have y2:=zAC (i:=2) hbr;have y3:=zAC (i:=3) hbr
     have g0:=zBb (W:=w10.alloc (.cells #[.int .i64 3,.slice A' (k+i+1) c',.slice E' (k+i+1) d',.int .i64 (eo 3 xs (k+i+1):Int)] 37)) (b:=bx) (.int .i64 3) (.slice A' (k+i+1) c') (.slice E' (k+i+1) d') (.int .i64 (eo 3 xs (k+i+1):Int))
     have hx5:=zAF (zAF (zAF (zAF hbr 0 (.int .i64 3)) 1 (.slice A' (k+i+1) c')) 2 (.slice E' (k+i+1) d')) 3 (.int .i64 (eo 3 xs (k+i+1):Int))
     have HST12:=yh (hnext _ hx5 ((Turn.of_below hal).grown g0 (fun j e _ =>(Option.some.inj e).symm)))
     have hbw:=HST12.out.bw
     have c2:=zAA (i:=2) ((hbw.1.block w.heap.size (by have:=HWB.out;have:=HBS.out;omega)).trans HX1.out) rfl
     obtain ⟨z2,hz2⟩:∃ z2,z2=x2 % 4:=⟨_,rfl⟩
     obtain ⟨z4,hz4⟩:∃ z4,z4=i % 4:=⟨_,rfl⟩
     have i1:(x2:Int).tmod 4=(z2:Int):=by rw [Int.tmod_eq_emod_of_nonneg (by omega),hz2];simp
     have i2:(i:Int).tmod 4=(z4:Int):=by rw [Int.tmod_eq_emod_of_nonneg (by omega),hz4];simp
     have i3:IntKind.u8.wrap (z2:Int)=(z2:Int):=by rw [IntKind.wrap_u8];omega
     have i4:IntKind.i64.wrap (z2:Int)=(z2:Int):=by rw [IntKind.wrap_i64];omega
     have i5:IntKind.i64.wrap (z4:Int)=(z4:Int):=by rw [IntKind.wrap_i64];omega
     obtain ⟨w12,hw12⟩:∃ x,x=((((w10.alloc (.cells #[.int .i64 3,.slice A' (k+i+1) c',.slice E' (k+i+1) d',.int .i64 (eo 3 xs (k+i+1):Int)] 37)).setCell ⟨bx,0,none⟩ (.int .i64 3)).setCell ⟨bx,1,none⟩ (.slice A' (k+i+1) c')).setCell ⟨bx,2,none⟩ (.slice E' (k+i+1) d')).setCell ⟨bx,3,none⟩ (.int .i64 (eo 3 xs (k+i+1):Int)):=⟨_,rfl⟩
     rw [← hw12] at HST12
     have HW12:=yh hw12
     clear hxn hal hbr g0 hx5 hbw hw12 hz2 hz4 hnext hbx10 hlt10 l0 l1 l2 l3 l4 l5 l6 m0 m1 m2 m3
     by_cases hsy:z4=z2
     ·subst hsy
      go_wp2_with fail
      rw [← HW12.out]
      refine (zOs HST12.out (by have:=HUN.out;have:=HN.out;omega) (by have:=HUN.out;have:=HN.out;omega)).mono ?_
      rintro e w13 ⟨en,rfl,⟨rfl,hs⟩ | ⟨rfl,hs⟩⟩
      ·have HS:=yh hs
       clear hs
       go_wp2
       exact ⟨⟨i+1,k+i+1,by have:=HI.out;omega,by go_num,by go_num,HS.out,HM9.out⟩,by simp [intOf];have:=HI.out;omega⟩
      ·have HS:=yh hs
       clear hs
       go_wp2
       exact ⟨⟨i+1,syn,by have:=HI.out;omega,by go_num,rfl,HS.out,HM9.out⟩,by simp [intOf];have:=HI.out;omega⟩
     ·have hs1:((z4:Int) == (z2:Int))=false:=by simpa using fun e =>hsy (by omega)
      have hs2:¬ (z4:Int)=(z2:Int):=by omega
      go_wp2
      rw [← HW12.out]
      exact ⟨⟨i+1,syn,by have:=HI.out;omega,by go_num,rfl,HST12.out.more (by omega),HM9.out⟩,by simp [intOf];have:=HI.out;omega⟩
    ·have hal:=(Below.refl w10.heap.size w10).alloc (Nat.le_refl _) (.cells #[.int .i64 0,.slice none 0 0,.slice none 0 0,.int .i64 0] 37)
     have HPO:=yh (hpo.below hal)
     have HMU:=HM9
     clear hpo hal l0 l1 l2 l3 l4 l5 l6 m0 m1 m2 m3 HST HST7 HST8 HST8a HST9 HCALL hix0 hix1
     have hmx:8+4 * i+2≤200:=by have:=HUN.out;have:=HN.out;omega
     obtain ⟨u,hu⟩:∃ u,u=k+i+1:=⟨_,rfl⟩
     rw [← hu] at HPO HUN HMU hc14 ⊢
     clear hu
     have HGK:IntKind.i64.wrap (kp:Int)=(kp:Int):=by rw [IntKind.wrap_i64];omega
     obtain ⟨T,m,hj9,hm9,ho9,hT9⟩:=HPO.out.ex
     have HSU:Hid (syn≤u):=HPO.out.sy
     have hmm:m≤300:=by omega
     have hcr:=zFM hj9 (by omega) (kp:Int)
     have hszd:(w10.alloc (.cells #[.int .i64 0,.slice none 0 0,.slice none 0 0,.int .i64 0] 37)).heap.size=w10.heap.size+1:=by simp
     rw [hszd] at hcr
     clear hszd
     have HCR:=yh hcr
     have HJ9:=yh hj9
     have HO9:=yh ho9
     have HT9:=yh hT9
     clear hj9 ho9 hT9 hm9 hcr
     go_wp2_with fail
     refine HCR.out.mono ?_
     rintro e w10 ⟨rfl,hj10,hp10⟩
     have hbw10:Below w.heap.size w w10:=HB1.out.trans (hj10.under.1.mono (by have:=HWB.out;have:=HBS.out;omega))
     obtain ⟨kk,k1,k2,hop⟩:=zHN (by have:=HUN.out;have:=HN.out;omega) (by have:=HN.out;omega) (HL.out.below hbw10) HOK.out HLN.out HMU.out HSU.out (by omega) hj10
     have HKK:Hid (syn≤kk∧kk≤u):=⟨k1,k2⟩
     have HP10:=yh hp10
     have HOP:=yh hop
     have HJ10:=yh hj10
     clear hj10 hp10 hop k1 k2 HCR HGK hbw10
     go_wp2_with fail
     refine HOP.out.mono ?_
     rintro e w11 ⟨⟨A4,E4,c4,d4,zs4,rfl,hsay4,hzn4,hro4⟩,hj11,hp11⟩
     have hb12:=(Below.refl w11.heap.size w11).alloc (Nat.le_refl _) (.cells #[.int .i64 3,.slice A4 kk c4,.slice E4 kk d4,.int .i64 (eo 3 xs kk:Int)] 37)
     have hx12:=zAD w11 (.cells #[.int .i64 3,.slice A4 kk c4,.slice E4 kk d4,.int .i64 (eo 3 xs kk:Int)] 37)
     obtain ⟨w12,hw12⟩:∃ x,x=w11.alloc (.cells #[.int .i64 3,.slice A4 kk c4,.slice E4 kk d4,.int .i64 (eo 3 xs kk:Int)] 37):=⟨_,rfl⟩
     have q1:=zAA (i:=1) hx12 rfl
     rw [← hw12] at hb12 hx12 q1
     have HQ1:=yh q1
     have HRO12:=yh (hro4.below hb12)
     have HJ12:=yh (hj11.wide hb12)
     have HX12:=yh hx12
     have HPL:Hid (w11.heap.size<w12.heap.size):=zAJ hx12
     have HW12:=yh hw12
     have HSAY4:=yh hsay4
     have HZN4:=yh hzn4
     have HO12:Hid (w12.ownsRow bs 46 7 (.slice A14 u c14) u (rws (xs.take u))):=zAK (hp11.row (HP10.out.row HO9.out HT9.out) HT9.out) hb12
     have HBW12:Hid (Below w.heap.size w w12):=HB1.out.trans (HJ12.out.under.1.mono (by have:=HWB.out;have:=HBS.out;omega))
     have HRA:Hid (∀ W,Below w12.heap.size w12 W→Recs W W.heap.size A14 u (xs.take u)):=fun W hb =>by
      have h1:=zAE.of_own (zAK HO12.out hb)
      have h2:=zBl (HRX.out W (HBW12.out.trans (hb.mono HBW12.out.size))) (by have:=HUN.out;exact this:u≤n)
      exact ⟨h1,h2.2⟩
     have hslA:∀ W:World,(Instr.sliceAt 22 (.slice A14 u c14) none (some (.int .i64 (kk:Int))) none).run Tryz.prog W=.ok (.slice A14 kk c14) W:=fun W =>by
      have hk0:(0:Int)≤(kk:Int):=by omega
      have hkn:=HKK.out.2
      have hkc:(kk:Int)≤(c14:Int):=by omega
      cases A14 with
      | none =>
       obtain rfl:=hA14 rfl
       obtain rfl:kk=0:=by omega
       go_simp
      | some ad =>go_simp
     have d1:decide ((kk:Int)<(syn:Int))=false:=by rw [decide_eq_false_iff_not];have:=HKK.out;omega
     have d2:decide ((kk:Int) > (u:Int))=false:=by rw [decide_eq_false_iff_not];have:=HKK.out;omega
     have g1:syn≤kk:=HKK.out.1
     have g2:kk≤u:=HKK.out.2
     clear hb12 hx12 hw12 hsay4 hzn4 hro4 hj11 hp11 hA14 hc14 q1
     have q1:=HQ1.out
     go_wp2_with fail
     rw [← HW12.out]
     refine wp_region_held (S:=fun v =>∀ j:Nat,j<w12.heap.size→v.heap[j]? = w12.heap[j]?) (by kernel_rfl) (show wpAnyH _ _ _ _ _ _ _ _ (w12.drew) from ?_)
     have ONLY:Hid (∀ j:Nat,j<w12.heap.size→w12.drew.heap[j]? = w12.heap[j]?):=fun _ _ =>rfl
     have HD8:Hid (Below w12.heap.size w12 w12.drew):=(Below.refl _ _).drew
     have HSZ0:Hid (w12.heap.size≤w12.drew.heap.size):=Nat.le_refl _
     obtain ⟨W0,hW0⟩:∃ x,x=w12.drew:=⟨_,rfl⟩
     rw [← hW0] at ONLY HD8 HSZ0 ⊢
     clear hW0
     refine zAB 0 (.int .i64 0) rfl (by kernel_rfl) (by kernel_rfl) (by kernel_rfl) (fun _ _ _ h =>h) (by kernel_rfl) ONLY.out (fun _ _ =>by kernel_rfl) ?_
     refine zAB 1 (.bool false) rfl (by kernel_rfl) (by kernel_rfl) (by kernel_rfl) (fun _ _ _ h =>h) (by kernel_rfl) ONLY.out (by intro v1 hv;go_simp) ?_
     refine zAB 2 (.bool false) rfl (by kernel_rfl) (by kernel_rfl) (by kernel_rfl) (fun _ _ _ h =>h) (by kernel_rfl) ONLY.out (fun _ _ =>by kernel_rfl) ?_
     refine zAB 3 (.pointer (some ⟨w11.heap.size,1,none⟩)) rfl (by kernel_rfl) (by kernel_rfl) (by kernel_rfl) (fun _ _ _ h =>h) (by kernel_rfl) ONLY.out (fun _ _ =>by kernel_rfl) ?_
     refine zAB 4 (.slice A4 kk c4) rfl (by kernel_rfl) (by kernel_rfl) (by kernel_rfl) (fun _ _ _ h =>h) (by kernel_rfl) ONLY.out (by intro v1 hv;have q:=(zBf hv HPL.out).trans q1;go_simp) ?_
     refine zAB 5 (.int .i64 (kk:Int)) rfl (by kernel_rfl) (by kernel_rfl) (by kernel_rfl) (fun _ _ _ h =>h) (by kernel_rfl) ONLY.out (by intro v1 hv;go_simp) ?_
     refine zAB 6 (.int .i64 (syn:Int)) rfl (by kernel_rfl) (by kernel_rfl) (by kernel_rfl) (fun _ _ _ h =>h) (by kernel_rfl) ONLY.out (fun _ _ =>by kernel_rfl) ?_
     refine zAB 7 (.bool false) rfl (by kernel_rfl) (by kernel_rfl) (by kernel_rfl) (fun _ _ _ h =>h) (by kernel_rfl) ONLY.out (by intro v1 hv;go_simp) ?_
     refine zAB 8 (.bool false) rfl (by kernel_rfl) (by kernel_rfl) (by kernel_rfl) (fun _ _ _ h =>h) (by kernel_rfl) ONLY.out (fun _ _ =>by kernel_rfl) ?_
     refine zAB 9 (.bool false) rfl (by kernel_rfl) (by kernel_rfl) (by kernel_rfl) (fun _ _ _ h =>h) (by kernel_rfl) ONLY.out (fun _ _ =>by kernel_rfl) ?_
     refine zAB 10 (.pointer (some ⟨w11.heap.size,1,none⟩)) rfl (by kernel_rfl) (by kernel_rfl) (by kernel_rfl) (fun _ _ _ h =>h) (by kernel_rfl) ONLY.out (fun _ _ =>by kernel_rfl) ?_
     refine zAB 11 (.slice A4 kk c4) rfl (by kernel_rfl) (by kernel_rfl) (by kernel_rfl) (fun _ _ _ h =>h) (by kernel_rfl) ONLY.out (by intro v1 hv;have q:=(zBf hv HPL.out).trans q1;go_simp) ?_
     refine zAB 12 (.int .i64 (kk:Int)) rfl (by kernel_rfl) (by kernel_rfl) (by kernel_rfl) (fun _ _ _ h =>h) (by kernel_rfl) ONLY.out (by intro v1 hv;go_simp) ?_
     refine zAB 13 (.slice A14 u c14) rfl (by kernel_rfl) (by kernel_rfl) (by kernel_rfl) (fun _ _ _ h =>h) (by kernel_rfl) ONLY.out (fun _ _ =>by kernel_rfl) ?_
     refine zAB 14 (.int .i64 (u:Int)) rfl (by kernel_rfl) (by kernel_rfl) (by kernel_rfl) (fun _ _ _ h =>h) (by kernel_rfl) ONLY.out (by intro v1 hv;go_simp) ?_
     refine zAB 15 (.bool false) rfl (by kernel_rfl) (by kernel_rfl) (by kernel_rfl) (fun _ _ _ h =>h) (by kernel_rfl) ONLY.out (by intro v1 hv;go_simp) ?_
     refine zAB 16 (.bool false) rfl (by kernel_rfl) (by kernel_rfl) (by kernel_rfl) (fun _ _ _ h =>h) (by kernel_rfl) ONLY.out (fun _ _ =>by kernel_rfl) ?_
     refine zAB 17 (.bool false) rfl (by kernel_rfl) (by kernel_rfl) (by kernel_rfl) (fun _ _ _ h =>h) (by kernel_rfl) ONLY.out (fun _ _ =>by kernel_rfl) ?_
     refine zAB 18 (.pointer (some ⟨w11.heap.size,1,none⟩)) rfl (by kernel_rfl) (by kernel_rfl) (by kernel_rfl) (fun _ _ _ h =>h) (by kernel_rfl) ONLY.out (fun _ _ =>by kernel_rfl) ?_
     refine zAB 19 (.slice A4 kk c4) rfl (by kernel_rfl) (by kernel_rfl) (by kernel_rfl) (fun _ _ _ h =>h) (by kernel_rfl) ONLY.out (by intro v1 hv;have q:=(zBf hv HPL.out).trans q1;go_simp) ?_
     refine zAB 20 (.slice A14 u c14) rfl (by kernel_rfl) (by kernel_rfl) (by kernel_rfl) (fun _ _ _ h =>h) (by kernel_rfl) ONLY.out (fun _ _ =>by kernel_rfl) ?_
     refine zAB 21 (.pointer (some ⟨w11.heap.size,1,none⟩)) rfl (by kernel_rfl) (by kernel_rfl) (by kernel_rfl) (fun _ _ _ h =>h) (by kernel_rfl) ONLY.out (fun _ _ =>by kernel_rfl) ?_
     refine zAB 22 (.slice A4 kk c4) rfl (by kernel_rfl) (by kernel_rfl) (by kernel_rfl) (fun _ _ _ h =>h) (by kernel_rfl) ONLY.out (by intro v1 hv;have q:=(zBf hv HPL.out).trans q1;go_simp) ?_
     refine zAB 23 (.int .i64 (kk:Int)) rfl (by kernel_rfl) (by kernel_rfl) (by kernel_rfl) (fun _ _ _ h =>h) (by kernel_rfl) ONLY.out (by intro v1 hv;go_simp) ?_
     refine zAB 24 (.slice A14 kk c14) rfl (by kernel_rfl) (by kernel_rfl) (by kernel_rfl) (fun _ _ _ h =>h) (by kernel_rfl) ONLY.out (by intro v1 hv;have z1:=hslA v1;go_simp) ?_
     refine zAR 25 rfl (by kernel_rfl) (by kernel_rfl) (fun K hK =>?_)
     go_simp
     refine (zDH A4 A14 kk kk c4 c14 zs4 (xs.take kk) (by have:=HKK.out.2;have:=HUN.out;have:=HN.out;unfold maxLen;omega) (by have:=HKK.out.2;have:=HUN.out;have:=HN.out;unfold maxLen;omega) HZN4.out W0 ((HRO12.out.below HD8.out).read.1) (zBl (HRA.out W0 HD8.out) HKK.out.2 |> fun h =>by rw [List.take_take,Nat.min_eq_left HKK.out.2] at h;exact h)).mono ?_
     rintro e w13 ⟨he,hb13⟩
     obtain rfl:=he.yes HSAY4.out
     have ONLY13:Hid (∀ j:Nat,j<w12.heap.size→w13.heap[j]? = w12.heap[j]?):=fun j h1 =>(hb13.block j (Nat.lt_of_lt_of_le h1 HSZ0.out)).trans (ONLY.out j h1)
     have HB13:Hid (Below w12.heap.size w12 w13):=HD8.out.trans (hb13.mono HSZ0.out)
     clear hb13 he
     refine hK _ _ ONLY13.out ?_
     clear hK K
     refine zAB 26 (.bool false) rfl (by kernel_rfl) (by kernel_rfl) (by kernel_rfl) (fun _ _ _ h =>h) (by kernel_rfl) ONLY13.out (by intro v1 hv;go_simp) ?_
     refine zAB 27 (.bool false) rfl (by kernel_rfl) (by kernel_rfl) (by kernel_rfl) (fun _ _ _ h =>h) (by kernel_rfl) ONLY13.out (fun _ _ =>by kernel_rfl) ?_
     refine wpAnyH_done (by kernel_rfl) ?_ _
     go_simp
     
     clear g1 g2 d1 d2 q1 hslA
     have HJ13:=yh (HJ12.out.below HB13.out)
     have HBW13:Hid (Below w.heap.size w w13):=HBW12.out.trans (HB13.out.mono HBW12.out.size)
     have HLK2:Hid ((xs.take kk).length=kk):=by have:=HN.out;have:=HKK.out;have:=HUN.out;show (xs.take kk).length=kk;rw [List.length_take];omega
     have HMK:Hid (zAj 3 (xs.take kk)):=fun x hx =>HMU.out x (by rw [← Nat.min_eq_left HKK.out.2,← List.take_take] at hx;exact List.mem_of_mem_take hx)
     have HOP2:=yh (zEj (xs.take kk) kk HLK2.out HMK.out (fun x hx =>(HOK.out x (List.mem_of_mem_take hx)).1) (fun x hx =>by have:=HOK.out x (List.mem_of_mem_take hx);have:=HLN.out x (List.mem_of_mem_take hx);omega) (by have:=HLK2.out;have:=HN.out;have:=HKK.out;have:=HUN.out;omega) (HL.out.below HBW13.out) HJ13.out)
     go_wp2_with fail
     refine HOP2.out.mono ?_
     rintro e w14 ⟨⟨A5,E5,c5,d5,zs5,rfl,hsay5,hzn5,hro5⟩,hb14⟩
     obtain ⟨G,hG⟩:∃ G:Nat,G=eo 3 (xs.take kk) kk:=⟨_,rfl⟩
     rw [← hG]
     have hb15:=(Below.refl w14.heap.size w14).alloc (Nat.le_refl _) (.cells #[.int .i64 3,.slice A5 kk c5,.slice E5 kk d5,.int .i64 (G:Int)] 37)
     have hx15:=zAD w14 (.cells #[.int .i64 3,.slice A5 kk c5,.slice E5 kk d5,.int .i64 (G:Int)] 37)
     obtain ⟨w15,hw15⟩:∃ x,x=w14.alloc (.cells #[.int .i64 3,.slice A5 kk c5,.slice E5 kk d5,.int .i64 (G:Int)] 37):=⟨_,rfl⟩
     rw [← hw15] at hb15 hx15
     have hb1315:=hb14.trans (hb15.mono hb14.size)
     have HJ15:=yh (HJ13.out.below hb1315)
     have HRD:=yh (zHH HJ15.out G (by
      have h1:(zAT 3 3 (xs.take kk)).length=eo 3 (xs.take kk) (xs.take kk).length:=zBp 3 (xs.take kk)
      rw [h1,HLK2.out,hG]))
     have HRO15:=yh ((hro5.below hb15).read.1)
     have HB15:Hid (Below w12.heap.size w12 w15):=HB13.out.trans (hb1315.mono HB13.out.size)
     have HX15:=yh hx15
     have HW15:=yh hw15
     have HSAY5:=yh hsay5
     have HZN5:=yh hzn5
     have HLT15:Hid (w14.heap.size<w15.heap.size):=zAJ hx15
     clear hb14 hb15 hx15 hw15 hsay5 hzn5 hro5 hG hb1315
     go_wp2_with fail
     rw [← HW15.out]
     refine HRD.out.mono ?_
     rintro e w16 ⟨⟨A6,c6,rfl⟩,hb16⟩
     have HB16:Hid (Below w15.heap.size w15 w16):=hb16
     clear hb16
     have HBW16:Hid (Below w.heap.size w w16):=(HBW12.out.trans (HB15.out.mono HBW12.out.size)).trans (HB16.out.mono ((HBW12.out.trans (HB15.out.mono HBW12.out.size))).size)
     go_wp2_with fail
     refine (HFX.out w16 HBW16.out).mono ?_
     rintro e w17 ⟨rfl,hb17⟩
     have HB17:Hid (Below w15.heap.size w15 w17):=HB16.out.trans (hb17.mono HB16.out.size)
     have HBW17:Hid (Below w.heap.size w w17):=HBW16.out.trans (hb17.mono HBW16.out.size)
     have hx17:=(HB17.out.block w14.heap.size HLT15.out).trans HX15.out
     have hy17:=(HB17.out.block w11.heap.size (by have:=HPL.out;have:=HB15.out.size;omega)).trans ((HB15.out.block w11.heap.size HPL.out).trans HX12.out)
     have HX17:=yh hx17
     have q1:=zAA (i:=1) hx17 rfl;have q3:=zAA (i:=3) hx17 rfl;have r1:=zAA (i:=1) hy17 rfl
     have HRX17:Hid (Recs w17 w17.heap.size A5 kk zs5):=(HRO15.out.below HB17.out).more HB17.out.size
     have HRY17:Hid (Recs w17 w17.heap.size A4 kk zs4):=(HRO12.out.below (HB15.out.trans (HB17.out.mono HB15.out.size))).read.1
     clear hb17 hx17 hy17
     go_wp2_with fail
     refine (zDH A5 A4 kk kk c5 c4 zs5 zs4 (by have:=HKK.out.2;have:=HUN.out;have:=HN.out;unfold maxLen;omega) (by have:=HKK.out.2;have:=HUN.out;have:=HN.out;unfold maxLen;omega) HZN5.out w17 HRX17.out HRY17.out).mono ?_
     rintro e w18 ⟨he,hb18⟩
     obtain rfl:=he.yes (by rw [HSAY5.out,HSAY4.out])
     have hx18:=(hb18.block w14.heap.size (by have:=HLT15.out;have:=HB17.out.size;omega)).trans HX17.out
     have q3':=zAA (i:=3) hx18 rfl
     clear he q1 q3 r1 hx18
     go_wp2
     go_ret
     exact ⟨rfl,HBW17.out.trans (hb18.mono HBW17.out.size)⟩
   ·obtain rfl:=he.no hmy
    have HUN:Hid (k+i≤n):=HUN0.out
    have HPO:=yh HST8.out.post
    have HMU:=HMI
    clear he hmy HST HST7 HST8
    have hmx:8+4 * i+2≤200:=by have:=HUN.out;have:=HN.out;omega
    obtain ⟨u,hu⟩:∃ u,u=k+i:=⟨_,rfl⟩
    rw [← hu] at HPO HUN HMU hc13 ⊢
    clear hu
    have HGK:IntKind.i64.wrap (kp:Int)=(kp:Int):=by rw [IntKind.wrap_i64];omega
    obtain ⟨T,m,hj9,hm9,ho9,hT9⟩:=HPO.out.ex
    have HSU:Hid (syn≤u):=HPO.out.sy
    have hmm:m≤300:=by omega
    have hcr:=zFM hj9 (by omega) (kp:Int)
    have HCR:=yh hcr
    have HJ9:=yh hj9
    have HO9:=yh ho9
    have HT9:=yh hT9
    clear hj9 ho9 hT9 hm9 hcr
    go_wp2_with fail
    refine HCR.out.mono ?_
    rintro e w10 ⟨rfl,hj10,hp10⟩
    have hbw10:Below w.heap.size w w10:=HB1.out.trans (hj10.under.1.mono (by have:=HWB.out;have:=HBS.out;omega))
    obtain ⟨kk,k1,k2,hop⟩:=zHN (by have:=HUN.out;have:=HN.out;omega) (by have:=HN.out;omega) (HL.out.below hbw10) HOK.out HLN.out HMU.out HSU.out (by omega) hj10
    have HKK:Hid (syn≤kk∧kk≤u):=⟨k1,k2⟩
    have HP10:=yh hp10
    have HOP:=yh hop
    have HJ10:=yh hj10
    clear hj10 hp10 hop k1 k2 HCR HGK hbw10
    go_wp2_with fail
    refine HOP.out.mono ?_
    rintro e w11 ⟨⟨A4,E4,c4,d4,zs4,rfl,hsay4,hzn4,hro4⟩,hj11,hp11⟩
    have hb12:=(Below.refl w11.heap.size w11).alloc (Nat.le_refl _) (.cells #[.int .i64 3,.slice A4 kk c4,.slice E4 kk d4,.int .i64 (eo 3 xs kk:Int)] 37)
    have hx12:=zAD w11 (.cells #[.int .i64 3,.slice A4 kk c4,.slice E4 kk d4,.int .i64 (eo 3 xs kk:Int)] 37)
    obtain ⟨w12,hw12⟩:∃ x,x=w11.alloc (.cells #[.int .i64 3,.slice A4 kk c4,.slice E4 kk d4,.int .i64 (eo 3 xs kk:Int)] 37):=⟨_,rfl⟩
    have q1:=zAA (i:=1) hx12 rfl
    rw [← hw12] at hb12 hx12 q1
    have HQ1:=yh q1
    have HRO12:=yh (hro4.below hb12)
    have HJ12:=yh (hj11.wide hb12)
    have HX12:=yh hx12
    have HPL:Hid (w11.heap.size<w12.heap.size):=zAJ hx12
    have HW12:=yh hw12
    have HSAY4:=yh hsay4
    have HZN4:=yh hzn4
    have HO12:Hid (w12.ownsRow bs 46 7 (.slice A13 u c13) u (rws (xs.take u))):=zAK (hp11.row (HP10.out.row HO9.out HT9.out) HT9.out) hb12
    have HBW12:Hid (Below w.heap.size w w12):=HB1.out.trans (HJ12.out.under.1.mono (by have:=HWB.out;have:=HBS.out;omega))
    have HRA:Hid (∀ W,Below w12.heap.size w12 W→Recs W W.heap.size A13 u (xs.take u)):=fun W hb =>by
     have h1:=zAE.of_own (zAK HO12.out hb)
     have h2:=zBl (HRX.out W (HBW12.out.trans (hb.mono HBW12.out.size))) (by have:=HUN.out;exact this:u≤n)
     exact ⟨h1,h2.2⟩
    have hslA:∀ W:World,(Instr.sliceAt 22 (.slice A13 u c13) none (some (.int .i64 (kk:Int))) none).run Tryz.prog W=.ok (.slice A13 kk c13) W:=fun W =>by
     have hk0:(0:Int)≤(kk:Int):=by omega
     have hkn:=HKK.out.2
     have hkc:(kk:Int)≤(c13:Int):=by omega
     cases A13 with
     | none =>
      obtain rfl:=hA13 rfl
      obtain rfl:kk=0:=by omega
      go_simp
     | some ad =>go_simp
    have d1:decide ((kk:Int)<(syn:Int))=false:=by rw [decide_eq_false_iff_not];have:=HKK.out;omega
    have d2:decide ((kk:Int) > (u:Int))=false:=by rw [decide_eq_false_iff_not];have:=HKK.out;omega
    have g1:syn≤kk:=HKK.out.1
    have g2:kk≤u:=HKK.out.2
    clear hb12 hx12 hw12 hsay4 hzn4 hro4 hj11 hp11 hA13 hc13 q1
    have q1:=HQ1.out
    go_wp2_with fail
    rw [← HW12.out]
    refine wp_region_held (S:=fun v =>∀ j:Nat,j<w12.heap.size→v.heap[j]? = w12.heap[j]?) (by kernel_rfl) (show wpAnyH _ _ _ _ _ _ _ _ (w12.drew) from ?_)
    have ONLY:Hid (∀ j:Nat,j<w12.heap.size→w12.drew.heap[j]? = w12.heap[j]?):=fun _ _ =>rfl
    have HD8:Hid (Below w12.heap.size w12 w12.drew):=(Below.refl _ _).drew
    have HSZ0:Hid (w12.heap.size≤w12.drew.heap.size):=Nat.le_refl _
    obtain ⟨W0,hW0⟩:∃ x,x=w12.drew:=⟨_,rfl⟩
    rw [← hW0] at ONLY HD8 HSZ0 ⊢
    clear hW0
    refine zAB 0 (.int .i64 0) rfl (by kernel_rfl) (by kernel_rfl) (by kernel_rfl) (fun _ _ _ h =>h) (by kernel_rfl) ONLY.out (fun _ _ =>by kernel_rfl) ?_
    refine zAB 1 (.bool false) rfl (by kernel_rfl) (by kernel_rfl) (by kernel_rfl) (fun _ _ _ h =>h) (by kernel_rfl) ONLY.out (by intro v1 hv;go_simp) ?_
    refine zAB 2 (.bool false) rfl (by kernel_rfl) (by kernel_rfl) (by kernel_rfl) (fun _ _ _ h =>h) (by kernel_rfl) ONLY.out (fun _ _ =>by kernel_rfl) ?_
    refine zAB 3 (.pointer (some ⟨w11.heap.size,1,none⟩)) rfl (by kernel_rfl) (by kernel_rfl) (by kernel_rfl) (fun _ _ _ h =>h) (by kernel_rfl) ONLY.out (fun _ _ =>by kernel_rfl) ?_
    refine zAB 4 (.slice A4 kk c4) rfl (by kernel_rfl) (by kernel_rfl) (by kernel_rfl) (fun _ _ _ h =>h) (by kernel_rfl) ONLY.out (by intro v1 hv;have q:=(zBf hv HPL.out).trans q1;go_simp) ?_
    refine zAB 5 (.int .i64 (kk:Int)) rfl (by kernel_rfl) (by kernel_rfl) (by kernel_rfl) (fun _ _ _ h =>h) (by kernel_rfl) ONLY.out (by intro v1 hv;go_simp) ?_
    refine zAB 6 (.int .i64 (syn:Int)) rfl (by kernel_rfl) (by kernel_rfl) (by kernel_rfl) (fun _ _ _ h =>h) (by kernel_rfl) ONLY.out (fun _ _ =>by kernel_rfl) ?_
    refine zAB 7 (.bool false) rfl (by kernel_rfl) (by kernel_rfl) (by kernel_rfl) (fun _ _ _ h =>h) (by kernel_rfl) ONLY.out (by intro v1 hv;go_simp) ?_
    refine zAB 8 (.bool false) rfl (by kernel_rfl) (by kernel_rfl) (by kernel_rfl) (fun _ _ _ h =>h) (by kernel_rfl) ONLY.out (fun _ _ =>by kernel_rfl) ?_
    refine zAB 9 (.bool false) rfl (by kernel_rfl) (by kernel_rfl) (by kernel_rfl) (fun _ _ _ h =>h) (by kernel_rfl) ONLY.out (fun _ _ =>by kernel_rfl) ?_
    refine zAB 10 (.pointer (some ⟨w11.heap.size,1,none⟩)) rfl (by kernel_rfl) (by kernel_rfl) (by kernel_rfl) (fun _ _ _ h =>h) (by kernel_rfl) ONLY.out (fun _ _ =>by kernel_rfl) ?_
    refine zAB 11 (.slice A4 kk c4) rfl (by kernel_rfl) (by kernel_rfl) (by kernel_rfl) (fun _ _ _ h =>h) (by kernel_rfl) ONLY.out (by intro v1 hv;have q:=(zBf hv HPL.out).trans q1;go_simp) ?_
    refine zAB 12 (.int .i64 (kk:Int)) rfl (by kernel_rfl) (by kernel_rfl) (by kernel_rfl) (fun _ _ _ h =>h) (by kernel_rfl) ONLY.out (by intro v1 hv;go_simp) ?_
    refine zAB 13 (.slice A13 u c13) rfl (by kernel_rfl) (by kernel_rfl) (by kernel_rfl) (fun _ _ _ h =>h) (by kernel_rfl) ONLY.out (fun _ _ =>by kernel_rfl) ?_
    refine zAB 14 (.int .i64 (u:Int)) rfl (by kernel_rfl) (by kernel_rfl) (by kernel_rfl) (fun _ _ _ h =>h) (by kernel_rfl) ONLY.out (by intro v1 hv;go_simp) ?_
    refine zAB 15 (.bool false) rfl (by kernel_rfl) (by kernel_rfl) (by kernel_rfl) (fun _ _ _ h =>h) (by kernel_rfl) ONLY.out (by intro v1 hv;go_simp) ?_
    refine zAB 16 (.bool false) rfl (by kernel_rfl) (by kernel_rfl) (by kernel_rfl) (fun _ _ _ h =>h) (by kernel_rfl) ONLY.out (fun _ _ =>by kernel_rfl) ?_
    refine zAB 17 (.bool false) rfl (by kernel_rfl) (by kernel_rfl) (by kernel_rfl) (fun _ _ _ h =>h) (by kernel_rfl) ONLY.out (fun _ _ =>by kernel_rfl) ?_
    refine zAB 18 (.pointer (some ⟨w11.heap.size,1,none⟩)) rfl (by kernel_rfl) (by kernel_rfl) (by kernel_rfl) (fun _ _ _ h =>h) (by kernel_rfl) ONLY.out (fun _ _ =>by kernel_rfl) ?_
    refine zAB 19 (.slice A4 kk c4) rfl (by kernel_rfl) (by kernel_rfl) (by kernel_rfl) (fun _ _ _ h =>h) (by kernel_rfl) ONLY.out (by intro v1 hv;have q:=(zBf hv HPL.out).trans q1;go_simp) ?_
    refine zAB 20 (.slice A13 u c13) rfl (by kernel_rfl) (by kernel_rfl) (by kernel_rfl) (fun _ _ _ h =>h) (by kernel_rfl) ONLY.out (fun _ _ =>by kernel_rfl) ?_
    refine zAB 21 (.pointer (some ⟨w11.heap.size,1,none⟩)) rfl (by kernel_rfl) (by kernel_rfl) (by kernel_rfl) (fun _ _ _ h =>h) (by kernel_rfl) ONLY.out (fun _ _ =>by kernel_rfl) ?_
    refine zAB 22 (.slice A4 kk c4) rfl (by kernel_rfl) (by kernel_rfl) (by kernel_rfl) (fun _ _ _ h =>h) (by kernel_rfl) ONLY.out (by intro v1 hv;have q:=(zBf hv HPL.out).trans q1;go_simp) ?_
    refine zAB 23 (.int .i64 (kk:Int)) rfl (by kernel_rfl) (by kernel_rfl) (by kernel_rfl) (fun _ _ _ h =>h) (by kernel_rfl) ONLY.out (by intro v1 hv;go_simp) ?_
    refine zAB 24 (.slice A13 kk c13) rfl (by kernel_rfl) (by kernel_rfl) (by kernel_rfl) (fun _ _ _ h =>h) (by kernel_rfl) ONLY.out (by intro v1 hv;have z1:=hslA v1;go_simp) ?_
    refine zAR 25 rfl (by kernel_rfl) (by kernel_rfl) (fun K hK =>?_)
    go_simp
    refine (zDH A4 A13 kk kk c4 c13 zs4 (xs.take kk) (by have:=HKK.out.2;have:=HUN.out;have:=HN.out;unfold maxLen;omega) (by have:=HKK.out.2;have:=HUN.out;have:=HN.out;unfold maxLen;omega) HZN4.out W0 ((HRO12.out.below HD8.out).read.1) (zBl (HRA.out W0 HD8.out) HKK.out.2 |> fun h =>by rw [List.take_take,Nat.min_eq_left HKK.out.2] at h;exact h)).mono ?_
    rintro e w13 ⟨he,hb13⟩
    obtain rfl:=he.yes HSAY4.out
    have ONLY13:Hid (∀ j:Nat,j<w12.heap.size→w13.heap[j]? = w12.heap[j]?):=fun j h1 =>(hb13.block j (Nat.lt_of_lt_of_le h1 HSZ0.out)).trans (ONLY.out j h1)
    have HB13:Hid (Below w12.heap.size w12 w13):=HD8.out.trans (hb13.mono HSZ0.out)
    clear hb13 he
    refine hK _ _ ONLY13.out ?_
    clear hK K
    refine zAB 26 (.bool false) rfl (by kernel_rfl) (by kernel_rfl) (by kernel_rfl) (fun _ _ _ h =>h) (by kernel_rfl) ONLY13.out (by intro v1 hv;go_simp) ?_
    refine zAB 27 (.bool false) rfl (by kernel_rfl) (by kernel_rfl) (by kernel_rfl) (fun _ _ _ h =>h) (by kernel_rfl) ONLY13.out (fun _ _ =>by kernel_rfl) ?_
    refine wpAnyH_done (by kernel_rfl) ?_ _
    go_simp
    
    clear g1 g2 d1 d2 q1 hslA
    have HJ13:=yh (HJ12.out.below HB13.out)
    have HBW13:Hid (Below w.heap.size w w13):=HBW12.out.trans (HB13.out.mono HBW12.out.size)
    have HLK2:Hid ((xs.take kk).length=kk):=by have:=HN.out;have:=HKK.out;have:=HUN.out;show (xs.take kk).length=kk;rw [List.length_take];omega
    have HMK:Hid (zAj 3 (xs.take kk)):=fun x hx =>HMU.out x (by rw [← Nat.min_eq_left HKK.out.2,← List.take_take] at hx;exact List.mem_of_mem_take hx)
    have HOP2:=yh (zEj (xs.take kk) kk HLK2.out HMK.out (fun x hx =>(HOK.out x (List.mem_of_mem_take hx)).1) (fun x hx =>by have:=HOK.out x (List.mem_of_mem_take hx);have:=HLN.out x (List.mem_of_mem_take hx);omega) (by have:=HLK2.out;have:=HN.out;have:=HKK.out;have:=HUN.out;omega) (HL.out.below HBW13.out) HJ13.out)
    go_wp2_with fail
    refine HOP2.out.mono ?_
    rintro e w14 ⟨⟨A5,E5,c5,d5,zs5,rfl,hsay5,hzn5,hro5⟩,hb14⟩
    obtain ⟨G,hG⟩:∃ G:Nat,G=eo 3 (xs.take kk) kk:=⟨_,rfl⟩
    rw [← hG]
    have hb15:=(Below.refl w14.heap.size w14).alloc (Nat.le_refl _) (.cells #[.int .i64 3,.slice A5 kk c5,.slice E5 kk d5,.int .i64 (G:Int)] 37)
    have hx15:=zAD w14 (.cells #[.int .i64 3,.slice A5 kk c5,.slice E5 kk d5,.int .i64 (G:Int)] 37)
    obtain ⟨w15,hw15⟩:∃ x,x=w14.alloc (.cells #[.int .i64 3,.slice A5 kk c5,.slice E5 kk d5,.int .i64 (G:Int)] 37):=⟨_,rfl⟩
    rw [← hw15] at hb15 hx15
    have hb1315:=hb14.trans (hb15.mono hb14.size)
    have HJ15:=yh (HJ13.out.below hb1315)
    have HRD:=yh (zHH HJ15.out G (by
     have h1:(zAT 3 3 (xs.take kk)).length=eo 3 (xs.take kk) (xs.take kk).length:=zBp 3 (xs.take kk)
     rw [h1,HLK2.out,hG]))
    have HRO15:=yh ((hro5.below hb15).read.1)
    have HB15:Hid (Below w12.heap.size w12 w15):=HB13.out.trans (hb1315.mono HB13.out.size)
    have HX15:=yh hx15
    have HW15:=yh hw15
    have HSAY5:=yh hsay5
    have HZN5:=yh hzn5
    have HLT15:Hid (w14.heap.size<w15.heap.size):=zAJ hx15
    clear hb14 hb15 hx15 hw15 hsay5 hzn5 hro5 hG hb1315
    go_wp2_with fail
    rw [← HW15.out]
    refine HRD.out.mono ?_
    rintro e w16 ⟨⟨A6,c6,rfl⟩,hb16⟩
    have HB16:Hid (Below w15.heap.size w15 w16):=hb16
    clear hb16
    have HBW16:Hid (Below w.heap.size w w16):=(HBW12.out.trans (HB15.out.mono HBW12.out.size)).trans (HB16.out.mono ((HBW12.out.trans (HB15.out.mono HBW12.out.size))).size)
    go_wp2_with fail
    refine (HFX.out w16 HBW16.out).mono ?_
    rintro e w17 ⟨rfl,hb17⟩
    have HB17:Hid (Below w15.heap.size w15 w17):=HB16.out.trans (hb17.mono HB16.out.size)
    have HBW17:Hid (Below w.heap.size w w17):=HBW16.out.trans (hb17.mono HBW16.out.size)
    have hx17:=(HB17.out.block w14.heap.size HLT15.out).trans HX15.out
    have hy17:=(HB17.out.block w11.heap.size (by have:=HPL.out;have:=HB15.out.size;omega)).trans ((HB15.out.block w11.heap.size HPL.out).trans HX12.out)
    have HX17:=yh hx17
    have q1:=zAA (i:=1) hx17 rfl;have q3:=zAA (i:=3) hx17 rfl;have r1:=zAA (i:=1) hy17 rfl
    have HRX17:Hid (Recs w17 w17.heap.size A5 kk zs5):=(HRO15.out.below HB17.out).more HB17.out.size
    have HRY17:Hid (Recs w17 w17.heap.size A4 kk zs4):=(HRO12.out.below (HB15.out.trans (HB17.out.mono HB15.out.size))).read.1
    clear hb17 hx17 hy17
    go_wp2_with fail
    refine (zDH A5 A4 kk kk c5 c4 zs5 zs4 (by have:=HKK.out.2;have:=HUN.out;have:=HN.out;unfold maxLen;omega) (by have:=HKK.out.2;have:=HUN.out;have:=HN.out;unfold maxLen;omega) HZN5.out w17 HRX17.out HRY17.out).mono ?_
    rintro e w18 ⟨he,hb18⟩
    obtain rfl:=he.yes (by rw [HSAY5.out,HSAY4.out])
    have hx18:=(hb18.block w14.heap.size (by have:=HLT15.out;have:=HB17.out.size;omega)).trans HX17.out
    have q3':=zAA (i:=3) hx18 rfl
    clear he q1 q3 r1 hx18
    go_wp2
    go_ret
    exact ⟨rfl,HBW17.out.trans (hb18.mono HBW17.out.size)⟩
  ·obtain rfl:q=i:=by omega
   have HUN:=HUN0
   have HPO:=yh HST.out.post
   have HMU:=HMI
   have HIQ:Hid (q≤q):=Nat.le_refl q
   clear HST
   have hmx:8+4 * q+2≤200:=by have:=HUN.out;have:=HN.out;omega
   obtain ⟨u,hu⟩:∃ u,u=k+q:=⟨_,rfl⟩
   rw [← hu] at HPO HUN HMU hc13 ⊢
   clear hu
   have HGK:IntKind.i64.wrap (kp:Int)=(kp:Int):=by rw [IntKind.wrap_i64];omega
   obtain ⟨T,m,hj9,hm9,ho9,hT9⟩:=HPO.out.ex
   have HSU:Hid (syn≤u):=HPO.out.sy
   have hmm:m≤300:=by omega
   have hcr:=zFM hj9 (by omega) (kp:Int)
   have HCR:=yh hcr
   have HJ9:=yh hj9
   have HO9:=yh ho9
   have HT9:=yh hT9
   clear hj9 ho9 hT9 hm9 hcr
   go_wp2_with fail
   refine HCR.out.mono ?_
   rintro e w10 ⟨rfl,hj10,hp10⟩
   have hbw10:Below w.heap.size w w10:=HB1.out.trans (hj10.under.1.mono (by have:=HWB.out;have:=HBS.out;omega))
   obtain ⟨kk,k1,k2,hop⟩:=zHN (by have:=HUN.out;have:=HN.out;omega) (by have:=HN.out;omega) (HL.out.below hbw10) HOK.out HLN.out HMU.out HSU.out (by omega) hj10
   have HKK:Hid (syn≤kk∧kk≤u):=⟨k1,k2⟩
   have HP10:=yh hp10
   have HOP:=yh hop
   have HJ10:=yh hj10
   clear hj10 hp10 hop k1 k2 HCR HGK hbw10
   go_wp2_with fail
   refine HOP.out.mono ?_
   rintro e w11 ⟨⟨A4,E4,c4,d4,zs4,rfl,hsay4,hzn4,hro4⟩,hj11,hp11⟩
   have hb12:=(Below.refl w11.heap.size w11).alloc (Nat.le_refl _) (.cells #[.int .i64 3,.slice A4 kk c4,.slice E4 kk d4,.int .i64 (eo 3 xs kk:Int)] 37)
   have hx12:=zAD w11 (.cells #[.int .i64 3,.slice A4 kk c4,.slice E4 kk d4,.int .i64 (eo 3 xs kk:Int)] 37)
   obtain ⟨w12,hw12⟩:∃ x,x=w11.alloc (.cells #[.int .i64 3,.slice A4 kk c4,.slice E4 kk d4,.int .i64 (eo 3 xs kk:Int)] 37):=⟨_,rfl⟩
   have q1:=zAA (i:=1) hx12 rfl
   rw [← hw12] at hb12 hx12 q1
   have HQ1:=yh q1
   have HRO12:=yh (hro4.below hb12)
   have HJ12:=yh (hj11.wide hb12)
   have HX12:=yh hx12
   have HPL:Hid (w11.heap.size<w12.heap.size):=zAJ hx12
   have HW12:=yh hw12
   have HSAY4:=yh hsay4
   have HZN4:=yh hzn4
   have HO12:Hid (w12.ownsRow bs 46 7 (.slice A13 u c13) u (rws (xs.take u))):=zAK (hp11.row (HP10.out.row HO9.out HT9.out) HT9.out) hb12
   have HBW12:Hid (Below w.heap.size w w12):=HB1.out.trans (HJ12.out.under.1.mono (by have:=HWB.out;have:=HBS.out;omega))
   have HRA:Hid (∀ W,Below w12.heap.size w12 W→Recs W W.heap.size A13 u (xs.take u)):=fun W hb =>by
    have h1:=zAE.of_own (zAK HO12.out hb)
    have h2:=zBl (HRX.out W (HBW12.out.trans (hb.mono HBW12.out.size))) (by have:=HUN.out;exact this:u≤n)
    exact ⟨h1,h2.2⟩
   have hslA:∀ W:World,(Instr.sliceAt 22 (.slice A13 u c13) none (some (.int .i64 (kk:Int))) none).run Tryz.prog W=.ok (.slice A13 kk c13) W:=fun W =>by
    have hk0:(0:Int)≤(kk:Int):=by omega
    have hkn:=HKK.out.2
    have hkc:(kk:Int)≤(c13:Int):=by omega
    cases A13 with
    | none =>
     obtain rfl:=hA13 rfl
     obtain rfl:kk=0:=by omega
     go_simp
    | some ad =>go_simp
   have d1:decide ((kk:Int)<(syn:Int))=false:=by rw [decide_eq_false_iff_not];have:=HKK.out;omega
   have d2:decide ((kk:Int) > (u:Int))=false:=by rw [decide_eq_false_iff_not];have:=HKK.out;omega
   have g1:syn≤kk:=HKK.out.1
   have g2:kk≤u:=HKK.out.2
   clear hb12 hx12 hw12 hsay4 hzn4 hro4 hj11 hp11 hA13 hc13 q1
   have q1:=HQ1.out
   go_wp2_with fail
   rw [← HW12.out]
   refine wp_region_held (S:=fun v =>∀ j:Nat,j<w12.heap.size→v.heap[j]? = w12.heap[j]?) (by kernel_rfl) (show wpAnyH _ _ _ _ _ _ _ _ (w12.drew) from ?_)
   have ONLY:Hid (∀ j:Nat,j<w12.heap.size→w12.drew.heap[j]? = w12.heap[j]?):=fun _ _ =>rfl
   have HD8:Hid (Below w12.heap.size w12 w12.drew):=(Below.refl _ _).drew
   have HSZ0:Hid (w12.heap.size≤w12.drew.heap.size):=Nat.le_refl _
   obtain ⟨W0,hW0⟩:∃ x,x=w12.drew:=⟨_,rfl⟩
   rw [← hW0] at ONLY HD8 HSZ0 ⊢
   clear hW0
   refine zAB 0 (.int .i64 0) rfl (by kernel_rfl) (by kernel_rfl) (by kernel_rfl) (fun _ _ _ h =>h) (by kernel_rfl) ONLY.out (fun _ _ =>by kernel_rfl) ?_
   refine zAB 1 (.bool false) rfl (by kernel_rfl) (by kernel_rfl) (by kernel_rfl) (fun _ _ _ h =>h) (by kernel_rfl) ONLY.out (by intro v1 hv;go_simp) ?_
   refine zAB 2 (.bool false) rfl (by kernel_rfl) (by kernel_rfl) (by kernel_rfl) (fun _ _ _ h =>h) (by kernel_rfl) ONLY.out (fun _ _ =>by kernel_rfl) ?_
   refine zAB 3 (.pointer (some ⟨w11.heap.size,1,none⟩)) rfl (by kernel_rfl) (by kernel_rfl) (by kernel_rfl) (fun _ _ _ h =>h) (by kernel_rfl) ONLY.out (fun _ _ =>by kernel_rfl) ?_
   refine zAB 4 (.slice A4 kk c4) rfl (by kernel_rfl) (by kernel_rfl) (by kernel_rfl) (fun _ _ _ h =>h) (by kernel_rfl) ONLY.out (by intro v1 hv;have q:=(zBf hv HPL.out).trans q1;go_simp) ?_
   refine zAB 5 (.int .i64 (kk:Int)) rfl (by kernel_rfl) (by kernel_rfl) (by kernel_rfl) (fun _ _ _ h =>h) (by kernel_rfl) ONLY.out (by intro v1 hv;go_simp) ?_
   refine zAB 6 (.int .i64 (syn:Int)) rfl (by kernel_rfl) (by kernel_rfl) (by kernel_rfl) (fun _ _ _ h =>h) (by kernel_rfl) ONLY.out (fun _ _ =>by kernel_rfl) ?_
   refine zAB 7 (.bool false) rfl (by kernel_rfl) (by kernel_rfl) (by kernel_rfl) (fun _ _ _ h =>h) (by kernel_rfl) ONLY.out (by intro v1 hv;go_simp) ?_
   refine zAB 8 (.bool false) rfl (by kernel_rfl) (by kernel_rfl) (by kernel_rfl) (fun _ _ _ h =>h) (by kernel_rfl) ONLY.out (fun _ _ =>by kernel_rfl) ?_
   refine zAB 9 (.bool false) rfl (by kernel_rfl) (by kernel_rfl) (by kernel_rfl) (fun _ _ _ h =>h) (by kernel_rfl) ONLY.out (fun _ _ =>by kernel_rfl) ?_
   refine zAB 10 (.pointer (some ⟨w11.heap.size,1,none⟩)) rfl (by kernel_rfl) (by kernel_rfl) (by kernel_rfl) (fun _ _ _ h =>h) (by kernel_rfl) ONLY.out (fun _ _ =>by kernel_rfl) ?_
   refine zAB 11 (.slice A4 kk c4) rfl (by kernel_rfl) (by kernel_rfl) (by kernel_rfl) (fun _ _ _ h =>h) (by kernel_rfl) ONLY.out (by intro v1 hv;have q:=(zBf hv HPL.out).trans q1;go_simp) ?_
   refine zAB 12 (.int .i64 (kk:Int)) rfl (by kernel_rfl) (by kernel_rfl) (by kernel_rfl) (fun _ _ _ h =>h) (by kernel_rfl) ONLY.out (by intro v1 hv;go_simp) ?_
   refine zAB 13 (.slice A13 u c13) rfl (by kernel_rfl) (by kernel_rfl) (by kernel_rfl) (fun _ _ _ h =>h) (by kernel_rfl) ONLY.out (fun _ _ =>by kernel_rfl) ?_
   refine zAB 14 (.int .i64 (u:Int)) rfl (by kernel_rfl) (by kernel_rfl) (by kernel_rfl) (fun _ _ _ h =>h) (by kernel_rfl) ONLY.out (by intro v1 hv;go_simp) ?_
   refine zAB 15 (.bool false) rfl (by kernel_rfl) (by kernel_rfl) (by kernel_rfl) (fun _ _ _ h =>h) (by kernel_rfl) ONLY.out (by intro v1 hv;go_simp) ?_
   refine zAB 16 (.bool false) rfl (by kernel_rfl) (by kernel_rfl) (by kernel_rfl) (fun _ _ _ h =>h) (by kernel_rfl) ONLY.out (fun _ _ =>by kernel_rfl) ?_
   refine zAB 17 (.bool false) rfl (by kernel_rfl) (by kernel_rfl) (by kernel_rfl) (fun _ _ _ h =>h) (by kernel_rfl) ONLY.out (fun _ _ =>by kernel_rfl) ?_
   refine zAB 18 (.pointer (some ⟨w11.heap.size,1,none⟩)) rfl (by kernel_rfl) (by kernel_rfl) (by kernel_rfl) (fun _ _ _ h =>h) (by kernel_rfl) ONLY.out (fun _ _ =>by kernel_rfl) ?_
   refine zAB 19 (.slice A4 kk c4) rfl (by kernel_rfl) (by kernel_rfl) (by kernel_rfl) (fun _ _ _ h =>h) (by kernel_rfl) ONLY.out (by intro v1 hv;have q:=(zBf hv HPL.out).trans q1;go_simp) ?_
   refine zAB 20 (.slice A13 u c13) rfl (by kernel_rfl) (by kernel_rfl) (by kernel_rfl) (fun _ _ _ h =>h) (by kernel_rfl) ONLY.out (fun _ _ =>by kernel_rfl) ?_
   refine zAB 21 (.pointer (some ⟨w11.heap.size,1,none⟩)) rfl (by kernel_rfl) (by kernel_rfl) (by kernel_rfl) (fun _ _ _ h =>h) (by kernel_rfl) ONLY.out (fun _ _ =>by kernel_rfl) ?_
   refine zAB 22 (.slice A4 kk c4) rfl (by kernel_rfl) (by kernel_rfl) (by kernel_rfl) (fun _ _ _ h =>h) (by kernel_rfl) ONLY.out (by intro v1 hv;have q:=(zBf hv HPL.out).trans q1;go_simp) ?_
   refine zAB 23 (.int .i64 (kk:Int)) rfl (by kernel_rfl) (by kernel_rfl) (by kernel_rfl) (fun _ _ _ h =>h) (by kernel_rfl) ONLY.out (by intro v1 hv;go_simp) ?_
   refine zAB 24 (.slice A13 kk c13) rfl (by kernel_rfl) (by kernel_rfl) (by kernel_rfl) (fun _ _ _ h =>h) (by kernel_rfl) ONLY.out (by intro v1 hv;have z1:=hslA v1;go_simp) ?_
   refine zAR 25 rfl (by kernel_rfl) (by kernel_rfl) (fun K hK =>?_)
   go_simp
   refine (zDH A4 A13 kk kk c4 c13 zs4 (xs.take kk) (by have:=HKK.out.2;have:=HUN.out;have:=HN.out;unfold maxLen;omega) (by have:=HKK.out.2;have:=HUN.out;have:=HN.out;unfold maxLen;omega) HZN4.out W0 ((HRO12.out.below HD8.out).read.1) (zBl (HRA.out W0 HD8.out) HKK.out.2 |> fun h =>by rw [List.take_take,Nat.min_eq_left HKK.out.2] at h;exact h)).mono ?_
   rintro e w13 ⟨he,hb13⟩
   obtain rfl:=he.yes HSAY4.out
   have ONLY13:Hid (∀ j:Nat,j<w12.heap.size→w13.heap[j]? = w12.heap[j]?):=fun j h1 =>(hb13.block j (Nat.lt_of_lt_of_le h1 HSZ0.out)).trans (ONLY.out j h1)
   have HB13:Hid (Below w12.heap.size w12 w13):=HD8.out.trans (hb13.mono HSZ0.out)
   clear hb13 he
   refine hK _ _ ONLY13.out ?_
   clear hK K
   refine zAB 26 (.bool false) rfl (by kernel_rfl) (by kernel_rfl) (by kernel_rfl) (fun _ _ _ h =>h) (by kernel_rfl) ONLY13.out (by intro v1 hv;go_simp) ?_
   refine zAB 27 (.bool false) rfl (by kernel_rfl) (by kernel_rfl) (by kernel_rfl) (fun _ _ _ h =>h) (by kernel_rfl) ONLY13.out (fun _ _ =>by kernel_rfl) ?_
   refine wpAnyH_done (by kernel_rfl) ?_ _
   go_simp
 
   clear g1 g2 d1 d2 q1 hslA
   have HJ13:=yh (HJ12.out.below HB13.out)
   have HBW13:Hid (Below w.heap.size w w13):=HBW12.out.trans (HB13.out.mono HBW12.out.size)
   have HLK2:Hid ((xs.take kk).length=kk):=by have:=HN.out;have:=HKK.out;have:=HUN.out;show (xs.take kk).length=kk;rw [List.length_take];omega
   have HMK:Hid (zAj 3 (xs.take kk)):=fun x hx =>HMU.out x (by rw [← Nat.min_eq_left HKK.out.2,← List.take_take] at hx;exact List.mem_of_mem_take hx)
   have HOP2:=yh (zEj (xs.take kk) kk HLK2.out HMK.out (fun x hx =>(HOK.out x (List.mem_of_mem_take hx)).1) (fun x hx =>by have:=HOK.out x (List.mem_of_mem_take hx);have:=HLN.out x (List.mem_of_mem_take hx);omega) (by have:=HLK2.out;have:=HN.out;have:=HKK.out;have:=HUN.out;omega) (HL.out.below HBW13.out) HJ13.out)
   go_wp2_with fail
   refine HOP2.out.mono ?_
   rintro e w14 ⟨⟨A5,E5,c5,d5,zs5,rfl,hsay5,hzn5,hro5⟩,hb14⟩
   obtain ⟨G,hG⟩:∃ G:Nat,G=eo 3 (xs.take kk) kk:=⟨_,rfl⟩
   rw [← hG]
   have hb15:=(Below.refl w14.heap.size w14).alloc (Nat.le_refl _) (.cells #[.int .i64 3,.slice A5 kk c5,.slice E5 kk d5,.int .i64 (G:Int)] 37)
   have hx15:=zAD w14 (.cells #[.int .i64 3,.slice A5 kk c5,.slice E5 kk d5,.int .i64 (G:Int)] 37)
   obtain ⟨w15,hw15⟩:∃ x,x=w14.alloc (.cells #[.int .i64 3,.slice A5 kk c5,.slice E5 kk d5,.int .i64 (G:Int)] 37):=⟨_,rfl⟩
   rw [← hw15] at hb15 hx15
   have hb1315:=hb14.trans (hb15.mono hb14.size)
   have HJ15:=yh (HJ13.out.below hb1315)
   have HRD:=yh (zHH HJ15.out G (by
    have h1:(zAT 3 3 (xs.take kk)).length=eo 3 (xs.take kk) (xs.take kk).length:=zBp 3 (xs.take kk)
    rw [h1,HLK2.out,hG]))
   have HRO15:=yh ((hro5.below hb15).read.1)
   have HB15:Hid (Below w12.heap.size w12 w15):=HB13.out.trans (hb1315.mono HB13.out.size)
   have HX15:=yh hx15
   have HW15:=yh hw15
   have HSAY5:=yh hsay5
   have HZN5:=yh hzn5
   have HLT15:Hid (w14.heap.size<w15.heap.size):=zAJ hx15
   clear hb14 hb15 hx15 hw15 hsay5 hzn5 hro5 hG hb1315
   go_wp2_with fail
   rw [← HW15.out]
   refine HRD.out.mono ?_
   rintro e w16 ⟨⟨A6,c6,rfl⟩,hb16⟩
   have HB16:Hid (Below w15.heap.size w15 w16):=hb16
   clear hb16
   have HBW16:Hid (Below w.heap.size w w16):=(HBW12.out.trans (HB15.out.mono HBW12.out.size)).trans (HB16.out.mono ((HBW12.out.trans (HB15.out.mono HBW12.out.size))).size)
   go_wp2_with fail
   refine (HFX.out w16 HBW16.out).mono ?_
   rintro e w17 ⟨rfl,hb17⟩
   have HB17:Hid (Below w15.heap.size w15 w17):=HB16.out.trans (hb17.mono HB16.out.size)
   have HBW17:Hid (Below w.heap.size w w17):=HBW16.out.trans (hb17.mono HBW16.out.size)
   have hx17:=(HB17.out.block w14.heap.size HLT15.out).trans HX15.out
   have hy17:=(HB17.out.block w11.heap.size (by have:=HPL.out;have:=HB15.out.size;omega)).trans ((HB15.out.block w11.heap.size HPL.out).trans HX12.out)
   have HX17:=yh hx17
   have q1:=zAA (i:=1) hx17 rfl;have q3:=zAA (i:=3) hx17 rfl;have r1:=zAA (i:=1) hy17 rfl
   have HRX17:Hid (Recs w17 w17.heap.size A5 kk zs5):=(HRO15.out.below HB17.out).more HB17.out.size
   have HRY17:Hid (Recs w17 w17.heap.size A4 kk zs4):=(HRO12.out.below (HB15.out.trans (HB17.out.mono HB15.out.size))).read.1
   clear hb17 hx17 hy17
   go_wp2_with fail
   refine (zDH A5 A4 kk kk c5 c4 zs5 zs4 (by have:=HKK.out.2;have:=HUN.out;have:=HN.out;unfold maxLen;omega) (by have:=HKK.out.2;have:=HUN.out;have:=HN.out;unfold maxLen;omega) HZN5.out w17 HRX17.out HRY17.out).mono ?_
   rintro e w18 ⟨he,hb18⟩
   obtain rfl:=he.yes (by rw [HSAY5.out,HSAY4.out])
   have hx18:=(hb18.block w14.heap.size (by have:=HLT15.out;have:=HB17.out.size;omega)).trans HX17.out
   have q3':=zAA (i:=3) hx18 rfl
   clear he q1 q3 r1 hx18
   go_wp2
   go_ret
   exact ⟨rfl,HBW17.out.trans (hb18.mono HBW17.out.size)⟩
end Go.Proofs.YtfbgmehicmpdiaaGreatDoor
