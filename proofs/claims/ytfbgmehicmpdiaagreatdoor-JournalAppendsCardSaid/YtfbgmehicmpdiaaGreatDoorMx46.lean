/- Texts of one proof. -/
import Derived.Test.YtfbgmehicmpdiaaGreatDoorMx45
set_option maxRecDepth 100000
set_option maxHeartbeats 8000000
namespace Go.Proofs.YtfbgmehicmpdiaaGreatDoor
open Go.RowKit
theorem zIT (v:Nat) (xs:List Rw) (k:Nat):(zAT v (v:Int) xs).take (eo (v:Int) xs k)=zAT v (v:Int) (xs.take k):=by
 have h2:=zCd (v:Int) [] (xs.take k) (xs.drop k)
 rw [List.take_append_drop] at h2
 have h3:zAT v (v:Int) xs=zAT v (v:Int) (xs.take k)++frs (zAI (v:Int) (zAW (v:Int) [] (xs.take k)) (xs.drop k)):=by
  unfold zAT
  rw [h2,zCw,List.append_assoc]
 have h4:(zAT v (v:Int) (xs.take k)).length=eo (v:Int) xs k:=by
  rw [zBp]
  unfold eo
  rw [List.take_of_length_le (Nat.le_refl _)]
 rw [h3,← h4,List.take_left]
section
variable {w W:World} {base p b m:Nat} {T:Nat→Prop}
theorem zNd {C:List UInt8} (h:JT w base p b T (Jz C) m W) (hm:m≤1000) (z:Nat) (hz:z≤C.length) :
  Calls Tryz.prog 36 #[.pointer (some ⟨p,0,none⟩),.string (tx [108,111,103]),.int .i64 (z:Int)] W fun e w' =>e=.returned (.int .i64 0)∧JT w base p b T (Jz (C.take z)) (m+2) w'∧Past T W w':=by
 obtain ⟨σ,N,F,h1,h2,h3,h4,hT,h5,hj⟩:=h
 have hja:=hj.ja
 refine (zMp p b N base σ F (by omega) (hj.sz.small (by omega)) hja.hf hja.hg W h4 h1 [108,111,103] (by unfold maxLen;simp) (z:Int)).mono ?_
 rintro e w' ⟨e0,rfl,σ',N',F',a1,a2,a3,a4,a5⟩
 have hr:refC σ ⟨1,[108,111,103],[],[],(z:Int),[]⟩=0:=by
  unfold refC
  simp only [hj.log,hj.q.1]
  simp
  omega
 have hnw:zBj σ ⟨1,[108,111,103],[],[],(z:Int),[]⟩=zAZ σ.fl [108,111,103] (some ⟨C.take z,(C.take z).length⟩):=by
  simp [zBj,zAl,hj.log,List.length_take,Nat.min_comm]
 have hgn:=(zBt hj.q.2.2)
 have hfn:=(zBt hj.q.2.1)
 rcases a5 with ⟨h0,_,_⟩ | ⟨_,rfl,rfl⟩
 ·exact absurd hr h0
 ·have hfl:(actS σ ⟨1,[108,111,103],[],[],(z:Int),[]⟩).fl=zAZ σ.fl [108,111,103] (some ⟨C.take z,(C.take z).length⟩):=by
   rw [← hnw];simp [actS,zAm,hgn.2,hfn.2,zCH]
  have hle:=hja.le
  refine ⟨by simp [zAn,hgn.2,hfn.2],zEO h3 h4 hT h5 a1 (by omega) a3 a4 ⟨by rw [hfl,zDU],⟨?_,?_,?_⟩,?_⟩⟩
  ·simp [actS,hgn.2]
  ·show (zAH σ.f).1=false;rw [hfn.1];exact hj.q.2.1
  ·show (zAH σ.g).1=false;rw [hgn.1];exact hj.q.2.2
  ·exact zCy hj.sz hfl (fun y h =>by obtain rfl:=Option.some.inj h;exact ⟨by simp;omega,Nat.le_refl _,by simp⟩)
def zIF (w:World) (base p b m:Nat) (T:Nat→Prop) (v:Nat) (xs:List Rw) (k:Nat) (W:World) (e:Ending) (w':World):Prop :=
 (∃ A3 E3 c3 d3 zs,e=.returned (.tuple #[.agg #[.int .i64 (v:Int),.slice A3 k c3,.slice E3 k d3,.int .i64 (eo (v:Int) xs k:Int)],.int .i64 0])∧zs.map Rw.say=(xs.take k).map Rw.say∧(∀ z ∈ zs,z.n≤1000000)∧zAo w' W.heap.size k (.slice A3 k c3) (.slice E3 k d3) zs (zBr (v:Int) xs k))∧JT w base p b T (Jz (zAT v (v:Int) (xs.take k))) (m+2) w'∧Past T W w'
theorem zKd (v k G q:Nat) (xs:List Rw) (C:List UInt8) (hq:C.length=q) (hqm:q≤1073741824) (hG:G≤q) (hGe:eo (v:Int) xs k=G) (hpre:C.take G=zAT v (v:Int) (xs.take k)) (h:JT w base p b T (Jz C) m W) (hm:m≤1000)
  (hGET:Hid (∀ W',Below W.heap.size W W'→∀ A1 c1,q≤c1→zAE W' W'.heap.size 1 A1 q (C.map bv)→Calls Tryz.prog 35 #[.slice A1 q c1] W' (zDj v xs k W'))) :
  Calls Tryz.prog 14 #[.pointer (some ⟨p,0,none⟩),.string (tx [108,111,103])] W (zIF w base p b m T v xs k W):=by
 have hb0:=(Below.refl W.heap.size W).alloc (Nat.le_refl _) (.cells #[.int .i64 0,.slice none 0 0,.slice none 0 0,.int .i64 0] 37)
 have hx0:=zAD W (.cells #[.int .i64 0,.slice none 0 0,.slice none 0 0,.int .i64 0] 37)
 have hRD:Hid (Calls Tryz.prog 19 #[.pointer (some ⟨p,0,none⟩),.string (tx [108,111,103])] (W.alloc (.cells #[.int .i64 0,.slice none 0 0,.slice none 0 0,.int .i64 0] 37)) fun e w' =>(∃ A' c',e=.returned (.tuple #[.slice A' q c',.int .i64 0])∧q≤c'∧zAE w' w'.heap.size 1 A' q (C.map bv))∧Below (W.alloc (.cells #[.int .i64 0,.slice none 0 0,.slice none 0 0,.int .i64 0] 37)).heap.size (W.alloc (.cells #[.int .i64 0,.slice none 0 0,.slice none 0 0,.int .i64 0] 37)) w'):=by
  obtain ⟨σ,N,F,h1,h2,h3,h4,hT,h5,hj⟩:=h
  obtain ⟨hxb,hxf⟩:=h1.below hb0
  have h0:=zFQ p b N base σ.down σ.f σ.g σ.fl F [108,111,103] (by unfold maxLen;simp) ⟨C,C.length⟩ hj.log (by show C.length≤_;omega) (W.alloc (.cells #[.int .i64 0,.slice none 0 0,.slice none 0 0,.int .i64 0] 37)) hxb hxf
  simp only [hq] at h0
  refine h0.mono ?_
  rintro e w2 ⟨⟨A',c',rfl,_,ho⟩,hb2⟩
  obtain ⟨_,_,he,hc,hr⟩:=zBL ho
  cases he
  exact ⟨⟨A',c',rfl,hc,hr⟩,hb2⟩
 have HJ:=yh h
 have HGE:=yh hGe
 have HPRE:=yh hpre
 have HB0:=yh hb0
 have HX0:=yh hx0
 have HG:Hid (G≤C.length):=(by omega:G≤C.length)
 have HQ:=yh hq
 clear h hGe hpre hb0 hx0 hq
 go_enter Tryz.func14,Tryz.ntmps14
 go_wp2_with fail
 refine hRD.out.mono ?_
 rintro e w2 ⟨⟨A',c',rfl,hc,hr⟩,hb2⟩
 have HB2:=yh (HB0.out.trans (hb2.mono HB0.out.size))
 have HX2:=yh ((hb2.block W.heap.size (Array.getElem?_eq_some_iff.1 HX0.out).1).trans HX0.out)
 have HR:=yh hr
 have HC:=yh hc
 clear hb2 hr hc hRD
 go_wp2_with fail
 refine (hGET.out _ HB2.out A' c' HC.out HR.out).mono ?_
 rintro e w3 ⟨⟨A3,E3,c3,d3,zs,rfl,hsay,hzn,hro⟩,hb3⟩
 rw [HGE.out]
 have HB3:=yh (HB2.out.trans (hb3.mono HB2.out.size))
 have hx3:=(hb3.block W.heap.size (Array.getElem?_eq_some_iff.1 HX2.out).1).trans HX2.out
 have hb34:=(Below.refl w3.heap.size w3).alloc (Nat.le_refl _) (.cells #[.int .i64 (v:Int),.slice A3 k c3,.slice E3 k d3,.int .i64 (G:Int)] 37)
 have hxf:=zAD w3 (.cells #[.int .i64 (v:Int),.slice A3 k c3,.slice E3 k d3,.int .i64 (G:Int)] 37)
 have hx4:=(hb34.block W.heap.size (Array.getElem?_eq_some_iff.1 hx3).1).trans hx3
 have HB4:=yh (HB3.out.trans (hb34.mono HB3.out.size))
 have HRO:=yh (hro.below hb34)
 have HLT:Hid (W.heap.size<w2.heap.size):=(Array.getElem?_eq_some_iff.1 HX2.out).1
 have HX4:=yh hx4
 have HXF:=yh hxf
 have HSAY:=yh hsay
 have HZN:=yh hzn
 have HUB:=yh HJ.out.under
 have q3:=zAA (i:=3) hxf rfl
 have HLE23:Hid (w2.heap.size≤w3.heap.size):=hb3.size
 clear hb3 hx3 hb34 hx4 hro hsay hzn
 by_cases heq:G=q
 ·have hqg:((G:Int) == (q:Int))=true:=by rw [heq];simp
  have q0:=zAA (i:=0) hxf rfl;have q1:=zAA (i:=1) hxf rfl;have q2:=zAA (i:=2) hxf rfl
  have r0:=zAA (i:=0) HX4.out rfl;have r1:=zAA (i:=1) HX4.out rfl;have r2:=zAA (i:=2) HX4.out rfl;have r3:=zAA (i:=3) HX4.out rfl
  have y0:=zAC (i:=0) HX4.out;have y1:=zAC (i:=1) HX4.out;have y2:=zAC (i:=2) HX4.out;have y3:=zAC (i:=3) HX4.out
  have HEQ:=yh heq
  clear hxf heq
  go_wp2
  have g0:=zBb (W:=w3.alloc (.cells #[.int .i64 (v:Int),.slice A3 k c3,.slice E3 k d3,.int .i64 (G:Int)] 37)) (b:=W.heap.size) (.int .i64 (v:Int)) (.slice A3 k c3) (.slice E3 k d3) (.int .i64 (G:Int))
  have hx5:=zAF (zAF (zAF (zAF HX4.out 0 (.int .i64 (v:Int))) 1 (.slice A3 k c3)) 2 (.slice E3 k d3)) 3 (.int .i64 (G:Int))
  refine bodyPost_ret (zBn Tryz.results14 _ _ W.heap.size _ _ (0,0) _ rfl hx5 Tryz.underlying37 rfl (by kernel_rfl)) rfl ?_
  have hcc:C=zAT v (v:Int) (xs.take k):=by rw [← HPRE.out,List.take_of_length_le (by rw [HQ.out,HEQ.out];exact Nat.le_refl _)]
  have hb5:=HB4.out.grown g0 HB4.out.size (fun k e =>by cases e;exact Nat.le_refl _)
  refine ⟨⟨A3,E3,c3,d3,zs,by rw [HGE.out];rfl,HSAY.out,HZN.out,(HRO.out.kept g0 HLT.out).less (Nat.le_of_lt HLT.out)⟩,?_,Past.of_below hb5 HJ.out.lt⟩
  rw [← hcc]
  exact (HJ.out.below hb5).room (by omega)
 ·have hqg:((G:Int) == (q:Int))=false:=by simpa using fun e =>heq (by omega)
  have HJ4:=yh (HJ.out.wide HB4.out)
  have HTR:=yh (zNd HJ4.out hm G HG.out)
  clear hxf heq
  go_wp2_with fail
  refine HTR.out.mono ?_
  rintro e w5 ⟨rfl,hj5,hp5⟩
  have hlt3:=HLE23.out
  have hltw:=HLT.out
  have hT4:∀ j,W.heap.size≤j→j<(w3.alloc (.cells #[.int .i64 (v:Int),.slice A3 k c3,.slice E3 k d3,.int .i64 (G:Int)] 37)).heap.size→w5.heap[j]? = (w3.alloc (.cells #[.int .i64 (v:Int),.slice A3 k c3,.slice E3 k d3,.int .i64 (G:Int)] 37)).heap[j]?:=fun j h1 h2 =>hp5 j (.inr ⟨h1,h2⟩)
  have hs4:(w3.alloc (.cells #[.int .i64 (v:Int),.slice A3 k c3,.slice E3 k d3,.int .i64 (G:Int)] 37)).heap.size=w3.heap.size+1:=by simp
  have hxf5:=(hT4 w3.heap.size (by omega) (by omega)).trans HXF.out
  have hx5:=(hT4 W.heap.size (Nat.le_refl _) (by omega)).trans HX4.out
  have HX5:=yh hx5
  have HRO5:Hid (zAo w5 w2.heap.size k (.slice A3 k c3) (.slice E3 k d3) zs (zBr (v:Int) xs k)):=HRO.out.past ((HRO.out.inT (T:=T)).wide fun j hj =>hj.imp id fun h =>⟨by have:=HLT.out;omega,h.2⟩) hp5
  have HJ5:=yh hj5
  have HPW:Hid (Past T W w5):=fun j hj =>(hp5 j (.inl hj)).trans (HB4.out.block j (HJ.out.lt j hj))
  have HL5:Hid (W.heap.size<w5.heap.size):=zAJ hx5
  have q0:=zAA (i:=0) hxf5 rfl;have q1:=zAA (i:=1) hxf5 rfl;have q2:=zAA (i:=2) hxf5 rfl;have q3':=zAA (i:=3) hxf5 rfl
  have r0:=zAA (i:=0) hx5 rfl;have r1:=zAA (i:=1) hx5 rfl;have r2:=zAA (i:=2) hx5 rfl;have r3:=zAA (i:=3) hx5 rfl
  have y0:=zAC (i:=0) hx5;have y1:=zAC (i:=1) hx5;have y2:=zAC (i:=2) hx5;have y3:=zAC (i:=3) hx5
  clear hxf5 hx5 hT4 hp5 hj5 q3 hlt3 hs4 hltw
  go_wp2
  have g0:=zBb (W:=w5) (b:=W.heap.size) (.int .i64 (v:Int)) (.slice A3 k c3) (.slice E3 k d3) (.int .i64 (G:Int))
  have hx5:=zAF (zAF (zAF (zAF HX5.out 0 (.int .i64 (v:Int))) 1 (.slice A3 k c3)) 2 (.slice E3 k d3)) 3 (.int .i64 (G:Int))
  refine bodyPost_ret (zBn Tryz.results14 _ _ W.heap.size _ _ (0,0) _ rfl hx5 Tryz.underlying37 rfl (by kernel_rfl)) rfl ?_
  have ht:Turn (fun k =>k=W.heap.size) w5 _:=(Turn.refl _ _).grown g0 (fun i e _ =>(Option.some.inj e).symm)
  refine ⟨⟨A3,E3,c3,d3,zs,by rw [HGE.out];rfl,HSAY.out,HZN.out,(HRO5.out.kept g0 HLT.out).less (Nat.le_of_lt HLT.out)⟩,?_,fun j hj =>(g0.block j (by have:=HJ.out.lt j hj;have:=HL5.out;omega) (fun e =>by have:=HJ.out.lt j hj;have:=Option.some.inj e;omega)).trans (HPW.out j hj)⟩
  rw [← HPRE.out]
  exact (HJ5.out.kept ht (fun j e =>by subst e;exact ⟨.inr ⟨Nat.le_refl _,by have:=HB4.out.size;have:=HXF.out;have:=(Array.getElem?_eq_some_iff.1 HX4.out).1;omega⟩,HUB.out.2⟩)).less (fun j hj =>.inl hj)
end
theorem zJH {w W:World} {base p b m:Nat} {T:Nat→Prop} (v:Nat) (hv:1≤v∧v≤3) (xs:List Rw) (hm:zAj (v:Int) xs) (hf:∀ x ∈ xs,Fits x.r x.l) (hl60:∀ x ∈ xs,x.l.length≤1000000) (h30:xs.length≤30) (q:Nat) (h8:8≤q) (hq:q≤(zAT v (v:Int) xs).length) (hl:Laid W) (h:JT w base p b T (Jz ((zAT v (v:Int) xs).take q)) m W) (hm2:m≤1000) :
  ∃ k,k≤xs.length∧(∀ i,i≤xs.length→(eo (v:Int) xs i≤q ↔ i≤k))∧Calls Tryz.prog 14 #[.pointer (some ⟨p,0,none⟩),.string (tx [108,111,103])] W (zIF w base p b m T v xs k W):=by
 obtain ⟨k,k1,k2,k3⟩:=zJi v hv xs hm hf hl60 h30 q h8 hq
 have hle:eo (v:Int) xs k≤q:=(k2 k k1).2 (Nat.le_refl _)
 have hlen:((zAT v (v:Int) xs).take q).length=q:=by rw [List.length_take];omega
 have hbig:(zAT v (v:Int) xs).length≤2000000:=by
  obtain ⟨_,_,f3,_⟩:=zCL hm h30
  unfold zAT
  rw [List.length_append,zBW]
  omega
 refine ⟨k,k1,k2,zKd v k _ q xs _ hlen (by omega) hle rfl ?_ h hm2 (yh fun W' hb A1 c1 hc hr =>k3 A1 c1 W' hc (hl.below hb) hr)⟩
 rw [List.take_take,Nat.min_eq_left hle,zIT v xs k]
theorem JT.ex {w W:World} {base p b m:Nat} {T:Nat→Prop} {R:List UInt8→Nat→Prop} (h:JT w base p b T (fun σ =>∃ C q,R C q∧Jz (C.take q) σ) m W):∃ C q,R C q∧JT w base p b T (Jz (C.take q)) m W:=by
 obtain ⟨σ,N,F,h1,h2,h3,h4,hT,h5,C,q,hR,h6⟩:=h
 exact ⟨C,q,hR,σ,N,F,h1,h2,h3,h4,hT,h5,h6⟩
theorem Recs.cutk {w:World} {B:Nat} {A:Option Addr} {n c k:Nat} {xs:List Rw} (h:Recs w B A n xs) (hk:k≤n) (hc:n≤c):Recs w B (if c=k then A else A.map (·.add (k * 7))) (n - k) (xs.drop k):=by
 refine ⟨?_,fun x hx =>h.2 x (List.mem_of_mem_drop hx)⟩
 have h1:=h.1.cut (k:=k) (cap:=c) hk hc
 have e:∀ (k:Nat) (xs:List Rw),(rws xs).drop (k * 7)=rws (xs.drop k):=fun k =>by
  induction k with
  | zero =>intro xs;simp
  | succ k ih =>
   intro xs
   cases xs with
   | nil =>simp [rws]
   | cons x xs =>rw [zDv,List.drop_succ_cons,show (k+1) * 7=x.cells.length+k * 7 by rw [zCM];omega,List.drop_append,List.drop_of_length_le (by omega),Nat.add_sub_cancel_left,ih,List.nil_append]
 rw [e] at h1
 exact h1
theorem zCS (v:Int) (xs:List Rw) {i u:Nat} (h:i≤u):eo v (xs.take u) i=eo v xs i:=by
 unfold eo
 rw [List.take_take,Nat.min_eq_left h]
theorem zOy (v:Int) (xs:List Rw) {i j:Nat} (h:i≤j) (hj:j≤xs.length):eo v xs i≤eo v xs j:=by
 rcases Nat.lt_or_eq_of_le h with h | rfl
 ·exact Nat.le_of_lt (zGA v xs h hj)
 ·exact Nat.le_refl _
theorem zLU (v:Nat) (xs:List Rw) (u' u q:Nat) (h:u'≤u) (hq:q≤(zAT v (v:Int) (xs.take u')).length):(zAT v (v:Int) (xs.take u')).take q=(zAT v (v:Int) (xs.take u)).take q:=by
 have h1:=zIT v (xs.take u) u'
 rw [List.take_take,Nat.min_eq_left h] at h1
 rw [← h1,List.length_take] at hq
 rw [← h1,List.take_take,Nat.min_eq_left (by omega)]
theorem zKl (w:World) (e:TypeId) (size:Nat):(w.alloc (.cells #[] e)).ownsRow w.heap.size e size (.slice (some ⟨w.heap.size,0,none⟩) 0 0) 0 [] :=
 ⟨by simp,.inr ⟨w.heap.size,0,#[],rfl,Nat.le_refl _,(by show (w.heap.push _)[w.heap.size]? = _;exact Array.getElem?_push_size),Nat.le_refl _,by unfold maxLen;omega,by simp,by simp⟩⟩
theorem JT.keptw {w W w':World} {base p b m:Nat} {S T:Nat→Prop} {P:FsSt→Prop} (h:JT w base p b T P m W) (ht:Turn S W w') (hS:∀ k,k<W.heap.size→S k→T k∧base≤k):JT w base p b (fun k =>T k∨(W.heap.size≤k∧k<w'.heap.size)) P m w':=by
 obtain ⟨σ,N,F,h1,h2,h3,h4,hT,h5,h6⟩:=h
 have hlt:=zEN h1.2 h1.1
 have ht':Turn (fun k =>S k∧k<W.heap.size) W w':=⟨ht.1,ht.2.1,ht.2.2.1,ht.2.2.2.1,fun k hk hn =>ht.2.2.2.2 k hk (fun hs =>hn ⟨hs,hk⟩)⟩
 exact ⟨σ,N,F,h1.past ht' (fun k hk hs =>(h3 k hk).2 (hS k hs.2 hs.1).1),h2,fun k hk =>⟨(h3 k hk).1,fun h =>by rcases h with h | h;exact (h3 k hk).2 h;have:=hlt k hk;omega⟩,Nat.le_trans h4 ht.2.2.2.1,fun k hk =>by rcases hk with hk | hk;exact Nat.lt_of_lt_of_le (hT k hk) ht.2.2.2.1;exact hk.2,h5.trans (ht'.below (fun k hk =>(hS k hk.2 hk.1).2) h4),h6⟩
structure Apt (g:Nat) (va ve:Value) (zs:List Rw):Prop where
 a:va.ownBlock≠some g
 e:ve.ownBlock≠some g
 d:∀ z ∈ zs,(Value.slice z.A z.n z.c).ownBlock≠some g
theorem zAo.apt {W:World} {g lo m:Nat} {va ve:Value} {zs:List Rw} {es:List Value} (h:zAo W lo m va ve zs es) (hg:g<lo∨W.heap.size≤g):Apt g va ve zs :=
 ⟨fun e =>by have:=zAG h.recs g e;have:=zAO h.recs g e;omega,fun e =>by have:=zAG h.ends g e;have:=zAO h.ends g e;omega,fun z hz e =>by have:=zAG (h.deps z hz) g e;have:=zAO (h.deps z hz) g e;omega⟩
theorem zAo.turned {W w':World} {S:Nat→Prop} {lo m:Nat} {va ve:Value} {zs:List Rw} {es:List Value} (h:zAo W lo m va ve zs es) (ht:Turn S W w') (hS:∀ g,g<W.heap.size→S g→Apt g va ve zs):zAo w' lo m va ve zs es :=
 ⟨zAP h.recs (fun k hk =>ht.2.2.2.2 k (zAO h.recs k hk) (fun hs =>(hS k (zAO h.recs k hk) hs).a hk)),fun z hz =>zAP (h.deps z hz) (fun k hk =>ht.2.2.2.2 k (zAO (h.deps z hz) k hk) (fun hs =>(hS k (zAO (h.deps z hz) k hk) hs).d z hz hk)),zAP h.ends (fun k hk =>ht.2.2.2.2 k (zAO h.ends k hk) (fun hs =>(hS k (zAO h.ends k hk) hs).e hk))⟩
theorem zIC {W w':World} {row:Option Nat} (h:W.grownBy w' row):Turn (fun k =>row=some k) W w':=(Turn.refl _ _).grown h (fun _ e _ =>e)
structure ApSt (w1:World) (base p b:Nat) (xs:List Rw) (n a syn bx mm:Nat) (v13:Value) (wr:World):Prop where
 ex:∃ T m A3 c3 E3 d3 zs lo s,JT w1 base p b T (Ja (zAT 3 3 (xs.take n)) s) m wr∧m≤mm∧eo 3 xs syn≤s∧wr.heap[bx]? = some (.cells #[.int .i64 3,.slice A3 n c3,.slice E3 n d3,.int .i64 (eo 3 xs n:Int)] 37 (0,0))∧zs.map Rw.say=(xs.take n).map Rw.say ∧
  zAo wr lo n (.slice A3 n c3) (.slice E3 n d3) zs (zBr 3 xs n)∧InT T (.slice A3 n c3) (.slice E3 n d3) zs∧T bx∧wr.ownsRow base 46 7 v13 a (rws (xs.take a))∧(∀ g,v13.ownBlock=some g→T g∧g≠bx∧Apt g (.slice A3 n c3) (.slice E3 n d3) zs)
 hb:base≤bx
 sy:syn≤n
 na:n≤a
 bw:Below base w1 wr∧base≤wr.heap.size
structure PoSt (w1:World) (base p b:Nat) (xs:List Rw) (u syn mm:Nat) (v13:Value) (wr:World):Prop where
 ex:∃ T m,JT w1 base p b T (fun σ =>∃ C s,(∃ u',syn≤u'∧u'≤u∧C=zAT 3 3 (xs.take u'))∧eo 3 xs syn≤s∧Ja C s σ) m wr∧m≤mm∧wr.ownsRow base 46 7 v13 u (rws (xs.take u))∧∀ g,v13.ownBlock=some g→T g
 sy:syn≤u
 bw:Below base w1 wr∧base≤wr.heap.size
section
variable {w1 wr w':World} {base p b n a syn bx mm:Nat} {xs:List Rw} {v13:Value}
theorem ApSt.post (h:ApSt w1 base p b xs n a syn bx mm v13 wr):PoSt w1 base p b xs a syn mm v13 wr:=by
 obtain ⟨T,m,A3,c3,E3,d3,zs,lo,s,h1,h2,h3,h4,h5,h6,h7,h9,h10,h11⟩:=h.ex
 exact ⟨⟨T,m,h1.imp fun σ hs =>⟨_,s,⟨n,h.sy,h.na,rfl⟩,h3,hs⟩,h2,h10,fun g hg =>(h11 g hg).1⟩,Nat.le_trans h.sy h.na,h.bw⟩
theorem ApSt.below (h:ApSt w1 base p b xs n a syn bx mm v13 wr) (hb:Below wr.heap.size wr w'):ApSt w1 base p b xs n a syn bx mm v13 w':=by
 obtain ⟨T,m,A3,c3,E3,d3,zs,lo,s,h1,h2,h3,h4,h5,h6,h7,h9,h10,h11⟩:=h.ex
 exact ⟨⟨T,m,A3,c3,E3,d3,zs,lo,s,h1.below hb,h2,h3,(hb.block bx (Array.getElem?_eq_some_iff.1 h4).1).trans h4,h5,h6.below hb,h7,h9,zAK h10 hb,h11⟩,h.hb,h.sy,h.na,h.bw.1.trans (hb.mono h.bw.2),Nat.le_trans h.bw.2 hb.size⟩
theorem ApSt.more {mm':Nat} (h:ApSt w1 base p b xs n a syn bx mm v13 wr) (hm:mm≤mm'):ApSt w1 base p b xs n a syn bx mm' v13 wr:=by
 obtain ⟨T,m,A3,c3,E3,d3,zs,lo,s,h1,h2,hr⟩:=h.ex
 exact ⟨⟨T,m,A3,c3,E3,d3,zs,lo,s,h1,Nat.le_trans h2 hm,hr⟩,h.hb,h.sy,h.na,h.bw⟩
theorem PoSt.below {u:Nat} (h:PoSt w1 base p b xs u syn mm v13 wr) (hb:Below wr.heap.size wr w'):PoSt w1 base p b xs u syn mm v13 w':=by
 obtain ⟨T,m,h1,h2,h3,h4⟩:=h.ex
 exact ⟨⟨T,m,h1.below hb,h2,zAK h3 hb,h4⟩,h.sy,h.bw.1.trans (hb.mono h.bw.2),Nat.le_trans h.bw.2 hb.size⟩
theorem ApSt.grow (h:ApSt w1 base p b xs n a syn bx mm v13 wr) {v14:Value} (hg:wr.grownBy w' v13.ownBlock) (ho:w'.ownsRow base 46 7 v14 (a+1) (rws (xs.take (a+1)))) (hv:v14.ownBlock=v13.ownBlock∨v14.ownBlock=some wr.heap.size):ApSt w1 base p b xs n (a+1) syn bx mm v14 w':=by
 obtain ⟨T,m,A3,c3,E3,d3,zs,lo,s,h1,h2,h3,h4,h5,h6,h7,h9,h10,h11⟩:=h.ex
 have ht:=zIC hg
 have hbx:bx<wr.heap.size:=(Array.getElem?_eq_some_iff.1 h4).1
 have hS:∀ k,k<wr.heap.size→v13.ownBlock=some k→T k∧base≤k:=fun k _ hk =>⟨(h11 k hk).1,zAG h10 k hk⟩
 refine ⟨⟨_,m,A3,c3,E3,d3,zs,lo,s,h1.keptw ht hS,h2,h3,(hg.block bx hbx (fun e =>(h11 bx e.symm).2.1 rfl)).trans h4,h5,h6.turned ht (fun g _ hk =>(h11 g hk).2.2),h7.wide (fun _ h =>.inl h),.inl h9,ho,fun g hk =>?_⟩,h.hb,h.sy,by have:=h.na;omega,h.bw.1.grown hg h.bw.2 (fun k hk =>zAG h10 k hk),Nat.le_trans h.bw.2 hg.size⟩
 rcases hv with hv | hv
 ·rw [hv] at hk
  exact ⟨.inl (h11 g hk).1,(h11 g hk).2⟩
 ·have hlt:=zAO ho g hk
  rw [hv] at hk
  obtain rfl:=Option.some.inj hk
  exact ⟨.inr ⟨Nat.le_refl _,hlt⟩,by omega,h6.apt (.inr (Nat.le_refl _))⟩
theorem zOs (h:ApSt w1 base p b xs n n syn bx mm v13 wr) (hn:n≤xs.length) (hm:mm≤1000) :
  Calls Tryz.prog 18 #[.pointer (some ⟨p,0,none⟩),.string (tx [108,111,103])] wr fun e w' =>∃ e0:Int,e=.returned (.int .i64 e0)∧((e0=0∧ApSt w1 base p b xs n n n bx (mm+2) v13 w')∨(e0=7∧ApSt w1 base p b xs n n syn bx (mm+2) v13 w')):=by
 obtain ⟨T,m,A3,c3,E3,d3,zs,lo,s,h1,h2,h3,h4,h5,h6,h7,h9,h10,h11⟩:=h.ex
 refine (zPK h1 (by omega)).mono ?_
 rintro e w' ⟨e0,rfl,hp,hy⟩
 refine ⟨e0,rfl,?_⟩
 have hlen:(zAT 3 3 (xs.take n)).length=eo 3 xs n:=by
  have:=zBp 3 (xs.take n)
  rw [List.length_take,Nat.min_eq_left hn] at this
  exact this.trans (zCS 3 xs (Nat.le_refl _))
 rcases hy with ⟨rfl,hj⟩ | ⟨rfl,hj⟩
 ·refine .inl ⟨rfl,⟨⟨T,m+2,A3,c3,E3,d3,zs,lo,_,hj,by omega,by rw [hlen];exact Nat.le_refl _,(hp bx h9).trans h4,h5,h6.past h7 hp,h7,h9,hp.row h10 (fun k hk =>(h11 k hk).1),h11⟩,h.hb,Nat.le_refl _,h.na,hj.under⟩⟩
 ·refine .inr ⟨rfl,⟨⟨T,m+2,A3,c3,E3,d3,zs,lo,s,hj,by omega,h3,(hp bx h9).trans h4,h5,h6.past h7 hp,h7,h9,hp.row h10 (fun k hk =>(h11 k hk).1),h11⟩,h.hb,h.sy,h.na,hj.under⟩⟩
end
theorem zJw (ver:Int):∀ (zs ys:List Rw) (tl:List (List UInt8)),zs.map Rw.say=ys.map Rw.say→zAW ver tl zs=zAW ver tl ys
 | [],[],_,_ =>rfl
 | [],_ :: _,_,h =>by simp at h
 | _ :: _,[],_,h =>by simp at h
 | z :: zs,y :: ys,tl,h =>by
  rw [List.map_cons,List.map_cons,List.cons.injEq] at h
  have h1:z.r=y.r:=congrArg Prod.fst h.1
  have h2:z.l=y.l:=congrArg Prod.snd h.1
  show zAW ver (tabT ver tl z.r z.l) zs=zAW ver (tabT ver tl y.r y.l) ys
  rw [h1,h2,zJw ver zs ys _ h.2]
theorem zLF {w1 wr:World} {base p b n syn bx mm:Nat} {xs:List Rw} {v13:Value} (h:ApSt w1 base p b xs n (n+1) syn bx mm v13 wr) (h30:xs.length≤30) (hl:Laid wr) (hok:∀ x ∈ xs,Fits x.r x.l∧Nums x.r x.l∧x.n≤1000) (hM:zAj 3 (xs.take (n+1))) (x:Rw) (hx:xs[n]? = some x) (hrx:zAE w1 base 3 x.A x.n (dps x.l)∧(x.A=none→x.c=0)) (hmm:mm≤900) :
  ∃ A3 c3 E3 d3,wr.heap[bx]? = some (.cells #[.int .i64 3,.slice A3 n c3,.slice E3 n d3,.int .i64 (eo 3 xs n:Int)] 37 (0,0))∧Calls Tryz.prog 17 #[.pointer (some ⟨p,0,none⟩),.string (tx [108,111,103]),.agg #[.int .i64 3,.slice A3 n c3,.slice E3 n d3,.int .i64 (eo 3 xs n:Int)],.agg #[.int .i64 x.r.kind,.string (tx x.r.target),.int .u64 x.r.rule,.slice x.A x.n x.c,.int .u64 x.r.out,.int .u64 x.r.time,.string (tx x.r.tag)]] wr fun e w' =>
   (∃ A' c' E' d',e=.returned (.tuple #[.agg #[.int .i64 3,.slice A' (n+1) c',.slice E' (n+1) d',.int .i64 (eo 3 xs (n+1):Int)],.int .i64 0])∧w'.heap[bx]? = wr.heap[bx]?∧bx<w'.heap.size ∧
    ∀ w2,w2.heap[bx]? = some (.cells #[.int .i64 3,.slice A' (n+1) c',.slice E' (n+1) d',.int .i64 (eo 3 xs (n+1):Int)] 37 (0,0))→Turn (fun j =>j=bx) w' w2→ApSt w1 base p b xs (n+1) (n+1) syn bx (mm+2) v13 w2) ∨
   (e=.returned (.tuple #[.agg #[.int .i64 0,.slice none 0 0,.slice none 0 0,.int .i64 0],.int .i64 7])∧PoSt w1 base p b xs (n+1) syn (mm+2) v13 w'):=by
 obtain ⟨T,m,A3,c3,E3,d3,zs,lo,s,h1,h2,h3,h4,h5,h6,h7,h9,h10,h11⟩:=h.ex
 have hnx:n<xs.length:=(List.getElem?_eq_some_iff.1 hx).1
 have hxm:=List.mem_of_getElem? hx
 have hsz:zs.length=n:=by
  have:=congrArg List.length h5
  simp [List.length_take] at this
  omega
 have hzx:∀ z ∈ zs,∃ x ∈ xs.take n,x.r=z.r∧x.l=z.l:=fun z hz =>by
  have h2:Rw.say z ∈ (xs.take n).map Rw.say:=by rw [← h5];exact List.mem_map_of_mem hz
  obtain ⟨y,hy,e⟩:=List.mem_map.1 h2
  exact ⟨y,hy,congrArg Prod.fst e,congrArg Prod.snd e⟩
 have hzl:∀ z ∈ zs,z.l.length=z.n:=fun z hz =>by
  have:=(h6.deps z hz).1
  rw [zAr] at this
  omega
 have hxl:∀ x ∈ xs,MayP 3 x.r x.l→x.l.length≤1000:=fun x _ hm =>by have:=(zBm hm).2.2.1;omega
 have hmt:∀ z ∈ zs,MayP 3 z.r z.l∧Nums z.r z.l:=fun z hz =>by
  obtain ⟨y,hy,e1,e2⟩:=hzx z hz
  have:=hM y (by
   obtain ⟨i,hi⟩:=List.getElem?_of_mem hy
   rw [List.getElem?_take] at hi
   split at hi
   ·exact List.mem_of_getElem? (i:=i) (by rw [List.getElem?_take,if_pos (by omega)];exact hi)
   ·cases hi)
  rw [← e1,← e2];exact this
 have hmx:MayP 3 x.r x.l:=(hM x (List.mem_of_getElem? (i:=n) (by rw [List.getElem?_take,if_pos (by omega)];exact hx))).1
 obtain ⟨D,hD⟩:∃ D,D=frs (payL 3 (zAW 3 [] zs) x.r x.l):=⟨_,rfl⟩
 have hlay:zAW 3 [] zs=zAW 3 [] (xs.take n):=zJw 3 zs (xs.take n) [] h5
 have hsn:=zFH (ver:=3) hx
 have hfile:zAT 3 3 (xs.take n)++D=zAT 3 3 (xs.take (n+1)):=by
  unfold zAT
  rw [hsn.1,hD,hlay,List.append_assoc]
 have hbig:(zAT 3 3 (xs.take (n+1))).length≤2000000:=by
  obtain ⟨_,_,f3,_⟩:=zCL hM (by rw [List.length_take];omega)
  unfold zAT
  rw [List.length_append,zBW]
  omega
 have hl0:∀ j,j≤xs.length→(zAT 3 3 (xs.take j)).length=eo 3 xs j:=fun j hj =>by
  have:=zBp 3 (xs.take j)
  rw [List.length_take,Nat.min_eq_left hj] at this
  exact this.trans (zCS 3 xs (Nat.le_refl _))
 have hGD:eo 3 xs n+D.length=eo 3 xs (n+1):=by
  rw [← hl0 n (by omega),← hl0 (n+1) (by omega),← hfile,List.length_append]
 have hlen2:(zAT 3 3 (xs.take n)).length+D.length=(zAT 3 3 (xs.take (n+1))).length:=by rw [← hfile,List.length_append]
 have hes:zBr 3 xs (n+1)=zBr 3 xs n++[.int .i64 ((eo 3 xs (n+1):Nat):Int)]:=by
  unfold zBr
  rw [List.range_succ,List.map_append]
  rfl
 refine ⟨A3,c3,E3,d3,h4,?_⟩
 refine (zJG 3 zs A3 E3 n c3 d3 lo (eo 3 xs n) s (zAT 3 3 (xs.take n)) D (zBr 3 xs n) (by omega) (fun z hz =>by
   obtain ⟨y,hy,e1,e2⟩:=hzx z hz
   have:=hok y (List.mem_of_mem_take hy)
   rw [← e1,← e2]
   exact ⟨this.1,this.2.1,by rw [← hzl z hz];have:=(zBm (hmt z hz).1).2.2.1;omega⟩) hmt x.r x.A x.n x.c x.l hmx (hok x hxm).1 (hok x hxm).2.1 (by have:=(hok x hxm).2.2;omega) hrx.2 (fun u hu =>by
   obtain ⟨i,_,rfl⟩:=List.mem_map.1 hu
   rfl) hl h6 h7 hrx.1 h1 (by omega) hD (by omega) (by rw [hGD,← hl0 (n+1) (by omega)];omega)).mono ?_
 rintro e w' ⟨hp,hh⟩
 rw [hfile,hGD] at hh
 have hbxl:bx<wr.heap.size:=(Array.getElem?_eq_some_iff.1 h4).1
 rcases hh with ⟨A',c',E',d',zs',lo',rfl,hsay,hro,hlo,hj⟩ | ⟨rfl,hj⟩
 ·refine .inl ⟨A',c',E',d',rfl,hp bx h9,(hj.lt bx (.inl h9)),fun w2 hx2 ht =>?_⟩
  have hjb:∀ k,k<w'.heap.size→k=bx→(T k∨(lo'≤k∧k<w'.heap.size))∧base≤k:=fun k _ e =>by subst e;exact ⟨.inl h9,h.hb⟩
  have hj2:=hj.keptw ht hjb
  have hvb:∀ k,v13.ownBlock=some k→k<lo':=fun k hk =>Nat.lt_of_lt_of_le (zAO h10 k hk) hlo
  have hro2:zAo w2 lo' (n+1) (.slice A' (n+1) c') (.slice E' (n+1) d') zs' (zBr 3 xs (n+1)):=by
   rw [hes]
   exact hro.turned ht (fun g _ e =>by subst e;exact hro.apt (.inl (Nat.lt_of_lt_of_le hbxl hlo)))
  refine ⟨⟨_,m+2,A',c',E',d',zs',lo',s,hj2,by omega,h3,hx2,?_,hro2,(hro.inT (T:=T)).wide (fun _ h =>.inl h),.inl (.inl h9),?_,fun g hk =>⟨.inl (.inl (h11 g hk).1),(h11 g hk).2.1,hro.apt (.inl (hvb g hk))⟩⟩,h.hb,by have:=h.sy;omega,Nat.le_refl _,?_⟩
  ·rw [hsay,List.map_append,h5,List.take_add_one,hx,List.map_append]
   rfl
  ·have ho:=hp.row h10 (fun k hk =>(h11 k hk).1)
   exact zAP ho (fun k hk =>ht.2.2.2.2 k (zAO ho k hk) (fun e =>(h11 k hk).2.1 e))
  ·exact hj2.under
 ·refine .inr ⟨rfl,⟨⟨T,m+2,hj.imp fun σ hs =>?_,by omega,hp.row h10 (fun k hk =>(h11 k hk).1),fun g hk =>(h11 g hk).1⟩,by have:=h.sy;omega,hj.under⟩⟩
  rcases hs with hs | hs
  ·exact ⟨_,s,⟨n,h.sy,by omega,rfl⟩,h3,hs⟩
  ·exact ⟨_,s,⟨n+1,by have:=h.sy;omega,Nat.le_refl _,rfl⟩,h3,hs⟩
end Go.Proofs.YtfbgmehicmpdiaaGreatDoor
