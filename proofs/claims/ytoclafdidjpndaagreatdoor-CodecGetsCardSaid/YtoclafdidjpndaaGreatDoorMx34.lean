/- Texts of one proof. -/
import Derived.Test.YtoclafdidjpndaaGreatDoorMx33
set_option maxRecDepth 100000
set_option maxHeartbeats 8000000
namespace Go.Proofs.YtoclafdidjpndaaGreatDoor
open Go.RowKit
theorem zLC (v:Nat):(zDA v (v:Int) []).length=8:=by
 unfold zDA
 rw [List.length_append,zCa];rfl
theorem zDF (w:World) (hl:Laid w):Calls Tryz.prog 6 #[] w fun e w' =>e=.returned (.bool true)∧Below w.heap.size w w':=by
 have h0:=zFa 2 (by omega) [] none 0 0 (by omega) (by simp) w hl (Recs.nil w _ none)
 have HPUT:Hid (Calls Tryz.prog 7 #[.int .i64 2,.slice none 0 0] w fun e w' =>(∃ A c,e=.returned (.tuple #[.slice A 8 c,.int .i64 0]))∧Below w.heap.size w w'):=by
  refine h0.mono ?_
  rintro e w1 ⟨h1,hb⟩
  refine ⟨?_,hb⟩
  rcases h1 with ⟨_,u,rfl,ho⟩ | ⟨hn,_⟩
  ·obtain ⟨A,c,rfl,_⟩:=zBE ho
   have h8:=zLC 2
   exact ⟨A,c,by rw [h8]⟩
  ·exact absurd (fun x hx =>by cases hx) hn
 clear h0 hl
 go_enter Tryz.func6,Tryz.ntmps6
 go_wp2_with fail
 refine HPUT.out.mono ?_
 rintro e w1 ⟨⟨A,c,rfl⟩,hb⟩
 go_wp2
 go_ret
 exact ⟨rfl,hb⟩
theorem zHk (v g:Int) (A B E D:Option Addr) (n c c2 d d2:Nat) (xs ys:List Rw) (es:List Nat) (hn:n≤1000000) (hs:∀ x ∈ xs,x.n≤1000000) (hsay:xs.map Rw.say=ys.map Rw.say) (w:World) (h1:Recs w w.heap.size A n xs) (h2:Recs w w.heap.size B n ys) (h3:zAE w w.heap.size 1 E n (es.map inv)) (h4:zAE w w.heap.size 1 D n (es.map inv)) :
  Calls Tryz.prog 10 #[.agg #[.int .i64 v,.slice A n c,.slice E n d,.int .i64 g],.agg #[.int .i64 v,.slice B n c2,.slice D n d2,.int .i64 g]] w fun e w' =>e=.returned (.bool true)∧Below w.heap.size w w':=by
 have hb0:=(Below.refl w.heap.size w).alloc (Nat.le_refl _) (.cells #[.int .i64 v,.slice A n c,.slice E n d,.int .i64 g] 33)
 have hb1:=hb0.alloc hb0.size (.cells #[.int .i64 v,.slice B n c2,.slice D n d2,.int .i64 g] 37)
 have hx0:=zAG w (.cells #[.int .i64 v,.slice A n c,.slice E n d,.int .i64 g] 33)
 have hx1:=zAG (w.alloc (.cells #[.int .i64 v,.slice A n c,.slice E n d,.int .i64 g] 33)) (.cells #[.int .i64 v,.slice B n c2,.slice D n d2,.int .i64 g] 37)
 obtain ⟨w1,hw1⟩:∃ x,x=(w.alloc (.cells #[.int .i64 v,.slice A n c,.slice E n d,.int .i64 g] 33)).alloc (.cells #[.int .i64 v,.slice B n c2,.slice D n d2,.int .i64 g] 37):=⟨_,rfl⟩
 have hx0':w1.heap[w.heap.size]? = some (.cells #[.int .i64 v,.slice A n c,.slice E n d,.int .i64 g] 33):=by
  rw [hw1]
  exact (((Below.refl (w.alloc (.cells #[.int .i64 v,.slice A n c,.slice E n d,.int .i64 g] 33)).heap.size (w.alloc (.cells #[.int .i64 v,.slice A n c,.slice E n d,.int .i64 g] 33))).alloc (Nat.le_refl _) _).block w.heap.size (Array.getElem?_eq_some_iff.1 hx0).1).trans hx0
 have hx1':w1.heap[w.heap.size+1]? = some (.cells #[.int .i64 v,.slice B n c2,.slice D n d2,.int .i64 g] 37):=by
  rw [hw1]
  have e:(w.alloc (.cells #[.int .i64 v,.slice A n c,.slice E n d,.int .i64 g] 33)).heap.size=w.heap.size+1:=by simp
  rw [← e];exact hx1
 have HB1:Hid (Below w.heap.size w w1):=by show Below _ _ _;rw [hw1];exact hb1
 have HALL:=yh (zNQ A B n n c c2 xs ys (Nat.le_trans hn (by unfold maxLen;omega)) (Nat.le_trans hn (by unfold maxLen;omega)) hs w1 ((h1.below HB1.out).more HB1.out.size) ((h2.below HB1.out).more HB1.out.size))
 have hlen:es.length=n:=by have:=h3.1;simpa using this
 have HL:=yh hlen
 have H3:Hid (zAE w1 w.heap.size 1 E n (es.map inv)):=h3.below HB1.out
 have H4:Hid (zAE w1 w.heap.size 1 D n (es.map inv)):=h4.below HB1.out
 have HSAY:=yh hsay
 have HSZ:Hid (w1.heap.size=w.heap.size+2):=by show _=_;rw [hw1];simp
 have HX0:=yh hx0'
 have HX1:=yh hx1'
 have p0:=zAA (i:=0) hx0' rfl;have p1:=zAA (i:=1) hx0' rfl;have p2:=zAA (i:=2) hx0' rfl;have p3:=zAA (i:=3) hx0' rfl
 have q0:=zAA (i:=0) hx1' rfl;have q1:=zAA (i:=1) hx1' rfl;have q2:=zAA (i:=2) hx1' rfl;have q3:=zAA (i:=3) hx1' rfl
 clear h1 h2 h3 h4 hb0 hb1 hx0 hx1 hx0' hx1' hlen hsay hs
 go_enter Tryz.func10,Tryz.ntmps10
 go_wp2_with fail
 rw [← hw1]
 refine HALL.out.mono ?_
 rintro e w2 ⟨⟨bo,hbo,rfl⟩,hb2⟩
 obtain rfl:bo=true:=hbo.2 HSAY.out
 have H3b:=yh (H3.out.below (hb2.mono (by have:=HSZ.out;omega)))
 have H4b:=yh (H4.out.below (hb2.mono (by have:=HSZ.out;omega)))
 have HB2:=yh (HB1.out.trans (hb2.mono (by have:=HSZ.out;omega)))
 have hy0:w2.heap[w.heap.size]? = _:=(hb2.block w.heap.size (by have:=HSZ.out;omega)).trans HX0.out
 have hy1:w2.heap[w.heap.size+1]? = _:=(hb2.block (w.heap.size+1) (by have:=HSZ.out;omega)).trans HX1.out
 have HY0:=yh hy0
 have HY1:=yh hy1
 have r2:=zAA (i:=2) hy0 rfl;have s2:=zAA (i:=2) hy1 rfl
 clear hb2 hy0 hy1 hbo
 go_wp2
 go_loopw [38] (fun idx wr =>∃ i:Nat,i≤n∧idx=.int .i64 (i:Int)∧Below w2.heap.size w2 wr) (fun idx _ =>n - (intOf idx).toNat)
 case atStart =>exact ⟨0,by omega,rfl,Below.refl _ _⟩
 case round =>
  obtain ⟨i,hi,rfl,hbw⟩:=hrel
  have hz0:wr.heap[w.heap.size]? = _:=(hbw.block w.heap.size (Array.getElem?_eq_some_iff.1 HY0.out).1).trans HY0.out
  have hz1:wr.heap[w.heap.size+1]? = _:=(hbw.block (w.heap.size+1) (Array.getElem?_eq_some_iff.1 HY1.out).1).trans HY1.out
  have r2:=zAA (i:=2) hz0 rfl;have s2:=zAA (i:=2) hz1 rfl
  clear hz0 hz1
  by_cases hlt:i<n
  ·obtain ⟨ad,u,rfl,_,hu,hcell⟩:=(H3b.out.below (hbw.mono HB2.out.size)).at_ hlt
   obtain ⟨ad',u',rfl,_,hu',hcell'⟩:=(H4b.out.below (hbw.mono HB2.out.size)).at_ hlt
   obtain ⟨x,hx⟩:∃ x,es[i]? = some x:=⟨_,List.getElem?_eq_getElem (by rw [HL.out];exact hlt)⟩
   obtain rfl:u=.int .i64 (x:Int):=by rw [List.getElem?_map,hx] at hu;simpa [inv] using hu.symm
   obtain rfl:u'=.int .i64 (x:Int):=by rw [List.getElem?_map,hx] at hu';simpa [inv] using hu'.symm
   clear hu hu' hx
   have HBW:=yh hbw
   clear hbw
   go_wp2
   go_region
   all_goals (try go_wp2)
   all_goals exact ⟨⟨i+1,by omega,by go_num,HBW.out.drew⟩,by simp [intOf];omega⟩
  ·obtain rfl:i=n:=by omega
   go_wp2
   go_ret
   exact ⟨rfl,HB2.out.trans (hbw.mono HB2.out.size)⟩
def dKn (tl:List (List UInt8)) (n:Nat) (c:Cu):List UInt8×Cu:=if n<tl.length then (zBB tl n,c) else ([],c.fail 1)
def dNm (ver:Int) (tl:List (List UInt8)) (c:Cu):List UInt8×Cu:=if ver=1 then c.text 64 else dKn tl c.num.1 c.num.2
def dDp (ver:Int) (tl:List (List UInt8)) (c:Cu):Dp×Cu :=
 if ver<3 then (⟨(dNm ver tl c).1,((dNm ver tl c).2.num.1:Int),false⟩,(dNm ver tl c).2.num.2)
 else (⟨(dKn tl (c.num.1 / 2) c.num.2).1,((dKn tl (c.num.1 / 2) c.num.2).2.num.1:Int),decide (c.num.1 % 2=1)⟩,(dKn tl (c.num.1 / 2) c.num.2).2.num.2)
def dDs (ver:Int) (tl:List (List UInt8)):Nat→List Dp×Cu→List Dp×Cu
 | 0,s =>s
 | i+1,s =>if (dDs ver tl i s).2.e=0 then ((dDs ver tl i s).1++[(dDp ver tl (dDs ver tl i s).2).1],(dDp ver tl (dDs ver tl i s).2).2) else dDs ver tl i s
def zCl (ver:Int) (c:Cu):Nat×Cu:=if 1<ver then c.num else (0,c)
def dTag (ver:Int) (tl:List (List UInt8)) (c:Cu):List UInt8×Cu:=if 2<ver then (if 0<c.num.1 then dKn tl (c.num.1 - 1) c.num.2 else ([],c.num.2)) else ([],c)
def zBa (ver:Int) (tl:List (List UInt8)) (p:List UInt8):Rc×List Dp×Bool :=
 let k:=(Cu.new p 0).num
 if k.2.e=0∧(k.1=1∨k.1=2) then
  let t:=dNm ver tl k.2
  if k.1=1 then
   let u:=t.2.num
   let ds:=dDs ver tl u.2.num.1 ([],u.2.num.2)
   let o:=ds.2.num
   let m:=zCl ver o.2
   let g:=dTag ver tl m.2
   (⟨1,t.1,(u.1:Int),(o.1:Int),(m.1:Int),g.1⟩,ds.1,decide (g.2.e=0∧g.2.at_=p.length))
  else (⟨2,t.1,0,0,0,[]⟩,[],decide (t.2.e=0∧t.2.at_=p.length))
 else (⟨0,[],0,0,0,[]⟩,[],false)
theorem zEU {tl:List (List UInt8)} {s suf:List UInt8} {c:Cu} (hin:s ∈ tl) (h:Rest c suf):dKn tl (tnum tl s) c=(s,c)∧Rest c suf:=by
 unfold dKn
 have hl:tnum tl s<tl.length:=by
  have:=zDj hin
  exact (List.getElem?_eq_some_iff.1 this).1
 rw [if_pos hl,zDg hin]
 exact ⟨rfl,h⟩
theorem zEr {ver:Int} {tl:List (List UInt8)} {c:Cu} {s suf:List UInt8} (hv:1≤ver) (hs:s.length≤64) (ht:tl.length≤1073741824) (hm:ver<2∨s ∈ tl) (h:Rest c (nmB ver tl s++suf)):(dNm ver tl c).1=s∧Rest (dNm ver tl c).2 suf:=by
 unfold nmB at h
 unfold dNm
 by_cases hv2:ver<2
 ·rw [if_pos hv2] at h
  rw [if_pos (by omega)]
  exact zHL hs h
 ·rw [if_neg hv2] at h
  rw [if_neg (by omega)]
  obtain ⟨h1,h2⟩:=zAv (zAm (by have:=zBc (s:=s) ht;omega)) h
  rw [h1]
  obtain ⟨h3,h4⟩:=zEU (hm.resolve_left hv2) h2
  rw [h3]
  exact ⟨rfl,h4⟩
theorem zKx {ver:Int} {tl:List (List UInt8)} {c:Cu} {d:Dp} {suf:List UInt8} (hv:1≤ver) (ht:tl.length≤1073741824) (hd:zEu ver tl d) (h:Rest c (fDep ver tl d++suf)):(dDp ver tl c).1=d∧Rest (dDp ver tl c).2 suf:=by
 obtain ⟨hs,hm,ho,hh⟩:=hd
 unfold fDep at h
 rw [List.append_assoc] at h
 unfold depB at h
 unfold dDp
 obtain ⟨nm,hash,ord⟩:=d
 simp only at hs hm ho hh h
 by_cases hv3:ver<3
 ·rw [if_pos hv3] at h ⊢
  obtain ⟨h1,h2⟩:=zEr hv hs ht hm h
  obtain ⟨h4,h5⟩:=zAv (zAJ hh).2 h2
  refine ⟨?_,h5⟩
  have h6:ord=false:=by
   cases ord with
   | false =>rfl
   | true =>have:=ho rfl;omega
  rw [h6]
  simp only [h1,h4]
  rw [← (zAJ hh).1]
 ·rw [if_neg hv3] at h ⊢
  have hin:nm ∈ tl:=hm.resolve_left (by omega)
  have hle:=zBc (s:=nm) ht
  obtain ⟨h1,h2⟩:=zAv (zAm (by split <;> omega)) h
  have e1:c.num.1 / 2=tnum tl nm:=by rw [h1];split <;> omega
  rw [e1]
  obtain ⟨h3,h4⟩:=zEU hin h2
  rw [h3]
  obtain ⟨h5,h6⟩:=zAv (zAJ hh).2 h4
  refine ⟨?_,h6⟩
  have e2:decide (c.num.1 % 2=1)=ord:=by
   rw [h1]
   cases ord <;> simp <;> omega
  simp only [h5,e2]
  rw [← (zAJ hh).1]
theorem zGW {ver:Int} {tl:List (List UInt8)} (hv:1≤ver) (ht:tl.length≤1073741824) (c:Cu) (l:List Dp) (suf:List UInt8) (hd:∀ d ∈ l,zEu ver tl d) (h:Rest c (l.flatMap (fDep ver tl)++suf)) :
  ∀ i,i≤l.length→(dDs ver tl i ([],c)).1=l.take i∧Rest (dDs ver tl i ([],c)).2 ((l.drop i).flatMap (fDep ver tl)++suf)
 | 0,_ =>⟨by simp [dDs],h⟩
 | i+1,hi =>by
  obtain ⟨h1,h2⟩:=zGW hv ht c l suf hd h i (by omega)
  have hx:l.drop i=l[i] :: l.drop (i+1):=List.drop_eq_getElem_cons (by omega)
  rw [hx,List.flatMap_cons,List.append_assoc] at h2
  obtain ⟨h3,h4⟩:=zKx hv ht (hd _ (List.getElem_mem (by omega))) h2
  have e:dDs ver tl (i+1) ([],c)=((dDs ver tl i ([],c)).1++[(dDp ver tl (dDs ver tl i ([],c)).2).1],(dDp ver tl (dDs ver tl i ([],c)).2).2):=by
   show (if (dDs ver tl i ([],c)).2.e=0 then _ else _)=_
   rw [if_pos h2.1]
  rw [e]
  refine ⟨?_,h4⟩
  simp only
  rw [h1,h3,List.take_add_one,List.getElem?_eq_getElem (by omega)]
  rfl
theorem zIl {c:Cu} {p:List UInt8} (h:Rest c []) (hp:c.bs=p):decide (c.e=0∧c.at_=p.length)=true:=by
 obtain ⟨h1,h2,h3⟩:=h
 have:=congrArg List.length h3
 rw [List.length_drop] at this
 simp only [List.length_nil] at this
 rw [hp] at this h2
 exact decide_eq_true ⟨h1,by omega⟩
theorem zBJ (c:Cu):c.num.2.bs=c.bs:=by
 unfold Cu.num Cu.tk
 split
 ·split <;> rfl
 ·rfl
theorem zJg (c:Cu) (m:Int):(c.text m).2.bs=c.bs:=by
 unfold Cu.text Cu.tk
 split
 ·split <;> rfl
 ·rfl
theorem zEp (tl:List (List UInt8)) (n:Nat) (c:Cu):(dKn tl n c).2.bs=c.bs:=by
 unfold dKn Cu.fail
 split
 ·rfl
 ·simp only;split <;> rfl
theorem zET (ver:Int) (tl:List (List UInt8)) (c:Cu):(dNm ver tl c).2.bs=c.bs:=by
 unfold dNm
 split
 ·exact zJg _ _
 ·rw [zEp,zBJ]
theorem zPt (ver:Int) (tl:List (List UInt8)) (c:Cu):(dDp ver tl c).2.bs=c.bs:=by
 unfold dDp
 split
 ·simp only [zBJ,zET]
 ·simp only [zBJ,zEp]
theorem zFd (ver:Int) (tl:List (List UInt8)) (s:List Dp×Cu):∀ i,(dDs ver tl i s).2.bs=s.2.bs
 | 0 =>rfl
 | i+1 =>by
  show (if (dDs ver tl i s).2.e=0 then ((dDs ver tl i s).1++[(dDp ver tl (dDs ver tl i s).2).1],(dDp ver tl (dDs ver tl i s).2).2) else dDs ver tl i s).2.bs=_
  split
  ·simp only [zPt];exact zFd ver tl s i
  ·exact zFd ver tl s i
theorem zOL (ver:Int) (c:Cu):(zCl ver c).2.bs=c.bs:=by
 unfold zCl
 split
 ·exact zBJ _
 ·rfl
theorem zPa (ver:Int) (tl:List (List UInt8)) (c:Cu):(dTag ver tl c).2.bs=c.bs:=by
 unfold dTag
 split
 ·split
  ·rw [zEp,zBJ]
  ·exact zBJ _
 ·rfl
theorem zJf (k:Nat) (h:k=1∨k=2):vb k=[UInt8.ofNat k]:=by rcases h with rfl | rfl <;> (rw [vb];simp)
theorem zLK {ver:Int} {tl:List (List UInt8)} {r:Rc} {l:List Dp} (hm:MayP ver r l) (hnu:Nums r l) (ht:tl.length≤1073741824) (hin:ver<2 ∨ ∀ s ∈ zAg r l,s ∈ tl):zBa ver tl (payB ver tl r l)=(r,l,true):=by
 obtain ⟨n1,n2,n3,n4⟩:=zBM hm
 have hv1:1≤ver:=hm.1
 have tin:ver<2∨r.target ∈ tl:=hin.imp id fun h =>h _ (zAt (by simp))
 have din:∀ d ∈ l,ver<2∨d.name ∈ tl:=fun d hd =>hin.imp id fun h =>h _ (zAt (by
  refine List.mem_append.2 (.inl (List.mem_cons.2 (.inr ?_)))
  exact List.mem_map.2 ⟨d,hd,rfl⟩))
 have gin:ver<2∨r.tag=[]∨r.tag ∈ tl:=by
  by_cases hz:r.tag=[]
  ·exact .inr (.inl hz)
  ·exact hin.imp id fun h =>.inr (h _ (zAt (by rw [if_neg hz];simp)))
 have hstart:=zIa (payB ver tl r l)
 have hbs:(Cu.new (payB ver tl r l) 0).bs=payB ver tl r l:=by unfold Cu.new;rw [if_neg (by omega)]
 obtain ⟨k,t,u,o,m,g⟩:=r
 rcases hm with ⟨v1,v2,ht0,⟨hk,htime,htag,hdeps⟩ | ⟨hk,hgone,hl0⟩⟩
 ·simp only at hk n1 n2 tin gin htime htag
  subst hk
  have hpb:payB ver tl ⟨1,t,u,o,m,g⟩ l=vb 1++(nmB ver tl t++(vb u.toNat++(vb l.length++(l.flatMap (fDep ver tl)++(vb o.toNat++((if ver<2 then [] else vb m.toNat)++(if ver<3 then [] else fTag tl ⟨1,t,u,o,m,g⟩))))))):=by
   unfold payB zBk
   rw [if_neg (by simp),zJf 1 (.inl rfl)]
   simp only [List.append_assoc]
   rfl
  have hokd:∀ d ∈ l,zEu ver tl d:=fun d hd =>⟨n4 d hd,din d hd,(hdeps.2.1 d hd).2,hnu.2.2.2 d hd⟩
  unfold zBa
  obtain ⟨p,hp⟩:∃ p,p=payB ver tl ⟨1,t,u,o,m,g⟩ l:=⟨_,rfl⟩
  rw [← hp] at hstart hbs ⊢
  rw [← hp] at hpb
  obtain ⟨c0,hc0⟩:∃ c0,c0=Cu.new p 0:=⟨_,rfl⟩
  rw [← hc0] at hstart hbs ⊢
  have hst:Rest c0 (vb 1++(nmB ver tl t++(vb u.toNat++(vb l.length++(l.flatMap (fDep ver tl)++(vb o.toNat++((if ver<2 then [] else vb m.toNat)++(if ver<3 then [] else fTag tl ⟨1,t,u,o,m,g⟩)))))))):=by rw [← hpb];exact hstart
  obtain ⟨b1,b2⟩:=zAv (zAm (by omega)) hst
  simp only
  rw [if_pos ⟨b2.1,.inl b1⟩,if_pos b1]
  obtain ⟨a1,a2⟩:=zEr hv1 n1 ht tin b2
  obtain ⟨a3,a4⟩:=zAv (zAJ hnu.1).2 a2
  obtain ⟨a5,a6⟩:=zAv (zAm (by omega)) a4
  obtain ⟨q1,q2⟩:=zGW hv1 ht _ l _ hokd a6 l.length (Nat.le_refl _)
  rw [List.take_length] at q1
  rw [List.drop_length,List.flatMap_nil,List.nil_append] at q2
  rw [a5,a1,a3]
  obtain ⟨a7,a8⟩:=zAv (zAJ hnu.2.1).2 q2
  rw [q1,a7]
  obtain ⟨cd,hcd⟩:∃ cd,cd=(dDs ver tl l.length ([],(dNm ver tl c0.num.2).2.num.2.num.2)).2.num.2:=⟨_,rfl⟩
  have hcb:cd.bs=p:=by rw [hcd,zBJ,zFd,zBJ,zBJ,zET,zBJ,hbs]
  rw [← hcd] at a8 ⊢
  have hw:(zCl ver cd).1=m.toNat∧Rest (zCl ver cd).2 (if ver<3 then [] else fTag tl ⟨1,t,u,o,m,g⟩):=by
   unfold zCl
   by_cases hv2:ver<2
   ·rw [if_neg (by omega)]
    rw [if_pos hv2,if_pos (by omega)] at a8
    have hm0:m=0:=by rcases htime with h | h;exact h;omega
    rw [hm0,if_pos (by omega)]
    exact ⟨rfl,a8⟩
   ·rw [if_pos (by omega)]
    rw [if_neg hv2] at a8
    exact zAv (zAJ hnu.2.2.1).2 a8
  have hwb:(zCl ver cd).2.bs=p:=by rw [zOL,hcb]
  rw [hw.1]
  obtain ⟨ce,hce⟩:∃ ce,ce=(zCl ver cd).2:=⟨_,rfl⟩
  have hw2:=hw.2
  rw [← hce] at hw2 hwb ⊢
  have hg:(dTag ver tl ce).1=g∧Rest (dTag ver tl ce).2 []:=by
   unfold dTag
   by_cases hv3:ver<3
   ·rw [if_neg (by omega)]
    rw [if_pos hv3] at hw2
    have hg0:g=[]:=by rcases htag with h | h;exact h;omega
    rw [hg0]
    exact ⟨rfl,hw2⟩
   ·rw [if_pos (by omega)]
    rw [if_neg hv3] at hw2
    have hw3:Rest ce (fTag tl ⟨1,t,u,o,m,g⟩++[]):=by simpa using hw2
    unfold fTag at hw3
    by_cases hz:g=[]
    ·simp only [hz,if_true] at hw3
     obtain ⟨h1,h2⟩:=zAv (zAm (by omega)) hw3
     rw [h1,if_neg (by omega),hz]
     exact ⟨rfl,h2⟩
    ·simp only [hz,if_false] at hw3
     have hle:=zBc (s:=g) ht
     obtain ⟨h1,h2⟩:=zAv (zAm (by omega)) hw3
     rw [h1,if_pos (by omega),show tnum tl g+1 - 1=tnum tl g from rfl]
     obtain ⟨h3,h4⟩:=zEU ((gin.resolve_left (by omega)).resolve_left hz) h2
     rw [h3]
     exact ⟨rfl,h4⟩
  rw [hg.1,zIl hg.2 (by rw [zPa];exact hwb),← (zAJ hnu.1).1,← (zAJ hnu.2.1).1,← (zAJ hnu.2.2.1).1]
 ·simp only at hk hgone
  obtain rfl:k=2:=hk
  subst hl0
  have hg:=hgone
  simp only [Rc.mk.injEq,true_and] at hg
  obtain ⟨rfl,rfl,rfl,rfl⟩:=hg
  have hpb:payB ver tl ⟨2,t,0,0,0,[]⟩ []=vb 2++(nmB ver tl t++[]):=by
   unfold payB
   rw [if_pos rfl,zJf 2 (.inr rfl),List.append_nil]
   rfl
  unfold zBa
  obtain ⟨p,hp⟩:∃ p,p=payB ver tl ⟨2,t,0,0,0,[]⟩ []:=⟨_,rfl⟩
  rw [← hp] at hstart hbs ⊢
  rw [← hp] at hpb
  obtain ⟨c0,hc0⟩:∃ c0,c0=Cu.new p 0:=⟨_,rfl⟩
  rw [← hc0] at hstart hbs ⊢
  have hst:Rest c0 (vb 2++(nmB ver tl t++[])):=by rw [← hpb];exact hstart
  obtain ⟨b1,b2⟩:=zAv (zAm (by omega)) hst
  simp only
  rw [if_pos ⟨b2.1,.inr b1⟩,if_neg (by omega)]
  obtain ⟨a1,a2⟩:=zEr hv1 n1 ht tin b2
  rw [a1,zIl a2 (by rw [zET,zBJ];exact hbs)]
theorem zCZ {P:Program} {fn:Func} {u p:Tmp} {ty:TypeId} (h:fn.results=#[.tmp u,.cell p ty]) (tmps:Array Value) (w:World) (g:Nat) (t:TypeId) (cs:Array Value) (fr:Nat×Nat) (d:TypeDesc)
  (hp:tmps.getD p undef=.pointer (some ⟨g,0,none⟩)) (hg:w.heap[g]? = some (.cells cs t fr))
  (hu:P.underlying ty=some d) (hd:(match d with | .struct _ | .array _ _ =>true | _ =>false)=true) (hi:(P.info? ty).map (·.size)=some cs.size) :
  (results fn tmps).run P w=.ok (.tuple #[tmps.getD u undef,.agg cs]) w:=by
 have hp':tmps[p]?.getD undef=.pointer (some ⟨g,0,none⟩):=by simpa using hp
 simp [results,h,hp',asAddr,run_loadVar_row w g t ty cs fr d hg hu hd hi]
theorem zOy {c:Cu} (h:c.nuR.2.2≠0):c.nuR.1=0:=by
 unfold Cu.nuR at *
 rcases zCS (c.bs.drop c.at_) 0 0 with hg | hg | ⟨m,k,hg⟩
 ·rw [hg]
 ·rw [hg]
 ·rw [hg] at h;exact absurd rfl h
theorem zOu {c:Cu} {m:Int} (h:(c.txR m).2.2≠0):(c.txR m).1=[]:=by
 unfold Cu.txR bg at *
 simp only at *
 split
 ·rfl
 ·split
  ·rfl
  ·split
   ·rfl
   ·rename_i a b d
    rw [if_neg a,if_neg b,if_neg d] at h
    exact absurd rfl h
def atV (c:Cu):Int:=if c.e=0 then (c.at_:Int) else -1
def wkV (c:Cu) (T:Option Addr) (n k:Nat):Value:=.agg #[.string (tx c.bs),.int .i64 (atV c),.slice T n k]
theorem zFM (s:ByteArray) (a y z:Int) (v:Nat) (T:Option Addr) (n k:Nat) (w:World) (hg:∀ W,Calls Tryz.prog 96 #[.string s,.int .i64 a] W fun e w' =>e=.returned (.tuple #[.int .u64 (v:Int),.int .i64 y,.int .i64 z])∧W=w') :
  Calls Tryz.prog 67 #[.agg #[.string s,.int .i64 a,.slice T n k]] w fun e w' =>e=.returned (.tuple #[.int .u64 (v:Int),.agg #[.string s,.int .i64 (if z=0 then y else -1),.slice T n k]])∧Below w.heap.size w w':=by
 have HG:=yh hg
 clear hg
 by_cases hz:z=0
 ·subst hz
  rw [if_pos rfl]
  go_enter Tryz.func67,Tryz.ntmps67
  go_wp2_with fail
  refine (HG.out _).mono ?_
  rintro e w1 ⟨rfl,rfl⟩
  go_wp2
  go_region
  all_goals (try go_wp2)
  go_returns
  exact ⟨rfl,(((Below.refl _ w).alloc (Nat.le_refl _) _).alloc (by simp) _).drew⟩
 ·rw [if_neg hz]
  have hz2:(z != 0)=true:=by simpa using hz
  go_enter Tryz.func67,Tryz.ntmps67
  go_wp2_with fail
  refine (HG.out _).mono ?_
  rintro e w1 ⟨rfl,rfl⟩
  go_wp2
  go_region
  all_goals (try go_wp2)
  go_returns
  exact ⟨rfl,(((Below.refl _ w).alloc (Nat.le_refl _) _).alloc (by simp) _).drew⟩
theorem zNM (c:Cu) (z:Int) (hz:z≠0):atV (c.fail z) = -1:=by
 unfold atV Cu.fail
 by_cases h:c.e=0
 ·rw [if_pos h,if_neg hz]
 ·rw [if_neg h,if_neg h]
theorem zGA (c:Cu) (hok:c.ok) (hrm:c.bs.length≤1000000) (T:Option Addr) (n k:Nat) (w:World) :
  Calls Tryz.prog 67 #[wkV c T n k] w fun e w' =>e=.returned (.tuple #[.int .u64 (c.num.1:Int),wkV c.num.2 T n k])∧Below w.heap.size w w':=by
 unfold wkV
 rw [zBJ]
 by_cases h0:c.e=0
 ·have ha:atV c=(c.at_:Int):=if_pos h0
  rw [ha]
  have hg:∀ W,Calls Tryz.prog 96 #[.string (tx c.bs),.int .i64 (c.at_:Int)] W fun e w' =>e=.returned (.tuple #[Value.int .u64 ((c.nuR.1:Nat):Int),.int .i64 (c.nuR.2.1:Int),.int .i64 (c.nuR.2.2:Int)])∧W=w' :=
   fun W =>zHN c.at_ c.bs (by omega) hok W
  by_cases h1:c.nuR.2.2=0
  ·have e1:c.num=(c.nuR.1,{ c with at_:=c.nuR.2.1 }):=by simp only [Cu.num,Cu.tk,h0,h1,if_true]
   have h2:=zFM (tx c.bs) (c.at_:Int) _ _ c.nuR.1 T n k w hg
   rw [if_pos (by omega)] at h2
   rw [e1]
   have e2:atV { c with at_:=c.nuR.2.1 }=(c.nuR.2.1:Int):=if_pos h0
   rw [e2]
   exact h2
  ·have e1:c.num=(0,{ c with e:=(c.nuR.2.2:Int) }):=by simp only [Cu.num,Cu.tk,h0,if_true,if_neg h1]
   have h2:=zFM (tx c.bs) (c.at_:Int) _ _ c.nuR.1 T n k w hg
   rw [if_neg (by omega),show c.nuR.1=0 from zOy h1] at h2
   rw [e1]
   have e2:atV { c with e:=(c.nuR.2.2:Int) } = -1:=if_neg (by show ¬ (c.nuR.2.2:Int)=0;omega)
   rw [e2]
   exact h2
 ·have ha:atV c = -1:=if_neg h0
  have e1:c.num=(0,c):=Cu.tk_e h0
  rw [e1,ha]
  have h2:=zFM (tx c.bs) (-1) _ _ 0 T n k w (fun W =>zGJ (tx c.bs) (-1) (.inl (by omega)) W)
  rw [if_neg (by omega)] at h2
  skip
  exact h2
theorem zPR (s:ByteArray) (a:Int) (n:Nat) (T:Option Addr) (tn tk:Nat) (tl:List (List UInt8)) (hn:n<tl.length) (htn:tn≤1000000) (w:World) (hr:zAE w w.heap.size 1 T tn (tl.map tsv)) :
  Calls Tryz.prog 70 #[.agg #[.string s,.int .i64 a,.slice T tn tk],.int .u64 (n:Int)] w fun e w' =>e=.returned (.tuple #[.string (tx (zBB tl n)),.agg #[.string s,.int .i64 a,.slice T tn tk]])∧Below w.heap.size w w':=by
 have hl:tl.length=tn:=by have:=hr.1;simpa using this
 have hb1:=(Below.refl w.heap.size w).alloc (Nat.le_refl _) (.cells #[.string s,.int .i64 a,.slice T tn tk] 132)
 have hb2:=hb1.alloc hb1.size (.cells #[.string ⟨#[]⟩,.int .i64 0,.slice none 0 0] 132)
 obtain ⟨ad,u,rfl,hab,hu,hc⟩:=(hr.below hb2).at_ (k:=n) (by omega)
 obtain rfl:u=.string (tx (zBB tl n)):=by
  rw [List.getElem?_map,List.getElem?_eq_getElem hn] at hu
  have h1:zBB tl n=tl[n]:=by unfold zBB;rw [List.getElem?_eq_getElem hn];rfl
  rw [h1]
  exact (Option.some.inj hu).symm
 have hlt:(n:Int)<(tn:Int):=by omega
 have hw1:IntKind.u64.wrap (tn:Int)=(tn:Int):=by rw [show IntKind.u64.wrap (tn:Int)=(tn:Int) % 18446744073709551616 from rfl];omega
 have hge:decide ((n:Int) ≥ (tn:Int))=false:=decide_eq_false (by omega)
 clear hr hu hb1 hb2
 go_enter Tryz.func70,Tryz.ntmps70
 go_wp2
 go_region
 all_goals (try go_wp2)
 go_returns
 exact ⟨rfl,(((Below.refl _ w).alloc (Nat.le_refl _) _).alloc (by simp) _).drew⟩
theorem zOo (s:ByteArray) (a:Int) (n:Nat) (T:Option Addr) (tn tk:Nat) (hn:tn≤n) (htn:tn≤1000000) (w:World) :
  Calls Tryz.prog 70 #[.agg #[.string s,.int .i64 a,.slice T tn tk],.int .u64 (n:Int)] w fun e w' =>e=.returned (.tuple #[.string (tx []),.agg #[.string s,.int .i64 (-1),.slice T tn tk]])∧Below w.heap.size w w':=by
 have hw1:IntKind.u64.wrap (tn:Int)=(tn:Int):=by rw [show IntKind.u64.wrap (tn:Int)=(tn:Int) % 18446744073709551616 from rfl];omega
 have hge:decide ((n:Int) ≥ (tn:Int))=true:=decide_eq_true (by omega)
 go_enter Tryz.func70,Tryz.ntmps70
 go_wp2
 go_region
 all_goals (try go_wp2)
 go_returns
 exact ⟨rfl,(((Below.refl _ w).alloc (Nat.le_refl _) _).alloc (by simp) _).drew⟩
theorem zGt (c:Cu) (n:Nat) (T:Option Addr) (tn tk:Nat) (tl:List (List UInt8)) (htn:tn≤1000000) (w:World) (hr:zAE w w.heap.size 1 T tn (tl.map tsv)) :
  Calls Tryz.prog 70 #[wkV c T tn tk,.int .u64 (n:Int)] w fun e w' =>e=.returned (.tuple #[.string (tx (dKn tl n c).1),wkV (dKn tl n c).2 T tn tk])∧Below w.heap.size w w':=by
 have hl:tl.length=tn:=by have:=hr.1;simpa using this
 unfold wkV
 rw [zEp]
 unfold dKn
 by_cases hn:n<tl.length
 ·rw [if_pos hn]
  exact zPR _ _ n T tn tk tl hn htn w hr
 ·rw [if_neg hn]
  simp only
  rw [zNM c 1 (by omega)]
  exact zOo _ _ n T tn tk (by omega) htn w
theorem zJN (s:ByteArray) (a y z:Int) (v:ByteArray) (T:Option Addr) (n k:Nat) (w:World) (hg:∀ W,Calls Tryz.prog 66 #[.string s,.int .i64 a,.int .i64 64] W fun e w' =>e=.returned (.tuple #[.string v,.int .i64 y,.int .i64 z])∧W=w') :
  Calls Tryz.prog 68 #[.agg #[.string s,.int .i64 a,.slice T n k],.int .i64 1] w fun e w' =>e=.returned (.tuple #[.string v,.agg #[.string s,.int .i64 (if z=0 then y else -1),.slice T n k]])∧Below w.heap.size w w':=by
 have HG:=yh hg
 clear hg
 by_cases hz:z=0
 ·subst hz
  rw [if_pos rfl]
  go_enter Tryz.func68,Tryz.ntmps68
  go_wp2_with fail
  refine (HG.out _).mono ?_
  rintro e w1 ⟨rfl,rfl⟩
  go_wp2
  go_region
  all_goals (try go_wp2)
  go_returns
  exact ⟨rfl,(((Below.refl _ w).alloc (Nat.le_refl _) _).alloc (by simp) _).drew⟩
 ·rw [if_neg hz]
  have hz2:(z != 0)=true:=by simpa using hz
  go_enter Tryz.func68,Tryz.ntmps68
  go_wp2_with fail
  refine (HG.out _).mono ?_
  rintro e w1 ⟨rfl,rfl⟩
  go_wp2
  go_region
  all_goals (try go_wp2)
  go_returns
  exact ⟨rfl,(((Below.refl _ w).alloc (Nat.le_refl _) _).alloc (by simp) _).drew⟩
theorem zEN {w:World} {g:Nat} {t:TypeId} {x y z:Value} (h:w.heap[g]? = some (.cells #[x,y,z] t (0,0))) (a b c:Value) :
  (((w.setCell ⟨g,0,none⟩ a).setCell ⟨g,1,none⟩ b).setCell ⟨g,2,none⟩ c).heap[g]? = some (.cells #[a,b,c] t (0,0)):=zAD (zAD (zAD h 0 a) 1 b) 2 c
theorem zPA (s:ByteArray) (a a1 a2 ver:Int) (hv:ver≠1) (m:Nat) (v:ByteArray) (T:Option Addr) (n k:Nat) (w:World)
  (hg:∀ W,Below w.heap.size w W→Calls Tryz.prog 67 #[.agg #[.string s,.int .i64 a,.slice T n k]] W fun e w' =>e=.returned (.tuple #[.int .u64 (m:Int),.agg #[.string s,.int .i64 a1,.slice T n k]])∧Below W.heap.size W w')
  (hk:∀ W,Below w.heap.size w W→Calls Tryz.prog 70 #[.agg #[.string s,.int .i64 a1,.slice T n k],.int .u64 (m:Int)] W fun e w' =>e=.returned (.tuple #[.string v,.agg #[.string s,.int .i64 a2,.slice T n k]])∧Below W.heap.size W w') :
  Calls Tryz.prog 68 #[.agg #[.string s,.int .i64 a,.slice T n k],.int .i64 ver] w fun e w' =>e=.returned (.tuple #[.string v,.agg #[.string s,.int .i64 a2,.slice T n k]])∧Below w.heap.size w w':=by
 have HG:=yh hg
 have HK:=yh hk
 clear hg hk
 have hb1:=(Below.refl w.heap.size w).alloc (Nat.le_refl _) (.cells #[.string s,.int .i64 a,.slice T n k] 132)
 have hb2:=hb1.alloc hb1.size (.cells #[.string ⟨#[]⟩,.int .i64 0,.slice none 0 0] 132)
 have hz1:(w.alloc (.cells #[.string s,.int .i64 a,.slice T n k] 132)).heap.size=w.heap.size+1:=by simp
 have h1:=(Below.heap_alloc (w.alloc (.cells #[.string s,.int .i64 a,.slice T n k] 132)) (.cells #[.string ⟨#[]⟩,.int .i64 0,.slice none 0 0] 132) w.heap.size (by rw [hz1];omega)).trans (zAG w (.cells #[.string s,.int .i64 a,.slice T n k] 132))
 have h2:=zAG (w.alloc (.cells #[.string s,.int .i64 a,.slice T n k] 132)) (.cells #[.string ⟨#[]⟩,.int .i64 0,.slice none 0 0] 132)
 rw [hz1] at h2
 have HB2:=yh hb2
 have H1:=yh h1
 have H2:=yh h2
 have HS2:Hid (((w.alloc (.cells #[.string s,.int .i64 a,.slice T n k] 132)).alloc (.cells #[.string ⟨#[]⟩,.int .i64 0,.slice none 0 0] 132)).heap.size=w.heap.size+2):=(by show _=_;simp)
 clear hb1 hb2 hz1 h1 h2
 go_enter Tryz.func68,Tryz.ntmps68
 go_wp2_with fail
 refine (HG.out _ HB2.out).mono ?_
 rintro e w3 ⟨rfl,hb3⟩
 have hx:=(hb3.block w.heap.size (by rw [HS2.out];omega)).trans H1.out
 have hy:=(hb3.block (w.heap.size+1) (by rw [HS2.out];omega)).trans H2.out
 have HB3:=yh (HB2.out.trans (hb3.mono HB2.out.size))
 have HX:=yh hx
 have HY:=yh hy
 have HS3:Hid (w.heap.size+2≤w3.heap.size):=(by have:=hb3.size;rw [HS2.out] at this;exact this)
 have g0:=zAA (i:=0) hx rfl
 have g1:=zAA (i:=1) hx rfl
 have g2:=zAA (i:=2) hx rfl
 have y0:w3.frozen? ⟨w.heap.size,0,none⟩=false:=zAC hx
 have y1:w3.frozen? ⟨w.heap.size,1,none⟩=false:=zAC hx
 have y2:w3.frozen? ⟨w.heap.size,2,none⟩=false:=zAC hx
 clear hb3 hx hy
 go_wp2_with fail
 have hb4:Below w.heap.size w (((w3.setCell ⟨w.heap.size,0,none⟩ (.string s)).setCell ⟨w.heap.size,1,none⟩ (.int .i64 a1)).setCell ⟨w.heap.size,2,none⟩ (.slice T n k)):=((HB3.out.setCell (p:=⟨w.heap.size,0,none⟩) (Nat.le_refl _) _).setCell (p:=⟨w.heap.size,1,none⟩) (Nat.le_refl _) _).setCell (p:=⟨w.heap.size,2,none⟩) (Nat.le_refl _) _
 have hn:w.heap.size+1≠w.heap.size:=by omega
 have hy4:(((w3.setCell ⟨w.heap.size,0,none⟩ (.string s)).setCell ⟨w.heap.size,1,none⟩ (.int .i64 a1)).setCell ⟨w.heap.size,2,none⟩ (.slice T n k)).heap[w.heap.size+1]? = some (.cells #[.string ⟨#[]⟩,.int .i64 0,.slice none 0 0] 132):=(Below.heap_setCell _ _ _ _ hn).trans ((Below.heap_setCell _ _ _ _ hn).trans ((Below.heap_setCell _ _ _ _ hn).trans HY.out))
 have hs4:w.heap.size+2≤(((w3.setCell ⟨w.heap.size,0,none⟩ (.string s)).setCell ⟨w.heap.size,1,none⟩ (.int .i64 a1)).setCell ⟨w.heap.size,2,none⟩ (.slice T n k)).heap.size:=by simpa using HS3.out
 obtain ⟨w4,hw4⟩:∃ x,x=((w3.setCell ⟨w.heap.size,0,none⟩ (.string s)).setCell ⟨w.heap.size,1,none⟩ (.int .i64 a1)).setCell ⟨w.heap.size,2,none⟩ (.slice T n k):=⟨_,rfl⟩
 rw [← hw4] at hb4 hy4 hs4 ⊢
 refine (HK.out w4 hb4).mono ?_
 rintro e w5 ⟨rfl,hb5⟩
 have hy5:=(hb5.block (w.heap.size+1) (by omega)).trans hy4
 have HY5:=yh hy5
 have HB5:=yh (hb4.trans (hb5.mono hb4.size))
 have f0:=zAA (i:=0) hy5 rfl
 have f1:=zAA (i:=1) hy5 rfl
 have f2:=zAA (i:=2) hy5 rfl
 have z0:w5.frozen? ⟨w.heap.size+1,0,none⟩=false:=zAC hy5
 have z1:w5.frozen? ⟨w.heap.size+1,1,none⟩=false:=zAC hy5
 have z2:w5.frozen? ⟨w.heap.size+1,2,none⟩=false:=zAC hy5
 clear hb4 hy4 hs4 hw4 hb5 hy5 g0 g1 g2 y0 y1 y2 hn
 go_wp2
 (try simp only [Exit.inBlock,Exit.then])
 refine bodyPost_ret (zCZ Tryz.results68 _ _ (w.heap.size+1) _ _ (0,0) _ rfl (zEN HY5.out _ _ _) Tryz.underlying132 rfl (by kernel_rfl)) rfl ?_
 exact ⟨rfl,((HB5.out.setCell (p:=⟨w.heap.size+1,0,none⟩) (by simp) _).setCell (p:=⟨w.heap.size+1,1,none⟩) (by simp) _).setCell (p:=⟨w.heap.size+1,2,none⟩) (by simp) _⟩
theorem zJs (ver:Int) (c:Cu) (hok:c.ok) (hrm:c.bs.length≤1000000) (T:Option Addr) (tn tk:Nat) (tl:List (List UInt8)) (htn:tn≤1000000) (w:World) (hr:zAE w w.heap.size 1 T tn (tl.map tsv)) :
  Calls Tryz.prog 68 #[wkV c T tn tk,.int .i64 ver] w fun e w' =>e=.returned (.tuple #[.string (tx (dNm ver tl c).1),wkV (dNm ver tl c).2 T tn tk])∧Below w.heap.size w w':=by
 unfold dNm
 by_cases hv:ver=1
 ·subst hv
  rw [if_pos rfl]
  unfold wkV
  rw [zJg]
  by_cases h0:c.e=0
  ·have ha:atV c=(c.at_:Int):=if_pos h0
   rw [ha]
   have hg:∀ W,Calls Tryz.prog 66 #[.string (tx c.bs),.int .i64 (c.at_:Int),.int .i64 64] W fun e w' =>e=.returned (.tuple #[Value.string (tx (c.txR 64).1),.int .i64 ((c.txR 64).2.1:Int),.int .i64 ((c.txR 64).2.2:Int)])∧W=w' :=
    fun W =>zHW c.at_ 64 c.bs (by omega) (by omega) hok W
   have h2:=zJN (tx c.bs) (c.at_:Int) _ _ (tx (c.txR 64).1) T tn tk w hg
   by_cases h1:(c.txR 64).2.2=0
   ·have e1:c.text 64=((c.txR 64).1,{ c with at_:=(c.txR 64).2.1 }):=by simp only [Cu.text,Cu.tk,h0,h1,if_true]
    rw [if_pos (by omega)] at h2
    rw [e1]
    have e2:atV { c with at_:=(c.txR 64).2.1 }=((c.txR 64).2.1:Int):=if_pos h0
    rw [e2]
    exact h2
   ·have e1:c.text 64=([],{ c with e:=((c.txR 64).2.2:Int) }):=by simp only [Cu.text,Cu.tk,h0,if_true,if_neg h1]
    rw [if_neg (by omega),show (c.txR 64).1=[] from zOu h1] at h2
    rw [e1]
    have e2:atV { c with e:=((c.txR 64).2.2:Int) } = -1:=if_neg (by show ¬ ((c.txR 64).2.2:Int)=0;omega)
    rw [e2]
    exact h2
  ·have ha:atV c = -1:=if_neg h0
   have e1:c.text 64=([],c):=Cu.tk_e h0
   rw [e1,ha]
   have h2:=zJN (tx c.bs) (-1) _ _ (tx []) T tn tk w (fun W =>zLF c.bs (-1) 64 (.inl (by omega)) W)
   rw [if_neg (by simp)] at h2
   skip
   exact h2
 ·rw [if_neg hv]
  have hk:=fun W (hW:Below w.heap.size w W) =>zGt c.num.2 c.num.1 T tn tk tl htn W ((hr.below hW).more hW.size)
  have hg:=fun W (_:Below w.heap.size w W) =>zGA c hok hrm T tn tk W
  unfold wkV at *
  rw [zBJ] at hk hg
  rw [zEp] at hk ⊢
  rw [zBJ] at hk ⊢
  exact zPA (tx c.bs) (atV c) _ _ ver hv c.num.1 _ T tn tk w hg hk
end Go.Proofs.YtoclafdidjpndaaGreatDoor
