/- Texts of one proof. -/
import Derived.Deep.RegionWith
import Derived.Test.YtekchkfjgofnkaaGreatDoorMy18
set_option maxRecDepth 100000
set_option maxHeartbeats 8000000
namespace Go.Proofs.YtekchkfjgofnkaaGreatDoor
open Go.RowKit
def dKn (tl:List (List UInt8)) (n:Nat) (c:Cu):List UInt8×Cu:=if n<tl.length then (zBC tl n,c) else ([],c.fail 1)
def dNm (ver:Int) (tl:List (List UInt8)) (c:Cu):List UInt8×Cu:=if ver=1 then c.text 64 else dKn tl c.num.1 c.num.2
def dDp (ver:Int) (tl:List (List UInt8)) (c:Cu):Dp×Cu :=
 if ver<3 then (⟨(dNm ver tl c).1,((dNm ver tl c).2.num.1:Int),false⟩,(dNm ver tl c).2.num.2)
 else (⟨(dKn tl (c.num.1 / 2) c.num.2).1,((dKn tl (c.num.1 / 2) c.num.2).2.num.1:Int),decide (c.num.1 % 2=1)⟩,(dKn tl (c.num.1 / 2) c.num.2).2.num.2)
def dDs (ver:Int) (tl:List (List UInt8)):Nat→List Dp×Cu→List Dp×Cu
 | 0,s =>s
 | i+1,s =>if (dDs ver tl i s).2.e=0 then ((dDs ver tl i s).1++[(dDp ver tl (dDs ver tl i s).2).1],(dDp ver tl (dDs ver tl i s).2).2) else dDs ver tl i s
def zEW (ver:Int) (c:Cu):Nat×Cu:=if 1<ver then c.num else (0,c)
def dTag (ver:Int) (tl:List (List UInt8)) (c:Cu):List UInt8×Cu:=if 2<ver then (if 0<c.num.1 then dKn tl (c.num.1 - 1) c.num.2 else ([],c.num.2)) else ([],c)
def zIu (ver:Int) (tl:List (List UInt8)) (p:List UInt8):Rc×List Dp×Bool :=
 let k:=(Cu.new p 0).num
 if k.2.e=0∧(k.1=1∨k.1=2) then
  let t:=dNm ver tl k.2
  if k.1=1 then
   let u:=t.2.num
   let ds:=dDs ver tl u.2.num.1 ([],u.2.num.2)
   let o:=ds.2.num
   let m:=zEW ver o.2
   let g:=dTag ver tl m.2
   (⟨1,t.1,(u.1:Int),(o.1:Int),(m.1:Int),g.1⟩,ds.1,decide (g.2.e=0∧g.2.at_=p.length))
  else (⟨2,t.1,0,0,0,[]⟩,[],decide (t.2.e=0∧t.2.at_=p.length))
 else (⟨0,[],0,0,0,[]⟩,[],false)
theorem zFI {tl:List (List UInt8)} {s suf:List UInt8} {c:Cu} (hin:s ∈ tl) (h:Rest c suf):dKn tl (tnum tl s) c=(s,c)∧Rest c suf:=by
 unfold dKn
 have hl:tnum tl s<tl.length:=by
  have:=zEF hin
  exact (List.getElem?_eq_some_iff.1 this).1
 rw [if_pos hl,zDy hin]
 exact ⟨rfl,h⟩
theorem zEw {ver:Int} {tl:List (List UInt8)} {c:Cu} {s suf:List UInt8} (hv:1≤ver) (hs:s.length≤64) (ht:tl.length≤1073741824) (hm:ver<2∨s ∈ tl) (h:Rest c (nmB ver tl s++suf)):(dNm ver tl c).1=s∧Rest (dNm ver tl c).2 suf:=by
 unfold nmB at h
 unfold dNm
 by_cases hv2:ver<2
 ·rw [if_pos hv2] at h
  rw [if_pos (by omega)]
  exact zIn hs h
 ·rw [if_neg hv2] at h
  rw [if_neg (by omega)]
  obtain ⟨h1,h2⟩:=zAt (zAm (by have:=zBS (s:=s) ht;omega)) h
  rw [h1]
  obtain ⟨h3,h4⟩:=zFI (hm.resolve_left hv2) h2
  rw [h3]
  exact ⟨rfl,h4⟩
theorem zMh {ver:Int} {tl:List (List UInt8)} {c:Cu} {d:Dp} {suf:List UInt8} (hv:1≤ver) (ht:tl.length≤1073741824) (hd:zEr ver tl d) (h:Rest c (fDep ver tl d++suf)):(dDp ver tl c).1=d∧Rest (dDp ver tl c).2 suf:=by
 obtain ⟨hs,hm,ho,hh⟩:=hd
 unfold fDep at h
 rw [List.append_assoc] at h
 unfold depB at h
 unfold dDp
 obtain ⟨nm,hash,ord⟩:=d
 simp only at hs hm ho hh h
 by_cases hv3:ver<3
 ·rw [if_pos hv3] at h ⊢
  obtain ⟨h1,h2⟩:=zEw hv hs ht hm h
  obtain ⟨h4,h5⟩:=zAt (zAc hh).2 h2
  refine ⟨?_,h5⟩
  have h6:ord=false:=by
   cases ord with
   | false =>rfl
   | true =>have:=ho rfl;omega
  rw [h6]
  simp only [h1,h4]
  rw [← (zAc hh).1]
 ·rw [if_neg hv3] at h ⊢
  have hin:nm ∈ tl:=hm.resolve_left (by omega)
  have hle:=zBS (s:=nm) ht
  obtain ⟨h1,h2⟩:=zAt (zAm (by split <;> omega)) h
  have e1:c.num.1 / 2=tnum tl nm:=by rw [h1];split <;> omega
  rw [e1]
  obtain ⟨h3,h4⟩:=zFI hin h2
  rw [h3]
  obtain ⟨h5,h6⟩:=zAt (zAc hh).2 h4
  refine ⟨?_,h6⟩
  have e2:decide (c.num.1 % 2=1)=ord:=by
   rw [h1]
   cases ord <;> simp <;> omega
  simp only [h5,e2]
  rw [← (zAc hh).1]
theorem zHC {ver:Int} {tl:List (List UInt8)} (hv:1≤ver) (ht:tl.length≤1073741824) (c:Cu) (l:List Dp) (suf:List UInt8) (hd:∀ d ∈ l,zEr ver tl d) (h:Rest c (l.flatMap (fDep ver tl)++suf)) :
  ∀ i,i≤l.length→(dDs ver tl i ([],c)).1=l.take i∧Rest (dDs ver tl i ([],c)).2 ((l.drop i).flatMap (fDep ver tl)++suf)
 | 0,_ =>⟨by simp [dDs],h⟩
 | i+1,hi =>by
  obtain ⟨h1,h2⟩:=zHC hv ht c l suf hd h i (by omega)
  have hx:l.drop i=l[i] :: l.drop (i+1):=List.drop_eq_getElem_cons (by omega)
  rw [hx,List.flatMap_cons,List.append_assoc] at h2
  obtain ⟨h3,h4⟩:=zMh hv ht (hd _ (List.getElem_mem (by omega))) h2
  have e:dDs ver tl (i+1) ([],c)=((dDs ver tl i ([],c)).1++[(dDp ver tl (dDs ver tl i ([],c)).2).1],(dDp ver tl (dDs ver tl i ([],c)).2).2):=by
   show (if (dDs ver tl i ([],c)).2.e=0 then _ else _)=_
   rw [if_pos h2.1]
  rw [e]
  refine ⟨?_,h4⟩
  simp only
  rw [h1,h3,List.take_add_one,List.getElem?_eq_getElem (by omega)]
  rfl
theorem zJo {c:Cu} {p:List UInt8} (h:Rest c []) (hp:c.bs=p):decide (c.e=0∧c.at_=p.length)=true:=by
 obtain ⟨h1,h2,h3⟩:=h
 have:=congrArg List.length h3
 rw [List.length_drop] at this
 simp only [List.length_nil] at this
 rw [hp] at this h2
 exact decide_eq_true ⟨h1,by omega⟩
theorem zCY (c:Cu):c.num.2.bs=c.bs:=by
 unfold Cu.num Cu.tk
 split
 ·split <;> rfl
 ·rfl
theorem zRl (c:Cu) (m:Int):(c.text m).2.bs=c.bs:=by
 unfold Cu.text Cu.tk
 split
 ·split <;> rfl
 ·rfl
theorem zLt (tl:List (List UInt8)) (n:Nat) (c:Cu):(dKn tl n c).2.bs=c.bs:=by
 unfold dKn Cu.fail
 split
 ·rfl
 ·simp only;split <;> rfl
theorem zLx (ver:Int) (tl:List (List UInt8)) (c:Cu):(dNm ver tl c).2.bs=c.bs:=by
 unfold dNm
 split
 ·exact zRl _ _
 ·rw [zLt,zCY]
theorem zSq (ver:Int) (tl:List (List UInt8)) (c:Cu):(dDp ver tl c).2.bs=c.bs:=by
 unfold dDp
 split
 ·simp only [zCY,zLx]
 ·simp only [zCY,zLt]
theorem zLi (ver:Int) (tl:List (List UInt8)) (s:List Dp×Cu):∀ i,(dDs ver tl i s).2.bs=s.2.bs
 | 0 =>rfl
 | i+1 =>by
  show (if (dDs ver tl i s).2.e=0 then ((dDs ver tl i s).1++[(dDp ver tl (dDs ver tl i s).2).1],(dDp ver tl (dDs ver tl i s).2).2) else dDs ver tl i s).2.bs=_
  split
  ·simp only [zSq];exact zLi ver tl s i
  ·exact zLi ver tl s i
theorem zRr (ver:Int) (c:Cu):(zEW ver c).2.bs=c.bs:=by
 unfold zEW
 split
 ·exact zCY _
 ·rfl
theorem zSY (ver:Int) (tl:List (List UInt8)) (c:Cu):(dTag ver tl c).2.bs=c.bs:=by
 unfold dTag
 split
 ·split
  ·rw [zLt,zCY]
  ·exact zCY _
 ·rfl
theorem zLP (k:Nat) (h:k=1∨k=2):vb k=[UInt8.ofNat k]:=by rcases h with rfl | rfl <;> (rw [vb];simp)
theorem zNO {ver:Int} {tl:List (List UInt8)} {r:Rc} {l:List Dp} (hm:MayP ver r l) (hnu:Nums r l) (ht:tl.length≤1073741824) (hin:ver<2 ∨ ∀ s ∈ zBK r l,s ∈ tl):zIu ver tl (payB ver tl r l)=(r,l,true):=by
 obtain ⟨n1,n2,n3,n4⟩:=zBZ hm
 have hv1:1≤ver:=hm.1
 have tin:ver<2∨r.target ∈ tl:=hin.imp id fun h =>h _ (zCt (by simp))
 have din:∀ d ∈ l,ver<2∨d.name ∈ tl:=fun d hd =>hin.imp id fun h =>h _ (zCt (by
  refine List.mem_append.2 (.inl (List.mem_cons.2 (.inr ?_)))
  exact List.mem_map.2 ⟨d,hd,rfl⟩))
 have gin:ver<2∨r.tag=[]∨r.tag ∈ tl:=by
  by_cases hz:r.tag=[]
  ·exact .inr (.inl hz)
  ·exact hin.imp id fun h =>.inr (h _ (zCt (by rw [if_neg hz];simp)))
 have hstart:=zJe (payB ver tl r l)
 have hbs:(Cu.new (payB ver tl r l) 0).bs=payB ver tl r l:=by unfold Cu.new;rw [if_neg (by omega)]
 obtain ⟨k,t,u,o,m,g⟩:=r
 rcases hm with ⟨v1,v2,ht0,⟨hk,htime,htag,hdeps⟩ | ⟨hk,hgone,hl0⟩⟩
 ·simp only at hk n1 n2 tin gin htime htag
  subst hk
  have hpb:payB ver tl ⟨1,t,u,o,m,g⟩ l=vb 1++(nmB ver tl t++(vb u.toNat++(vb l.length++(l.flatMap (fDep ver tl)++(vb o.toNat++((if ver<2 then [] else vb m.toNat)++(if ver<3 then [] else fTag tl ⟨1,t,u,o,m,g⟩))))))):=by
   unfold payB zBu
   rw [if_neg (by simp),zLP 1 (.inl rfl)]
   simp only [List.append_assoc]
   rfl
  have hokd:∀ d ∈ l,zEr ver tl d:=fun d hd =>⟨n4 d hd,din d hd,(hdeps.2.1 d hd).2,hnu.2.2.2 d hd⟩
  unfold zIu
  obtain ⟨p,hp⟩:∃ p,p=payB ver tl ⟨1,t,u,o,m,g⟩ l:=⟨_,rfl⟩
  rw [← hp] at hstart hbs ⊢
  rw [← hp] at hpb
  obtain ⟨c0,hc0⟩:∃ c0,c0=Cu.new p 0:=⟨_,rfl⟩
  rw [← hc0] at hstart hbs ⊢
  have hst:Rest c0 (vb 1++(nmB ver tl t++(vb u.toNat++(vb l.length++(l.flatMap (fDep ver tl)++(vb o.toNat++((if ver<2 then [] else vb m.toNat)++(if ver<3 then [] else fTag tl ⟨1,t,u,o,m,g⟩)))))))):=by rw [← hpb];exact hstart
  obtain ⟨b1,b2⟩:=zAt (zAm (by omega)) hst
  simp only
  rw [if_pos ⟨b2.1,.inl b1⟩,if_pos b1]
  obtain ⟨a1,a2⟩:=zEw hv1 n1 ht tin b2
  obtain ⟨a3,a4⟩:=zAt (zAc hnu.1).2 a2
  obtain ⟨a5,a6⟩:=zAt (zAm (by omega)) a4
  obtain ⟨q1,q2⟩:=zHC hv1 ht _ l _ hokd a6 l.length (Nat.le_refl _)
  rw [List.take_length] at q1
  rw [List.drop_length,List.flatMap_nil,List.nil_append] at q2
  rw [a5,a1,a3]
  obtain ⟨a7,a8⟩:=zAt (zAc hnu.2.1).2 q2
  rw [q1,a7]
  obtain ⟨cd,hcd⟩:∃ cd,cd=(dDs ver tl l.length ([],(dNm ver tl c0.num.2).2.num.2.num.2)).2.num.2:=⟨_,rfl⟩
  have hcb:cd.bs=p:=by rw [hcd,zCY,zLi,zCY,zCY,zLx,zCY,hbs]
  rw [← hcd] at a8 ⊢
  have hw:(zEW ver cd).1=m.toNat∧Rest (zEW ver cd).2 (if ver<3 then [] else fTag tl ⟨1,t,u,o,m,g⟩):=by
   unfold zEW
   by_cases hv2:ver<2
   ·rw [if_neg (by omega)]
    rw [if_pos hv2,if_pos (by omega)] at a8
    have hm0:m=0:=by rcases htime with h | h;exact h;omega
    rw [hm0,if_pos (by omega)]
    exact ⟨rfl,a8⟩
   ·rw [if_pos (by omega)]
    rw [if_neg hv2] at a8
    exact zAt (zAc hnu.2.2.1).2 a8
  have hwb:(zEW ver cd).2.bs=p:=by rw [zRr,hcb]
  rw [hw.1]
  obtain ⟨ce,hce⟩:∃ ce,ce=(zEW ver cd).2:=⟨_,rfl⟩
  have hw2:=hw.2
  rw [← hce] at hw2 hwb ⊢
  have hg:(dTag ver tl ce).1=g∧Rest (dTag ver tl ce).2 []:=by
   unfold dTag
   by_cases hv3:ver<3
   ·rw [if_neg (by omega)]
    rw [if_pos hv3] at hw2
    have hg0:g=[]:=by rcases htag with h | h;exact h;omega
    rw [hg0]
    exact ⟨rfl,hw2⟩
   ·rw [if_pos (by omega)]
    rw [if_neg hv3] at hw2
    have hw3:Rest ce (fTag tl ⟨1,t,u,o,m,g⟩++[]):=by simpa using hw2
    unfold fTag at hw3
    by_cases hz:g=[]
    ·simp only [hz,if_true] at hw3
     obtain ⟨h1,h2⟩:=zAt (zAm (by omega)) hw3
     rw [h1,if_neg (by omega),hz]
     exact ⟨rfl,h2⟩
    ·simp only [hz,if_false] at hw3
     have hle:=zBS (s:=g) ht
     obtain ⟨h1,h2⟩:=zAt (zAm (by omega)) hw3
     rw [h1,if_pos (by omega),show tnum tl g+1 - 1=tnum tl g from rfl]
     obtain ⟨h3,h4⟩:=zFI ((gin.resolve_left (by omega)).resolve_left hz) h2
     rw [h3]
     exact ⟨rfl,h4⟩
  rw [hg.1,zJo hg.2 (by rw [zSY];exact hwb),← (zAc hnu.1).1,← (zAc hnu.2.1).1,← (zAc hnu.2.2.1).1]
 ·simp only at hk hgone
  obtain rfl:k=2:=hk
  subst hl0
  have hg:=hgone
  simp only [Rc.mk.injEq,true_and] at hg
  obtain ⟨rfl,rfl,rfl,rfl⟩:=hg
  have hpb:payB ver tl ⟨2,t,0,0,0,[]⟩ []=vb 2++(nmB ver tl t++[]):=by
   unfold payB
   rw [if_pos rfl,zLP 2 (.inr rfl),List.append_nil]
   rfl
  unfold zIu
  obtain ⟨p,hp⟩:∃ p,p=payB ver tl ⟨2,t,0,0,0,[]⟩ []:=⟨_,rfl⟩
  rw [← hp] at hstart hbs ⊢
  rw [← hp] at hpb
  obtain ⟨c0,hc0⟩:∃ c0,c0=Cu.new p 0:=⟨_,rfl⟩
  rw [← hc0] at hstart hbs ⊢
  have hst:Rest c0 (vb 2++(nmB ver tl t++[])):=by rw [← hpb];exact hstart
  obtain ⟨b1,b2⟩:=zAt (zAm (by omega)) hst
  simp only
  rw [if_pos ⟨b2.1,.inr b1⟩,if_neg (by omega)]
  obtain ⟨a1,a2⟩:=zEw hv1 n1 ht tin b2
  rw [a1,zJo a2 (by rw [zLx,zCY];exact hbs)]
open Go.RowKit Go.Shelf
structure Adv (c d:Cu):Prop where
 ok:d.ok
 bs:d.bs=c.bs
 on:d.e=0→c.e=0∧c.at_≤d.at_
theorem Adv.refl {c:Cu} (h:c.ok):Adv c c:=⟨h,rfl,fun h =>⟨h,Nat.le_refl _⟩⟩
theorem Adv.trans {a b c:Cu} (h:Adv a b) (k:Adv b c):Adv a c:=⟨k.ok,k.bs.trans h.bs,fun e =>by
 obtain ⟨h1,h2⟩:=k.on e
 obtain ⟨h3,h4⟩:=h.on h1
 exact ⟨h3,by omega⟩⟩
section
variable {w0 W W':World} {base:Nat} {va:Value} {l:List Dp} {b3 b7 db:Nat} {s:ByteArray} {a:Int} {T:Option Addr} {n k:Nat} {nm:ByteArray} {h:Int} {o:Bool}
end
section
variable {w0 w:World} {base:Nat} {va:Value} {l:List Dp} {b3 b7 db:Nat} {s:ByteArray} {a:Int} {T:Option Addr} {n k:Nat} {nm:ByteArray} {h:Int} {o:Bool} {ops:Array Oper} {rest:List Oper} {op:Oper} {ac:Act} {Q:Exit→Act→World→Prop}
end
section
variable {w0 w W W':World} {b6 b8 b9:Nat} {s:ByteArray} {a:Int} {T:Option Addr} {n k:Nat} {kd:Int} {tg:ByteArray} {ru:Int} {va:Value} {l:List Dp} {ou ti:Int} {ta:ByteArray} {ops:Array Oper} {rest:List Oper} {op:Oper} {ac:Act} {Q:Exit→Act→World→Prop}
end
theorem zBl {P:Program} {fn:Func} {u p:Tmp} {ty:TypeId} (h:fn.results=#[.cell p ty,.tmp u]) (tmps:Array Value) (w:World) (g:Nat) (t:TypeId) (cs:Array Value) (fr:Nat×Nat) (d:TypeDesc)
  (hp:tmps.getD p undef=.pointer (some ⟨g,0,none⟩)) (hg:w.heap[g]? = some (.cells cs t fr))
  (hu:P.underlying ty=some d) (hd:(match d with | .struct _ | .array _ _ =>true | _ =>false)=true) (hi:(P.info? ty).map (·.size)=some cs.size) :
  (results fn tmps).run P w=.ok (.tuple #[.agg cs,tmps.getD u undef]) w:=by
 have hp':tmps[p]?.getD undef=.pointer (some ⟨g,0,none⟩):=by simpa using hp
 simp [results,h,hp',asAddr,run_loadVar_row w g t ty cs fr d hg hu hd hi]
def zGZ (w:World) (kd:Int) (tg:ByteArray) (ru:Int) (l:List Dp) (ou ti:Int) (ta:ByteArray) (P:Prop) (e:Ending) (w':World):Prop :=
 ∃ A c q,e=.returned (.tuple #[.agg #[.int .i64 kd,.string tg,.int .u64 ru,.slice A l.length c,.int .u64 ou,.int .u64 ti,.string ta],.bool q])∧(q=true ↔ P)∧(A=none→c=0)∧w'.ownsRow w.heap.size 95 3 (.slice A l.length c) l.length (dps l)∧Below w.heap.size w w'
theorem zGZ.iff {w w':World} {kd:Int} {tg:ByteArray} {ru:Int} {l:List Dp} {ou ti:Int} {ta:ByteArray} {P Q:Prop} {e:Ending} (h:zGZ w kd tg ru l ou ti ta P e w') (hq:P ↔ Q):zGZ w kd tg ru l ou ti ta Q e w':=by
 obtain ⟨A,c,q,h1,h2,h3⟩:=h
 exact ⟨A,c,q,h1,h2.trans hq,h3⟩
theorem zFz (tl:List (List UInt8)) (n m:Nat) (h:∀ s ∈ tl,s.length≤m):(zBC tl n).length≤m:=by
 unfold zBC
 cases e:tl[n]? with
 | none =>simp
 | some s =>exact h s (List.mem_of_getElem? e)
theorem zQD (c:Cu):(c.text 64).1.length≤64:=by
 unfold Cu.text Cu.tk
 split
 ·split
  ·unfold Cu.txR bg
   simp only
   split
   ·simp
   ·split
    ·simp
    ·split
     ·simp
     ·simp only [List.length_take]
      omega
  ·simp
 ·simp
theorem zSv (c:Cu):(0:Int)≤(c.num.1:Int)∧(c.num.1:Int)<18446744073709551616:=⟨by omega,by have:=@Cu.num_lt c;unfold top at this;omega⟩
theorem zSE (S:Nat→Prop) (bt B N n c a:Nat) (ver:Int) (tl:List (List UInt8)) (r:Rc) (l:List Dp) (pre post:List (List UInt8)) (A:Option Addr) (hm:MayP ver r l) (hfit:Fits r l) (hnu:Nums r l) (hn2:n≤100000) (htl:tl.length≤800000000) (hN:N≤800000000) (ha:pre.length=a) (w:World) (hB:B≤w.heap.size) (hT:Tab w S bt N tl) (hr:PlsT w B S A n c (pre++(payL ver tl r l++post))) :
    Calls Tryz.prog 103 #[.int .i64 ver,.pointer (some ⟨bt,0,none⟩),.slice A n c,.int .i64 (a:Int)] w fun e w' =>∃ (A':Option Addr) (n' c':Nat) (S':Nat→Prop),e=.returned (.tuple #[rcv r A' n' c',.int .i64 ((a+(payL ver tl r l).length:Nat):Int),.int .i64 0])∧Deps w' w.heap.size A' n' c' l∧(∀ ad,A'=some ad→¬ S' ad.block)∧(∃ N',N'≤N+36∧Tab w' S' bt N' (tabT ver tl r l))∧(∀ k,S' k→k<w'.heap.size∧(S k∨w.heap.size≤k))∧Turn S w w':=by
  have hver:ver=1∨ver=2∨ver=3:=by have:=hm.1;have:=hm.2.1;omega
  have hv1:=hm.1
  have hv3:=hm.2.1
  have d1:decide (ver<1)=false:=decide_eq_false (by omega)
  have d2:decide (ver > 3)=false:=decide_eq_false (by omega)
  obtain ⟨q,hq⟩:∃ q,q=(freT ver tl r l).length:=⟨_,rfl⟩
  have hq18:q≤18:=by rw [hq];exact zOu hm
  have hpl:(payL ver tl r l).length=q+1:=by unfold payL;rw [List.length_append,← hq];rfl
  have hlen:n=a+(q+1)+post.length:=by have h1:=hr.2.1;rw [List.length_append,List.length_append,hpl,ha] at h1;omega
  have hcn:n≤c:=hr.1
  have hrd:=hr.drop (k:=a) (by omega)
  have hdrop:(pre++(payL ver tl r l++post)).drop a=payL ver tl r l++post:=by rw [← ha,List.drop_left]
  rw [hdrop,if_neg (by omega)] at hrd
  obtain ⟨ad,rfl,hab,_⟩:∃ ad,A=some ad∧ad.block<B∧True:=by
    obtain ⟨_,_,vs,h1,_⟩:=hr
    obtain ⟨ad,h2,h3,_⟩:=h1.2 (by omega)
    exact ⟨ad,h2,h3,trivial⟩
  have hrf:=hrd.upto (k:=q+1) (by omega)
  have htake:(payL ver tl r l++post).take (q+1)=freT ver tl r l++[payB ver (tabT ver tl r l) r l]:=by rw [List.take_append_of_le_length (by rw [hpl];exact Nat.le_refl _),List.take_of_length_le (by rw [hpl];exact Nat.le_refl _)];rfl
  rw [htake] at hrf
  have hah:zAf (payL ver tl r l++post)=q:=by
    unfold payL
    rw [List.append_assoc,List.singleton_append,zDM _ _ _ (fun t ht =>(zFA hm t ht).1) (zJk _ _ _ _),← hq]
  have h0:=zAE w (.cells #[.int .i64 0,.string ⟨#[]⟩,.int .u64 0,.slice none 0 0,.int .u64 0,.int .u64 0,.string ⟨#[]⟩] 41)
  have hz:(w.alloc (.cells #[.int .i64 0,.string ⟨#[]⟩,.int .u64 0,.slice none 0 0,.int .u64 0,.int .u64 0,.string ⟨#[]⟩] 41)).heap.size=w.heap.size+1:=by simp
  have hb0:=(Below.refl w.heap.size w).alloc (Nat.le_refl _) (.cells #[.int .i64 0,.string ⟨#[]⟩,.int .u64 0,.slice none 0 0,.int .u64 0,.int .u64 0,.string ⟨#[]⟩] 41)
  have hta:=zDk B (n - a) (c - a) (payL ver tl r l++post) (some (ad.add a)) (by omega) (w.alloc (.cells #[.int .i64 0,.string ⟨#[]⟩,.int .u64 0,.slice none 0 0,.int .u64 0,.int .u64 0,.string ⟨#[]⟩] 41)) (hrd.less.below (hb0.mono hB))
  rw [hah] at hta
  have HAH:=yh hta
  have ha0:(0:Int)≤(a:Int):=by omega
  have ha1:(a:Int)<(n:Int):=by omega
  have han:a<n:=by omega
  have haq:a+q<n:=by omega
  have haq1:a+q+1≤n:=by omega
  have haq2:(a:Int)+(q:Int)<(n:Int):=by omega
  have haq3:(a:Int)+(q:Int)+1≤(n:Int):=by omega
  have HB0:=yh hb0
  have HZ:=yh hz
  have HA0:=yh h0
  have HRF:=yh hrf
  obtain ⟨T0,hT0⟩:∃ T0:Nat→Prop,T0=fun k =>S k∧k<w.heap.size:=⟨_,rfl⟩
  have htz:Tab (w.alloc (.cells #[.int .i64 0,.string ⟨#[]⟩,.int .u64 0,.slice none 0 0,.int .u64 0,.int .u64 0,.string ⟨#[]⟩] 41)) T0 bt N tl:=by rw [hT0];exact (hT.wide (fun k h1 h2 =>⟨h1,h2⟩)).keep (fun k hk _ =>hb0.block k hk.2)
  have HLEN:=yh (zDP T0 bt N tl (w.alloc (.cells #[.int .i64 0,.string ⟨#[]⟩,.int .u64 0,.slice none 0 0,.int .u64 0,.int .u64 0,.string ⟨#[]⟩] 41)) htz)
  have hbig:(tabT ver tl r l).length≤1073741824:=by have:=zCs (tl:=tl) hm;omega
  have hpay:=zNd hm hnu hbig (zKC ver tl r l)
  have HTK:Hid (Calls Tryz.prog 116 #[.int .i64 ver,.pointer (some ⟨bt,0,none⟩),.slice (some (ad.add a)) (q+1) (c - a)] (w.alloc (.cells #[.int .i64 0,.string ⟨#[]⟩,.int .u64 0,.slice none 0 0,.int .u64 0,.int .u64 0,.string ⟨#[]⟩] 41)) fun e w' =>∃ (A':Option Addr) (n' c':Nat) (S':Nat→Prop),e=.returned (.agg #[.int .i64 r.kind,.string (tx r.target),.int .u64 r.rule,.slice A' n' c',.int .u64 r.out,.int .u64 r.time,.string (tx r.tag)])∧Deps w' (w.alloc (.cells #[.int .i64 0,.string ⟨#[]⟩,.int .u64 0,.slice none 0 0,.int .u64 0,.int .u64 0,.string ⟨#[]⟩] 41)).heap.size A' n' c' l∧(∀ ad,A'=some ad→¬ S' ad.block)∧Tab w' S' bt (N+q) (tabT ver tl r l)∧(∀ k,S' k→k<w'.heap.size∧(T0 k∨(w.alloc (.cells #[.int .i64 0,.string ⟨#[]⟩,.int .u64 0,.slice none 0 0,.int .u64 0,.int .u64 0,.string ⟨#[]⟩] 41)).heap.size≤k))∧Turn T0 (w.alloc (.cells #[.int .i64 0,.string ⟨#[]⟩,.int .u64 0,.slice none 0 0,.int .u64 0,.int .u64 0,.string ⟨#[]⟩] 41)) w'):=by
    have h1:=zFu T0 bt B N (q+1) (c - a) ver hver tl (freT ver tl r l) (payB ver (tabT ver tl r l) r l) (some (ad.add a)) (fun t ht =>(zFA hm t ht).2) (zPa hm hnu hbig) (by rw [← hq]) (by omega) (by omega) (by omega) (w.alloc (.cells #[.int .i64 0,.string ⟨#[]⟩,.int .u64 0,.slice none 0 0,.int .u64 0,.int .u64 0,.string ⟨#[]⟩] 41)) (by rw [hz];omega) htz ((hrf.turn (Turn.of_below hb0) hB).wide (fun k _ hk =>by rw [hT0] at hk;exact hk.1)) (tabT ver tl r l) (zFh _ _ _ _)
    rw [← hq,hpay.1,hpay.2] at h1
    exact h1
  have HBW:=yh hB
  have HT0:=yh hT0
  have HQ:=yh hq
  have HPLN:=yh hpl
  have HM:=yh hm
  have HFIT:=yh hfit
  have HNU:=yh hnu
  have hq1:a+q+1 - a=q+1:=by omega
  have HTL:=yh htl
  have HN:=yh hN
  clear hpay htz hT0 hB hT hq hm hfit hnu htl hN
  clear hr hrd hdrop htake hah hta h0 hz hb0 hlen hpl hrf
  go_enter Tryz.func103,Tryz.ntmps103
  go_wp2_with (go_at_call 115;refine HAH.out.mono ?_;rintro e w3 ⟨rfl,rfl⟩)
  go_wp2_with (go_at_call 86;refine HLEN.out.mono ?_;rintro e w3 ⟨rfl,rfl⟩)
  (
       refine HTK.out.mono ?_
       rintro e w4 ⟨A9,n9,c9,S9,rfl,hd9,hap9,ht9,hs9,htu9⟩
       have hz4:w4.heap[w.heap.size]? = some (.cells #[.int .i64 0,.string ⟨#[]⟩,.int .u64 0,.slice none 0 0,.int .u64 0,.int .u64 0,.string ⟨#[]⟩] 41 (0,0)):=(htu9.2.2.2.2 _ (by rw [HZ.out];omega) (fun h =>by rw [HT0.out] at h;omega)).trans HA0.out
       have f0:=zAA (i:=0) hz4 rfl
       have y0:=zAC (i:=0) hz4
       have f1:=zAA (i:=1) hz4 rfl
       have y1:=zAC (i:=1) hz4
       have f2:=zAA (i:=2) hz4 rfl
       have y2:=zAC (i:=2) hz4
       have f3:=zAA (i:=3) hz4 rfl
       have y3:=zAC (i:=3) hz4
       have f4:=zAA (i:=4) hz4 rfl
       have y4:=zAC (i:=4) hz4
       have f5:=zAA (i:=5) hz4 rfl
       have y5:=zAC (i:=5) hz4
       have f6:=zAA (i:=6) hz4 rfl
       have y6:=zAC (i:=6) hz4
       have hws:=(zAF (zAF (zAF (zAF (zAF (zAF (zAF hz4 0 (.int .i64 r.kind)) 1 (.string (tx r.target))) 2 (.int .u64 r.rule)) 3 (.slice A9 n9 c9)) 4 (.int .u64 r.out)) 5 (.int .u64 r.time)) 6 (.string (tx r.tag)))
       have htw:=((((((((Turn.refl (fun k =>k=w.heap.size) w4).setCell w.heap.size 0 (.int .i64 r.kind) rfl).setCell w.heap.size 1 (.string (tx r.target)) rfl).setCell w.heap.size 2 (.int .u64 r.rule) rfl).setCell w.heap.size 3 (.slice A9 n9 c9) rfl).setCell w.heap.size 4 (.int .u64 r.out) rfl).setCell w.heap.size 5 (.int .u64 r.time) rfl).setCell w.heap.size 6 (.string (tx r.tag)) rfl)
       have hnr:¬ S9 w.heap.size:=fun h =>by
         rcases (hs9 _ h).2 with h1 | h1
         · rw [HT0.out] at h1;omega
         · rw [HZ.out] at h1;omega
       have htw9:=ht9.turn htw (fun k hk _ h =>hnr (h▸hk))
       have hcut:=zEk S9 bt (N+q) (tabT ver tl r l) (tl.length:Int) (by have:=zCs (tl:=tl) HM.out;have:=HTL.out;omega) _ htw9
       rw [zIj] at hcut
       have HCUT:=yh hcut
       have HWS:=yh hws
       have HTW:=yh htw
       have HD9:=yh hd9
       have HAP9:=yh hap9
       have HS9:=yh hs9
       have HTU9:=yh htu9
       have HNR:=yh hnr
       clear hd9 hap9 ht9 hs9 htu9 hz4 hws htw hnr htw9 hcut)
  go_wp2_with (first
    | (go_at_call 117
       refine HCUT.out.mono ?_
       rintro e w5 ⟨rfl,ht5,htu5⟩
       have hlt5:w.heap.size<w4.heap.size:=by have h1:=HTU9.out.2.2.2.1;rw [HZ.out] at h1;omega
       have hrec5:w5.heap[w.heap.size]? = some (.cells #[.int .i64 r.kind,.string (tx r.target),.int .u64 r.rule,.slice A9 n9 c9,.int .u64 r.out,.int .u64 r.time,.string (tx r.tag)] 41 (0,0)):=(htu5.2.2.2.2 _ (Nat.lt_of_lt_of_le hlt5 HTW.out.2.2.2.1) HNR.out).trans HWS.out
       have g0:=zAA (i:=0) hrec5 rfl
       have g1:=zAA (i:=1) hrec5 rfl
       have g2:=zAA (i:=2) hrec5 rfl
       have g3:=zAA (i:=3) hrec5 rfl
       have g4:=zAA (i:=4) hrec5 rfl
       have g5:=zAA (i:=5) hrec5 rfl
       have g6:=zAA (i:=6) hrec5 rfl
       have hown9:∀ g,(Value.slice A9 n9 c9).ownBlock=some g→g<w4.heap.size∧g≠w.heap.size∧¬ S9 g:=fun g hg =>by
         refine ⟨zAP HD9.out.1 g hg,fun h =>?_,fun h =>?_⟩
         · have h1:=zAG HD9.out.1 g hg
           rw [HZ.out] at h1
           omega
         · cases A9 with
           | none =>cases hg
           | some x =>exact HAP9.out x rfl (by have h1:x.block=g:=Option.some.inj hg;rw [h1];exact h)
       have hown5:=zAR (w':=w5) HD9.out.1 (fun g hg =>(htu5.2.2.2.2 g (Nat.lt_of_lt_of_le (hown9 g hg).1 HTW.out.2.2.2.1) (hown9 g hg).2.2).trans (HTW.out.2.2.2.2 g (hown9 g hg).1 (hown9 g hg).2.1))
       have HPUT:=yh (zFm S9 bt (N+q) n9 c9 ver tl r A9 l HM.out HFIT.out HNU.out (by have:=HTL.out;omega) (by have:=HN.out;omega) w5 ht5 (fun ad h1 _ =>HAP9.out ad h1) (zAD.of_own hown5))
       have HREC5:=yh hrec5
       have HOWN5:=yh hown5
       have HOWN9:=yh hown9
       have HTU5:=yh htu5
       have HLT5:=yh hlt5
       clear hrec5 hown5 hown9 htu5 ht5 hlt5)
    | (go_at_call 109
       refine HPUT.out.mono ?_
       rintro e w6 ⟨va6,S6,rfl,ht6,hs6,⟨vs6,hv6⟩,htu6⟩
       have ho6:=hv6.1
       rw [HPLN.out] at ho6
       obtain ⟨A6,c6,rfl,hc6⟩:=zAL ho6
       have hrec6:w6.heap[w.heap.size]? = some (.cells #[.int .i64 r.kind,.string (tx r.target),.int .u64 r.rule,.slice A9 n9 c9,.int .u64 r.out,.int .u64 r.time,.string (tx r.tag)] 41 (0,0)):=(htu6.2.2.2.2 _ (Nat.lt_of_lt_of_le (Nat.lt_of_lt_of_le HLT5.out HTW.out.2.2.2.1) HTU5.out.2.2.2.1) HNR.out).trans HREC5.out
       have k0:=zAA (i:=0) hrec6 rfl
       have m0:=zAC (i:=0) hrec6
       have k1:=zAA (i:=1) hrec6 rfl
       have m1:=zAC (i:=1) hrec6
       have k2:=zAA (i:=2) hrec6 rfl
       have m2:=zAC (i:=2) hrec6
       have k3:=zAA (i:=3) hrec6 rfl
       have m3:=zAC (i:=3) hrec6
       have k4:=zAA (i:=4) hrec6 rfl
       have m4:=zAC (i:=4) hrec6
       have k5:=zAA (i:=5) hrec6 rfl
       have m5:=zAC (i:=5) hrec6
       have k6:=zAA (i:=6) hrec6 rfl
       have m6:=zAC (i:=6) hrec6
       have hs9b:∀ k,S9 k→S k∨w.heap.size+1≤k:=fun k hk =>by
         rcases (HS9.out k hk).2 with h1 | h1
         · rw [HT0.out] at h1;exact .inl h1.1
         · rw [HZ.out] at h1;exact .inr h1
       have hbw6:Turn S w w6:=((((Turn.of_below HB0.out).trans HTU9.out (fun k _ h =>by rw [HT0.out] at h;exact h.1)).trans HTW.out (fun k hk h =>by omega)).trans HTU5.out (fun k hk h =>(hs9b k h).resolve_right (by omega))).trans htu6 (fun k hk h =>(hs9b k h).resolve_right (by omega))
       have heqf:=zFW w6.heap.size B (q+1) c6 (q+1) (c - a) A6 (some (ad.add a)) (payL ver tl r l) (payL ver tl r l) (by omega) (by omega) w6 (PlsC.of_rows HPLN.out.symm ⟨vs6,hv6⟩) (HRF.out.turn hbw6 HBW.out).less
       rw [decide_eq_true rfl] at heqf
       have HEQF:=yh heqf
       have HREC6:=yh hrec6
       have HTU6:=yh htu6
       have HS6:=yh hs6
       have HT6:=yh ht6
       clear hrec6 hs9b hbw6 heqf htu6 hs6 ht6 hv6 ho6 hc6)
    | (go_at_call 118
       refine HEQF.out.mono ?_
       rintro e w7 ⟨rfl,rfl⟩))
  have hfin:=(zAF (zAF (zAF (zAF (zAF (zAF (zAF HREC6.out 0 (.int .i64 r.kind)) 1 (.string (tx r.target))) 2 (.int .u64 r.rule)) 3 (.slice A9 n9 c9)) 4 (.int .u64 r.out)) 5 (.int .u64 r.time)) 6 (.string (tx r.tag)))
  have htn:=((((((((Turn.refl (fun k =>k=w.heap.size) w6).setCell w.heap.size 0 (.int .i64 r.kind) rfl).setCell w.heap.size 1 (.string (tx r.target)) rfl).setCell w.heap.size 2 (.int .u64 r.rule) rfl).setCell w.heap.size 3 (.slice A9 n9 c9) rfl).setCell w.heap.size 4 (.int .u64 r.out) rfl).setCell w.heap.size 5 (.int .u64 r.time) rfl).setCell w.heap.size 6 (.string (tx r.tag)) rfl)
  refine bodyPost_ret (zAp rfl _ _ _ _ _ _ _ rfl hfin Tryz.underlying41 rfl (by kernel_rfl)) rfl ?_
  have hlt:=fun g hg =>zAP HOWN5.out g hg
  have hset:=zAR HOWN5.out (fun g hg =>(htn.2.2.2.2 g (Nat.lt_of_lt_of_le (hlt g hg) HTU6.out.2.2.2.1) (HOWN9.out g hg).2.1).trans (HTU6.out.2.2.2.2 g (hlt g hg) (HOWN9.out g hg).2.2))
  have hS9:∀ k,S9 k→S k∨w.heap.size+1≤k:=fun k hk =>by
    rcases (HS9.out k hk).2 with h1 | h1
    · rw [HT0.out] at h1;exact .inl h1.1
    · rw [HZ.out] at h1;exact .inr h1
  have h45:w.heap.size<w5.heap.size:=Nat.lt_of_lt_of_le (Nat.lt_of_lt_of_le HLT5.out HTW.out.2.2.2.1) HTU5.out.2.2.2.1
  have hn6:¬ S6 w.heap.size:=fun h =>by
    rcases (HS6.out _ h).2 with h1 | h1
    · exact HNR.out h1
    · omega
  have hnum:((a+(payL ver tl r l).length:Nat):Int)=(a:Int)+(q:Int)+1:=by rw [HPLN.out];omega
  refine ⟨A9,n9,c9,S6,by rw [hnum];rfl,⟨zAT hset (by rw [HZ.out];omega),HD9.out.2⟩,fun x hx h =>?_,⟨N+q+18,by omega,HT6.out.turn htn (fun k hk _ h =>hn6 (h▸hk))⟩,fun k hk =>⟨Nat.lt_of_lt_of_le (HS6.out k hk).1 htn.2.2.2.1,?_⟩,?_⟩
  · subst hx
    have h1:=HOWN9.out x.block rfl
    rcases (HS6.out _ h).2 with h2 | h2
    · exact h1.2.2 h2
    · have h3:=HTW.out.2.2.2.1
      have h4:=HTU5.out.2.2.2.1
      have h5:=h1.1
      omega
  · rcases (HS6.out k hk).2 with h1 | h1
    · rcases hS9 k h1 with h2 | h2
      · exact .inl h2
      · exact .inr (by omega)
    · exact .inr (by omega)
  · refine (((((Turn.of_below HB0.out).trans HTU9.out (fun k _ h =>?_)).trans HTW.out (fun k hk h =>?_)).trans HTU5.out (fun k hk h =>?_)).trans HTU6.out (fun k hk h =>?_)).trans htn (fun k hk h =>?_)
    · rw [HT0.out] at h;exact h.1
    · omega
    · rcases hS9 k h with h2 | h2
      · exact h2
      · omega
    · rcases hS9 k h with h2 | h2
      · exact h2
      · omega
    · omega
end Go.Proofs.YtekchkfjgofnkaaGreatDoor
