/- Texts of one proof. -/
import Derived.Deep.RegionWith
import Derived.Test.YtfbgmehicmpdiaaGreatDoorMx18
set_option maxRecDepth 100000
set_option maxHeartbeats 8000000
namespace Go.Proofs.YtfbgmehicmpdiaaGreatDoor
open Go.RowKit
def dKn (tl:List (List UInt8)) (n:Nat) (c:Cu):List UInt8×Cu:=if n<tl.length then (zBE tl n,c) else ([],c.fail 1)
def dNm (ver:Int) (tl:List (List UInt8)) (c:Cu):List UInt8×Cu:=if ver=1 then c.text 64 else dKn tl c.num.1 c.num.2
def dDp (ver:Int) (tl:List (List UInt8)) (c:Cu):Dp×Cu :=
 if ver<3 then (⟨(dNm ver tl c).1,((dNm ver tl c).2.num.1:Int),false⟩,(dNm ver tl c).2.num.2)
 else (⟨(dKn tl (c.num.1 / 2) c.num.2).1,((dKn tl (c.num.1 / 2) c.num.2).2.num.1:Int),decide (c.num.1 % 2=1)⟩,(dKn tl (c.num.1 / 2) c.num.2).2.num.2)
def dDs (ver:Int) (tl:List (List UInt8)):Nat→List Dp×Cu→List Dp×Cu
 | 0,s =>s
 | i+1,s =>if (dDs ver tl i s).2.e=0 then ((dDs ver tl i s).1++[(dDp ver tl (dDs ver tl i s).2).1],(dDp ver tl (dDs ver tl i s).2).2) else dDs ver tl i s
def zEA (ver:Int) (c:Cu):Nat×Cu:=if 1<ver then c.num else (0,c)
def dTag (ver:Int) (tl:List (List UInt8)) (c:Cu):List UInt8×Cu:=if 2<ver then (if 0<c.num.1 then dKn tl (c.num.1 - 1) c.num.2 else ([],c.num.2)) else ([],c)
def zIE (ver:Int) (tl:List (List UInt8)) (p:List UInt8):Rc×List Dp×Bool :=
 let k:=(Cu.new p 0).num
 if k.2.e=0∧(k.1=1∨k.1=2) then
  let t:=dNm ver tl k.2
  if k.1=1 then
   let u:=t.2.num
   let ds:=dDs ver tl u.2.num.1 ([],u.2.num.2)
   let o:=ds.2.num
   let m:=zEA ver o.2
   let g:=dTag ver tl m.2
   (⟨1,t.1,(u.1:Int),(o.1:Int),(m.1:Int),g.1⟩,ds.1,decide (g.2.e=0∧g.2.at_=p.length))
  else (⟨2,t.1,0,0,0,[]⟩,[],decide (t.2.e=0∧t.2.at_=p.length))
 else (⟨0,[],0,0,0,[]⟩,[],false)
theorem zEk {tl:List (List UInt8)} {s suf:List UInt8} {c:Cu} (hin:s ∈ tl) (h:Rest c suf):dKn tl (tnum tl s) c=(s,c)∧Rest c suf:=by
 unfold dKn
 have hl:tnum tl s<tl.length:=by
  have:=zDn hin
  exact (List.getElem?_eq_some_iff.1 this).1
 rw [if_pos hl,zDh hin]
 exact ⟨rfl,h⟩
theorem zEY {ver:Int} {tl:List (List UInt8)} {c:Cu} {s suf:List UInt8} (hv:1≤ver) (hs:s.length≤64) (ht:tl.length≤1073741824) (hm:ver<2∨s ∈ tl) (h:Rest c (nmB ver tl s++suf)):(dNm ver tl c).1=s∧Rest (dNm ver tl c).2 suf:=by
 unfold nmB at h
 unfold dNm
 by_cases hv2:ver<2
 ·rw [if_pos hv2] at h
  rw [if_pos (by omega)]
  exact zHx hs h
 ·rw [if_neg hv2] at h
  rw [if_neg (by omega)]
  obtain ⟨h1,h2⟩:=zAw (zAq (by have:=zBY (s:=s) ht;omega)) h
  rw [h1]
  obtain ⟨h3,h4⟩:=zEk (hm.resolve_left hv2) h2
  rw [h3]
  exact ⟨rfl,h4⟩
theorem zLO {ver:Int} {tl:List (List UInt8)} {c:Cu} {d:Dp} {suf:List UInt8} (hv:1≤ver) (ht:tl.length≤1073741824) (hd:zEU ver tl d) (h:Rest c (fDep ver tl d++suf)):(dDp ver tl c).1=d∧Rest (dDp ver tl c).2 suf:=by
 obtain ⟨hs,hm,ho,hh⟩:=hd
 unfold fDep at h
 rw [List.append_assoc] at h
 unfold depB at h
 unfold dDp
 obtain ⟨nm,hash,ord⟩:=d
 simp only at hs hm ho hh h
 by_cases hv3:ver<3
 ·rw [if_pos hv3] at h ⊢
  obtain ⟨h1,h2⟩:=zEY hv hs ht hm h
  obtain ⟨h4,h5⟩:=zAw (zAg hh).2 h2
  refine ⟨?_,h5⟩
  have h6:ord=false:=by
   cases ord with
   | false =>rfl
   | true =>have:=ho rfl;omega
  rw [h6]
  simp only [h1,h4]
  rw [← (zAg hh).1]
 ·rw [if_neg hv3] at h ⊢
  have hin:nm ∈ tl:=hm.resolve_left (by omega)
  have hle:=zBY (s:=nm) ht
  obtain ⟨h1,h2⟩:=zAw (zAq (by split <;> omega)) h
  have e1:c.num.1 / 2=tnum tl nm:=by rw [h1];split <;> omega
  rw [e1]
  obtain ⟨h3,h4⟩:=zEk hin h2
  rw [h3]
  obtain ⟨h5,h6⟩:=zAw (zAg hh).2 h4
  refine ⟨?_,h6⟩
  have e2:decide (c.num.1 % 2=1)=ord:=by
   rw [h1]
   cases ord <;> simp <;> omega
  simp only [h5,e2]
  rw [← (zAg hh).1]
theorem zGQ {ver:Int} {tl:List (List UInt8)} (hv:1≤ver) (ht:tl.length≤1073741824) (c:Cu) (l:List Dp) (suf:List UInt8) (hd:∀ d ∈ l,zEU ver tl d) (h:Rest c (l.flatMap (fDep ver tl)++suf)) :
  ∀ i,i≤l.length→(dDs ver tl i ([],c)).1=l.take i∧Rest (dDs ver tl i ([],c)).2 ((l.drop i).flatMap (fDep ver tl)++suf)
 | 0,_ =>⟨by simp [dDs],h⟩
 | i+1,hi =>by
  obtain ⟨h1,h2⟩:=zGQ hv ht c l suf hd h i (by omega)
  have hx:l.drop i=l[i] :: l.drop (i+1):=List.drop_eq_getElem_cons (by omega)
  rw [hx,List.flatMap_cons,List.append_assoc] at h2
  obtain ⟨h3,h4⟩:=zLO hv ht (hd _ (List.getElem_mem (by omega))) h2
  have e:dDs ver tl (i+1) ([],c)=((dDs ver tl i ([],c)).1++[(dDp ver tl (dDs ver tl i ([],c)).2).1],(dDp ver tl (dDs ver tl i ([],c)).2).2):=by
   show (if (dDs ver tl i ([],c)).2.e=0 then _ else _)=_
   rw [if_pos h2.1]
  rw [e]
  refine ⟨?_,h4⟩
  simp only
  rw [h1,h3,List.take_add_one,List.getElem?_eq_getElem (by omega)]
  rfl
theorem zIl {c:Cu} {p:List UInt8} (h:Rest c []) (hp:c.bs=p):decide (c.e=0∧c.at_=p.length)=true:=by
 obtain ⟨h1,h2,h3⟩:=h
 have:=congrArg List.length h3
 rw [List.length_drop] at this
 simp only [List.length_nil] at this
 rw [hp] at this h2
 exact decide_eq_true ⟨h1,by omega⟩
theorem zCW (c:Cu):c.num.2.bs=c.bs:=by
 unfold Cu.num Cu.tk
 split
 ·split <;> rfl
 ·rfl
theorem zPq (c:Cu) (m:Int):(c.text m).2.bs=c.bs:=by
 unfold Cu.text Cu.tk
 split
 ·split <;> rfl
 ·rfl
theorem zKe (tl:List (List UInt8)) (n:Nat) (c:Cu):(dKn tl n c).2.bs=c.bs:=by
 unfold dKn Cu.fail
 split
 ·rfl
 ·simp only;split <;> rfl
theorem zKg (ver:Int) (tl:List (List UInt8)) (c:Cu):(dNm ver tl c).2.bs=c.bs:=by
 unfold dNm
 split
 ·exact zPq _ _
 ·rw [zKe,zCW]
theorem zQq (ver:Int) (tl:List (List UInt8)) (c:Cu):(dDp ver tl c).2.bs=c.bs:=by
 unfold dDp
 split
 ·simp only [zCW,zKg]
 ·simp only [zCW,zKe]
theorem zKU (ver:Int) (tl:List (List UInt8)) (s:List Dp×Cu):∀ i,(dDs ver tl i s).2.bs=s.2.bs
 | 0 =>rfl
 | i+1 =>by
  show (if (dDs ver tl i s).2.e=0 then ((dDs ver tl i s).1++[(dDp ver tl (dDs ver tl i s).2).1],(dDp ver tl (dDs ver tl i s).2).2) else dDs ver tl i s).2.bs=_
  split
  ·simp only [zQq];exact zKU ver tl s i
  ·exact zKU ver tl s i
theorem zPw (ver:Int) (c:Cu):(zEA ver c).2.bs=c.bs:=by
 unfold zEA
 split
 ·exact zCW _
 ·rfl
theorem zQa (ver:Int) (tl:List (List UInt8)) (c:Cu):(dTag ver tl c).2.bs=c.bs:=by
 unfold dTag
 split
 ·split
  ·rw [zKe,zCW]
  ·exact zCW _
 ·rfl
theorem zKA (k:Nat) (h:k=1∨k=2):vb k=[UInt8.ofNat k]:=by rcases h with rfl | rfl <;> (rw [vb];simp)
theorem zLp {ver:Int} {tl:List (List UInt8)} {r:Rc} {l:List Dp} (hm:MayP ver r l) (hnu:Nums r l) (ht:tl.length≤1073741824) (hin:ver<2 ∨ ∀ s ∈ zBI r l,s ∈ tl):zIE ver tl (payB ver tl r l)=(r,l,true):=by
 obtain ⟨n1,n2,n3,n4⟩:=zBm hm
 have hv1:1≤ver:=hm.1
 have tin:ver<2∨r.target ∈ tl:=hin.imp id fun h =>h _ (zCn (by simp))
 have din:∀ d ∈ l,ver<2∨d.name ∈ tl:=fun d hd =>hin.imp id fun h =>h _ (zCn (by
  refine List.mem_append.2 (.inl (List.mem_cons.2 (.inr ?_)))
  exact List.mem_map.2 ⟨d,hd,rfl⟩))
 have gin:ver<2∨r.tag=[]∨r.tag ∈ tl:=by
  by_cases hz:r.tag=[]
  ·exact .inr (.inl hz)
  ·exact hin.imp id fun h =>.inr (h _ (zCn (by rw [if_neg hz];simp)))
 have hstart:=zIe (payB ver tl r l)
 have hbs:(Cu.new (payB ver tl r l) 0).bs=payB ver tl r l:=by unfold Cu.new;rw [if_neg (by omega)]
 obtain ⟨k,t,u,o,m,g⟩:=r
 rcases hm with ⟨v1,v2,ht0,⟨hk,htime,htag,hdeps⟩ | ⟨hk,hgone,hl0⟩⟩
 ·simp only at hk n1 n2 tin gin htime htag
  subst hk
  have hpb:payB ver tl ⟨1,t,u,o,m,g⟩ l=vb 1++(nmB ver tl t++(vb u.toNat++(vb l.length++(l.flatMap (fDep ver tl)++(vb o.toNat++((if ver<2 then [] else vb m.toNat)++(if ver<3 then [] else fTag tl ⟨1,t,u,o,m,g⟩))))))):=by
   unfold payB zBy
   rw [if_neg (by simp),zKA 1 (.inl rfl)]
   simp only [List.append_assoc]
   rfl
  have hokd:∀ d ∈ l,zEU ver tl d:=fun d hd =>⟨n4 d hd,din d hd,(hdeps.2.1 d hd).2,hnu.2.2.2 d hd⟩
  unfold zIE
  obtain ⟨p,hp⟩:∃ p,p=payB ver tl ⟨1,t,u,o,m,g⟩ l:=⟨_,rfl⟩
  rw [← hp] at hstart hbs ⊢
  rw [← hp] at hpb
  obtain ⟨c0,hc0⟩:∃ c0,c0=Cu.new p 0:=⟨_,rfl⟩
  rw [← hc0] at hstart hbs ⊢
  have hst:Rest c0 (vb 1++(nmB ver tl t++(vb u.toNat++(vb l.length++(l.flatMap (fDep ver tl)++(vb o.toNat++((if ver<2 then [] else vb m.toNat)++(if ver<3 then [] else fTag tl ⟨1,t,u,o,m,g⟩)))))))):=by rw [← hpb];exact hstart
  obtain ⟨b1,b2⟩:=zAw (zAq (by omega)) hst
  simp only
  rw [if_pos ⟨b2.1,.inl b1⟩,if_pos b1]
  obtain ⟨a1,a2⟩:=zEY hv1 n1 ht tin b2
  obtain ⟨a3,a4⟩:=zAw (zAg hnu.1).2 a2
  obtain ⟨a5,a6⟩:=zAw (zAq (by omega)) a4
  obtain ⟨q1,q2⟩:=zGQ hv1 ht _ l _ hokd a6 l.length (Nat.le_refl _)
  rw [List.take_length] at q1
  rw [List.drop_length,List.flatMap_nil,List.nil_append] at q2
  rw [a5,a1,a3]
  obtain ⟨a7,a8⟩:=zAw (zAg hnu.2.1).2 q2
  rw [q1,a7]
  obtain ⟨cd,hcd⟩:∃ cd,cd=(dDs ver tl l.length ([],(dNm ver tl c0.num.2).2.num.2.num.2)).2.num.2:=⟨_,rfl⟩
  have hcb:cd.bs=p:=by rw [hcd,zCW,zKU,zCW,zCW,zKg,zCW,hbs]
  rw [← hcd] at a8 ⊢
  have hw:(zEA ver cd).1=m.toNat∧Rest (zEA ver cd).2 (if ver<3 then [] else fTag tl ⟨1,t,u,o,m,g⟩):=by
   unfold zEA
   by_cases hv2:ver<2
   ·rw [if_neg (by omega)]
    rw [if_pos hv2,if_pos (by omega)] at a8
    have hm0:m=0:=by rcases htime with h | h;exact h;omega
    rw [hm0,if_pos (by omega)]
    exact ⟨rfl,a8⟩
   ·rw [if_pos (by omega)]
    rw [if_neg hv2] at a8
    exact zAw (zAg hnu.2.2.1).2 a8
  have hwb:(zEA ver cd).2.bs=p:=by rw [zPw,hcb]
  rw [hw.1]
  obtain ⟨ce,hce⟩:∃ ce,ce=(zEA ver cd).2:=⟨_,rfl⟩
  have hw2:=hw.2
  rw [← hce] at hw2 hwb ⊢
  have hg:(dTag ver tl ce).1=g∧Rest (dTag ver tl ce).2 []:=by
   unfold dTag
   by_cases hv3:ver<3
   ·rw [if_neg (by omega)]
    rw [if_pos hv3] at hw2
    have hg0:g=[]:=by rcases htag with h | h;exact h;omega
    rw [hg0]
    exact ⟨rfl,hw2⟩
   ·rw [if_pos (by omega)]
    rw [if_neg hv3] at hw2
    have hw3:Rest ce (fTag tl ⟨1,t,u,o,m,g⟩++[]):=by simpa using hw2
    unfold fTag at hw3
    by_cases hz:g=[]
    ·simp only [hz,if_true] at hw3
     obtain ⟨h1,h2⟩:=zAw (zAq (by omega)) hw3
     rw [h1,if_neg (by omega),hz]
     exact ⟨rfl,h2⟩
    ·simp only [hz,if_false] at hw3
     have hle:=zBY (s:=g) ht
     obtain ⟨h1,h2⟩:=zAw (zAq (by omega)) hw3
     rw [h1,if_pos (by omega),show tnum tl g+1 - 1=tnum tl g from rfl]
     obtain ⟨h3,h4⟩:=zEk ((gin.resolve_left (by omega)).resolve_left hz) h2
     rw [h3]
     exact ⟨rfl,h4⟩
  rw [hg.1,zIl hg.2 (by rw [zQa];exact hwb),← (zAg hnu.1).1,← (zAg hnu.2.1).1,← (zAg hnu.2.2.1).1]
 ·simp only at hk hgone
  obtain rfl:k=2:=hk
  subst hl0
  have hg:=hgone
  simp only [Rc.mk.injEq,true_and] at hg
  obtain ⟨rfl,rfl,rfl,rfl⟩:=hg
  have hpb:payB ver tl ⟨2,t,0,0,0,[]⟩ []=vb 2++(nmB ver tl t++[]):=by
   unfold payB
   rw [if_pos rfl,zKA 2 (.inr rfl),List.append_nil]
   rfl
  unfold zIE
  obtain ⟨p,hp⟩:∃ p,p=payB ver tl ⟨2,t,0,0,0,[]⟩ []:=⟨_,rfl⟩
  rw [← hp] at hstart hbs ⊢
  rw [← hp] at hpb
  obtain ⟨c0,hc0⟩:∃ c0,c0=Cu.new p 0:=⟨_,rfl⟩
  rw [← hc0] at hstart hbs ⊢
  have hst:Rest c0 (vb 2++(nmB ver tl t++[])):=by rw [← hpb];exact hstart
  obtain ⟨b1,b2⟩:=zAw (zAq (by omega)) hst
  simp only
  rw [if_pos ⟨b2.1,.inr b1⟩,if_neg (by omega)]
  obtain ⟨a1,a2⟩:=zEY hv1 n1 ht tin b2
  rw [a1,zIl a2 (by rw [zKg,zCW];exact hbs)]
open Go.RowKit Go.Shelf
structure Adv (c d:Cu):Prop where
 ok:d.ok
 bs:d.bs=c.bs
 on:d.e=0→c.e=0∧c.at_≤d.at_
theorem Adv.refl {c:Cu} (h:c.ok):Adv c c:=⟨h,rfl,fun h =>⟨h,Nat.le_refl _⟩⟩
theorem Adv.trans {a b c:Cu} (h:Adv a b) (k:Adv b c):Adv a c:=⟨k.ok,k.bs.trans h.bs,fun e =>by
 obtain ⟨h1,h2⟩:=k.on e
 obtain ⟨h3,h4⟩:=h.on h1
 exact ⟨h3,by omega⟩⟩
section
variable {w0 W W':World} {base:Nat} {va:Value} {l:List Dp} {b3 b7 db:Nat} {s:ByteArray} {a:Int} {T:Option Addr} {n k:Nat} {nm:ByteArray} {h:Int} {o:Bool}
end
section
variable {w0 w:World} {base:Nat} {va:Value} {l:List Dp} {b3 b7 db:Nat} {s:ByteArray} {a:Int} {T:Option Addr} {n k:Nat} {nm:ByteArray} {h:Int} {o:Bool} {ops:Array Oper} {rest:List Oper} {op:Oper} {ac:Act} {Q:Exit→Act→World→Prop}
end
section
variable {w0 w W W':World} {b6 b8 b9:Nat} {s:ByteArray} {a:Int} {T:Option Addr} {n k:Nat} {kd:Int} {tg:ByteArray} {ru:Int} {va:Value} {l:List Dp} {ou ti:Int} {ta:ByteArray} {ops:Array Oper} {rest:List Oper} {op:Oper} {ac:Act} {Q:Exit→Act→World→Prop}
end
theorem zBn {P:Program} {fn:Func} {u p:Tmp} {ty:TypeId} (h:fn.results=#[.cell p ty,.tmp u]) (tmps:Array Value) (w:World) (g:Nat) (t:TypeId) (cs:Array Value) (fr:Nat×Nat) (d:TypeDesc)
  (hp:tmps.getD p undef=.pointer (some ⟨g,0,none⟩)) (hg:w.heap[g]? = some (.cells cs t fr))
  (hu:P.underlying ty=some d) (hd:(match d with | .struct _ | .array _ _ =>true | _ =>false)=true) (hi:(P.info? ty).map (·.size)=some cs.size) :
  (results fn tmps).run P w=.ok (.tuple #[.agg cs,tmps.getD u undef]) w:=by
 have hp':tmps[p]?.getD undef=.pointer (some ⟨g,0,none⟩):=by simpa using hp
 simp [results,h,hp',asAddr,run_loadVar_row w g t ty cs fr d hg hu hd hi]
def zFw (w:World) (kd:Int) (tg:ByteArray) (ru:Int) (l:List Dp) (ou ti:Int) (ta:ByteArray) (P:Prop) (e:Ending) (w':World):Prop :=
 ∃ A c q,e=.returned (.tuple #[.agg #[.int .i64 kd,.string tg,.int .u64 ru,.slice A l.length c,.int .u64 ou,.int .u64 ti,.string ta],.bool q])∧(q=true ↔ P)∧(A=none→c=0)∧w'.ownsRow w.heap.size 77 3 (.slice A l.length c) l.length (dps l)∧Below w.heap.size w w'
theorem zFw.iff {w w':World} {kd:Int} {tg:ByteArray} {ru:Int} {l:List Dp} {ou ti:Int} {ta:ByteArray} {P Q:Prop} {e:Ending} (h:zFw w kd tg ru l ou ti ta P e w') (hq:P ↔ Q):zFw w kd tg ru l ou ti ta Q e w':=by
 obtain ⟨A,c,q,h1,h2,h3⟩:=h
 exact ⟨A,c,q,h1,h2.trans hq,h3⟩
theorem zFZ (tl:List (List UInt8)) (n m:Nat) (h:∀ s ∈ tl,s.length≤m):(zBE tl n).length≤m:=by
 unfold zBE
 cases e:tl[n]? with
 | none =>simp
 | some s =>exact h s (List.mem_of_getElem? e)
theorem zOL (c:Cu):(c.text 64).1.length≤64:=by
 unfold Cu.text Cu.tk
 split
 ·split
  ·unfold Cu.txR bg
   simp only
   split
   ·simp
   ·split
    ·simp
    ·split
     ·simp
     ·simp only [List.length_take]
      omega
  ·simp
 ·simp
theorem zQu (c:Cu):(0:Int)≤(c.num.1:Int)∧(c.num.1:Int)<18446744073709551616:=⟨by omega,by have:=@Cu.num_lt c;unfold top at this;omega⟩
theorem zCB (t:List UInt8) (w:World):Calls Tryz.prog 38 #[rsv t] w fun e w' =>e=.returned (.bool (zAv t))∧w=w':=by
 unfold rsv
 have hsz:=zBK t
 by_cases h0:t=[]
 ·subst h0
  have he:(tx ([]:List UInt8)).toList=[]:=by simp [tx]
  go_enter Tryz.func38,Tryz.ntmps38
  go_wp2
  go_ret
  exact ⟨rfl,rfl⟩
 ·have h1:=zCo t h0
  have hl:1≤t.length:=by
   rcases t with _ | ⟨a,t⟩
   ·exact absurd rfl h0
   ·simp
  obtain ⟨n,hn⟩:∃ n,n=t.length:=⟨_,rfl⟩
  rw [← hn] at hsz hl
  by_cases h2:n≤64
  ·have hi:Hid (zAv t=true):=by show zAv t=true;unfold zAv;rw [← hn];exact decide_eq_true ⟨hl,h2⟩
   have h3:decide ((n:Int)<65)=true:=by rw [decide_eq_true_iff];omega
   clear hn h0
   go_enter Tryz.func38,Tryz.ntmps38
   go_wp2
   go_ret
   exact ⟨by rw [hi.out];first | rfl | (congr 2;simp;omega),rfl⟩
  ·have hi:Hid (zAv t=false):=by show zAv t=false;unfold zAv;rw [← hn];exact decide_eq_false (by omega)
   have h3:decide ((n:Int)<65)=false:=by rw [decide_eq_false_iff_not];omega
   clear hn h0
   go_enter Tryz.func38,Tryz.ntmps38
   go_wp2
   go_ret
   exact ⟨by rw [hi.out];first | rfl | (congr 2;simp;omega),rfl⟩
theorem zBc {t:List UInt8} {ns:List (List UInt8)} {s:List UInt8}:(t :: (ns++[s])).Nodup ↔ (t :: ns).Nodup∧s≠t∧s ∉ ns:=by
 rw [List.nodup_cons,List.nodup_cons,List.nodup_append]
 simp only [List.mem_append,List.mem_singleton,List.nodup_cons,List.not_mem_nil,not_false_iff,List.nodup_nil,and_true,true_and]
 constructor
 ·rintro ⟨h1,h2,h3⟩
  exact ⟨⟨fun h =>h1 (.inl h),h2⟩,fun h =>h1 (.inr h.symm),fun h =>h3 s h s rfl rfl⟩
 ·rintro ⟨⟨h1,h2⟩,h3,h4⟩
  refine ⟨fun h =>?_,h2,fun a ha b hb e =>?_⟩
  ·rcases h with h | h
   ·exact h1 h
   ·exact h3 h.symm
  ·subst hb;subst e;exact h4 ha
theorem zDd {t:List UInt8} {ns:List (List UInt8)} (h:(t :: ns).Nodup) (i:Nat):(t :: ns.take i).Nodup:=by
 rw [List.nodup_cons] at h ⊢
 exact ⟨fun hm =>h.1 (List.mem_of_mem_take hm),h.2.sublist (List.take_sublist _ _)⟩
def zID (v:Int) (w:World) (o:Obj) (t:List UInt8) (l:List Dp) (idx:Value) (wr:World):Prop :=
 ∃ i:Nat,i≤l.length∧idx=.int .i64 (i:Int)∧(∀ d ∈ l.take i,DepP v d)∧(t :: (zAU l).take i).Nodup∧Below w.heap.size w wr∧wr.heap[w.heap.size]? = some o∧w.heap.size<wr.heap.size
def zFc (w:World) (o x:Obj) (b i:Nat) (s:List UInt8) (l:List Dp) (idx:Value) (wr:World):Prop :=
 ∃ j:Nat,j≤i∧idx=.int .i64 (j:Int)∧s ∉ (zAU l).take j∧Below w.heap.size w wr∧wr.heap[w.heap.size]? = some o∧w.heap.size<wr.heap.size∧wr.heap[b]? = some x∧b<wr.heap.size
theorem zPe (t:List UInt8) (u o:Int) (A:Option Addr) (n c:Nat) (l:List Dp) (hn:n≤1000) (hfit:Fits ⟨1,t,u,o,0,[]⟩ l) (hq:zAv t=true) (h16:n≤16) (w:World) (h:zAE w w.heap.size 3 A n (dps l)) :
  Calls Tryz.prog 16 #[.int .i64 1,rcv ⟨1,t,u,o,0,[]⟩ A n c] w fun e w' =>zAx (MayP 1 ⟨1,t,u,o,0,[]⟩ l) e∧Below w.heap.size w w':=by
 have HL:Hid (l.length=n):=by have:=h.1;rw [zAr] at this;show _=_;omega
 have H1:=yh h
 have H0:=yh (zAD w (.cells (zAY ⟨1,t,u,o,0,[]⟩ A n c) 46))
 have HB0:=yh ((Below.refl w.heap.size w).alloc (Nat.le_refl _) (.cells (zAY ⟨1,t,u,o,0,[]⟩ A n c) 46))
 have HS0:Hid (w.heap.size<(w.alloc (.cells (zAY ⟨1,t,u,o,0,[]⟩ A n c) 46)).heap.size):=by show w.heap.size<_;simp
 have hst:=zBK t
 have hsg:=zBK []
 obtain ⟨hft,hfg,hfd⟩:=hfit
 have HFD:=yh hfd
 have HNAME:=yh (zCB t)
 have q0:=zAA (i:=0) H0.out rfl
 have q1:=zAA (i:=1) H0.out rfl
 have q2:=zAA (i:=2) H0.out rfl
 have q3:=zAA (i:=3) H0.out rfl
 have q4:=zAA (i:=4) H0.out rfl
 have q5:=zAA (i:=5) H0.out rfl
 have q6:=zAA (i:=6) H0.out rfl
 unfold maxLen at hft hfg
 simp only at hft hfg
 clear h hfd
 unfold zAY at *
 unfold rcv rsv at *
 rw [hq] at HNAME
 have d16:decide ((n:Int) > 16)=false:=decide_eq_false (by omega)
 have he:(tx ([]:List UInt8)).toList=[]:=by simp [tx]
 have HIFF:Hid (MayP 1 ⟨1,t,u,o,0,[]⟩ l ↔ zCi 1 ⟨1,t,u,o,0,[]⟩ l):=⟨fun h =>by rcases h.2.2.2 with h | h;exact h.2.2.2;exact absurd h.1 (by simp),fun h =>⟨by omega,by omega,hq,.inl ⟨rfl,.inl rfl,.inl rfl,h⟩⟩⟩
 have H16:Hid (n≤16):=h16
 go_enter Tryz.func16,Tryz.ntmps16
 go_wp2_with (go_at_call 38;refine (HNAME.out _).mono ?_;rintro e w2 ⟨rfl,rfl⟩)
 go_loopw [5] (fun idx wr =>zID 1 w (.cells #[.int .i64 1,.string (tx t),.int .u64 u,.slice A n c,.int .u64 o,.int .u64 0,.string (tx [])] 46) t l idx wr) (fun idx wr =>n - (intOf idx).toNat)
 case atStart =>exact ⟨0,by omega,rfl,by simp,by simp,HB0.out,H0.out,HS0.out⟩
 case round =>
  obtain ⟨i,hi,rfl,hok,hnd,hb,hbx,hz⟩:=hrel
  obtain ⟨wo,hwo⟩:∃ x,x=wr:=⟨wr,rfl⟩
  subst hwo
  have HOK:=yh hok
  have HND:=yh hnd
  have HBR:=yh hb
  have HBX:=yh hbx
  have HZ:=yh hz
  rw [HL.out] at hi
  have b1:=zAA (i:=1) hbx rfl
  have b3:=zAA (i:=3) hbx rfl
  by_cases hlt:i<n
  ·obtain ⟨y,hy⟩:∃ y,l[i]? = some y:=⟨_,List.getElem?_eq_getElem (by rw [HL.out];exact hlt)⟩
   obtain ⟨ad,rfl,_,hcx⟩:=(H1.out.below hb).2 (by omega)
   obtain ⟨x0,x1,x2⟩:=zBP l i y hy
   have k0:=hcx _ _ x0
   have k1:=hcx _ _ x1
   have k2:=hcx _ _ x2
   rw [zCJ] at k1
   rw [zCK] at k2
   have hnb:=zAD wo (.cells #[.string (tx y.name),.int .u64 y.hash,.bool y.order] 77)
   have p0:=zAA (i:=0) hnb rfl
   have p2:=zAA (i:=2) hnb rfl
   have hbn:=yh (hb.alloc (by omega) (.cells #[.string (tx y.name),.int .u64 y.hash,.bool y.order] 77))
   have hbxn:=yh ((Below.heap_alloc wo (.cells #[.string (tx y.name),.int .u64 y.hash,.bool y.order] 77) w.heap.size hz).trans hbx)
   have hzn:Hid (w.heap.size<(wo.alloc (.cells #[.string (tx y.name),.int .u64 y.hash,.bool y.order] 77)).heap.size):=by show w.heap.size<_;simp;omega
   have HNB:=yh hnb
   have HNBZ:Hid (wo.heap.size<(wo.alloc (.cells #[.string (tx y.name),.int .u64 y.hash,.bool y.order] 77)).heap.size):=by show _<_;simp
   have c1:=(World.cell?_alloc_lt wo (.cells #[.string (tx y.name),.int .u64 y.hash,.bool y.order] 77) ⟨w.heap.size,1,none⟩ hz).trans b1
   have hname:=yh (zCB y.name)
   have hi0:(0:Int)≤(i:Int):=by omega
   have hi1:(i:Int)<(n:Int):=by omega
   have HNM:Hid ((zAU l)[i]? = some y.name):=by show _=_;unfold zAU;rw [List.getElem?_map,hy];rfl
   have HIN:Hid (DepP 1 y→∀ d ∈ l.take (i+1),DepP 1 d):=fun hp d hd =>by
    rw [List.take_add_one,hy,List.mem_append] at hd
    rcases hd with hd | hd
    ·exact HOK.out d hd
    ·simp at hd;subst hd;exact hp
   have HOUT:Hid (¬ DepP 1 y→¬ MayP 1 ⟨1,t,u,o,0,[]⟩ l):=fun hp hd =>hp ((HIFF.out.1 hd).2.1 y (List.mem_of_getElem? hy))
   have HDUP:Hid (y.name=t∨y.name ∈ (zAU l).take i→¬ MayP 1 ⟨1,t,u,o,0,[]⟩ l):=fun hp hd =>by
    have h1:=zDd (HIFF.out.1 hd).2.2 (i+1)
    rw [List.take_add_one,HNM.out] at h1
    have h2:=zBc.1 h1
    rcases hp with hp | hp
    ·exact h2.2.1 hp
    ·exact h2.2.2 hp
   obtain ⟨xn,xh,xo⟩:=y
   unfold rsv at k0 hname
   simp only at k0 k1 k2 p0 p2 hbn hbxn hzn HNB HNBZ c1 hname HNM HDUP
   clear hcx x0 x1 x2 hok hnd hb hbx hnb hy
   cases hqn:zAv xn
   ·have HNO:=yh (HOUT.out (fun hp =>by have:=hp.1;simp only at this;rw [hqn] at this;cases this))
    rw [hqn] at hname
    go_wp2_with (go_at_call 38;refine (hname.out _).mono ?_;rintro e w2 ⟨rfl,rfl⟩)
    go_ret
    exact ⟨zAN HNO.out,hbn.out⟩
   rw [hqn] at hname
   by_cases het:xn=t
   ·subst het
    have HNO:=yh (HDUP.out (.inl rfl))
    have hlk:=zBG xn
    go_wp2_with (go_at_call 38;refine (hname.out _).mono ?_;rintro e w2 ⟨rfl,rfl⟩)
    go_ret
    exact ⟨zAN HNO.out,hbn.out⟩
   have hun:=zBB het
   have HET:=yh het
   clear het
   cases xo
   rotate_left
   ·have HNO:=yh (HOUT.out (fun hp =>by have:=hp.2 rfl;omega))
    go_wp2_with (go_at_call 38;refine (hname.out _).mono ?_;rintro e w2 ⟨rfl,rfl⟩)
    go_ret
    exact ⟨zAN HNO.out,hbn.out⟩
   have HGO:=yh (HIN.out ⟨hqn,fun h =>by cases h⟩)
   ·go_wp2_with (go_at_call 38;refine (hname.out _).mono ?_;rintro e w2 ⟨rfl,rfl⟩)
    go_loopw [7] (fun idx wr =>zFc w (.cells #[.int .i64 1,.string (tx t),.int .u64 u,.slice (some ad) n c,.int .u64 o,.int .u64 0,.string (tx [])] 46) (.cells #[.string (tx xn),.int .u64 xh,.bool false] 77) wo.heap.size i xn l idx wr) (fun idx wr =>i - (intOf idx).toNat)
    case atStart =>exact ⟨0,by omega,rfl,by simp,hbn.out,hbxn.out,hzn.out,HNB.out,HNBZ.out⟩
    case round =>
     obtain ⟨j,hj,rfl,hnm,hb2,hbx2,hz2,hnb2,hnz2⟩:=hrel
     have HNM2:=yh hnm
     have HB2:=yh hb2
     have HBX2:=yh hbx2
     have HNB2:=yh hnb2
     have HZ2:=yh hz2
     have HNZ2:=yh hnz2
     have e3:=zAA (i:=3) hbx2 rfl
     have e0:=zAA (i:=0) hnb2 rfl
     by_cases hjlt:j<i
     ·obtain ⟨z,hzz⟩:∃ z,l[j]? = some z:=⟨_,List.getElem?_eq_getElem (by rw [HL.out];omega)⟩
      obtain ⟨ad',had,_,hcz⟩:=(H1.out.below hb2).2 (by omega)
      obtain rfl:ad=ad':=by injection had
      have m0:=hcz _ _ (zBP l j z hzz).1
      have HNZ:Hid ((zAU l)[j]? = some z.name):=by show _=_;unfold zAU;rw [List.getElem?_map,hzz];rfl
      obtain ⟨zn,zh,zo⟩:=z
      unfold rsv at m0
      simp only at m0 HNZ
      have hj0:(0:Int)≤(j:Int):=by omega
      have hj1:(j:Int)<(n:Int):=by omega
      clear hcz hzz hnm hb2 hbx2 hnb2 had
      by_cases hzx:zn=xn
      ·subst hzx
       have hlk:=zBG zn
       have HNO:=yh (HDUP.out (.inr (List.mem_of_getElem? (show ((zAU l).take i)[j]? = some zn by rw [List.getElem?_take,if_pos hjlt];exact HNZ.out))))
       go_wp2_with fail
       refine wp_region_held (S:=fun v1 =>v1.heap=wr.heap) (by kernel_rfl) ?_
       have hS:wr.drew.heap=wr.heap:=rfl
       refine zAB 0 (.pointer (some ⟨w.heap.size,3,none⟩)) rfl (by kernel_rfl) (by kernel_rfl) (by kernel_rfl) (fun _ _ _ h =>h) (by kernel_rfl) hS (fun _ _ =>by kernel_rfl) ?_
       refine zAB 1 (.slice (some ad) n c) rfl (by kernel_rfl) (by kernel_rfl) (by kernel_rfl) (fun _ _ _ h =>h) (by kernel_rfl) hS (by intro v1 hv;have q:=(at_heap hv _).trans e3;go_simp) ?_
       refine zAB 2 (.int .i64 (j:Int)) rfl (by kernel_rfl) (by kernel_rfl) (by kernel_rfl) (fun _ _ _ h =>h) (by kernel_rfl) hS (fun _ _ =>by kernel_rfl) ?_
       refine zAB 3 (.pointer (some (ad.add (j * 3)))) rfl (by kernel_rfl) (by kernel_rfl) (by kernel_rfl) (fun _ _ _ h =>h) (by kernel_rfl) hS (by intro v1 hv;go_simp) ?_
       refine zAB 4 (.pointer (some (ad.add (j * 3)))) rfl (by kernel_rfl) (by kernel_rfl) (by kernel_rfl) (fun _ _ _ h =>h) (by kernel_rfl) hS (by intro v1 hv;go_simp) ?_
       refine zAB 5 (.string (tx zn)) rfl (by kernel_rfl) (by kernel_rfl) (by kernel_rfl) (fun _ _ _ h =>h) (by kernel_rfl) hS (by intro v1 hv;have q:=(at_heap hv _).trans m0;go_simp) ?_
       refine zAB 6 (.pointer (some ⟨wo.heap.size,0,none⟩)) rfl (by kernel_rfl) (by kernel_rfl) (by kernel_rfl) (fun _ _ _ h =>h) (by kernel_rfl) hS (fun _ _ =>by kernel_rfl) ?_
       refine zAB 7 (.string (tx zn)) rfl (by kernel_rfl) (by kernel_rfl) (by kernel_rfl) (fun _ _ _ h =>h) (by kernel_rfl) hS (by intro v1 hv;have q:=(at_heap hv _).trans e0;go_simp) ?_
       refine zAB 8 (.bool true) rfl (by kernel_rfl) (by kernel_rfl) (by kernel_rfl) (fun _ _ _ h =>h) (by kernel_rfl) hS (by intro v1 hv;go_simp) ?_
       refine wpAnyH_done (by kernel_rfl) ?_ _
       go_simp
       go_wp2
       go_ret
       exact ⟨zAN HNO.out,HB2.out.drew⟩
      ·have hul:=zBB hzx
       have HN2:Hid (xn ∉ (zAU l).take (j+1)):=fun h =>by
        rw [List.take_add_one,HNZ.out,List.mem_append] at h
        rcases h with h | h
        ·exact HNM2.out h
        ·simp at h;exact hzx h.symm
       clear hzx
       go_wp2_with fail
       refine wp_region_held (S:=fun v1 =>v1.heap=wr.heap) (by kernel_rfl) ?_
       have hS:wr.drew.heap=wr.heap:=rfl
       refine zAB 0 (.pointer (some ⟨w.heap.size,3,none⟩)) rfl (by kernel_rfl) (by kernel_rfl) (by kernel_rfl) (fun _ _ _ h =>h) (by kernel_rfl) hS (fun _ _ =>by kernel_rfl) ?_
       refine zAB 1 (.slice (some ad) n c) rfl (by kernel_rfl) (by kernel_rfl) (by kernel_rfl) (fun _ _ _ h =>h) (by kernel_rfl) hS (by intro v1 hv;have q:=(at_heap hv _).trans e3;go_simp) ?_
       refine zAB 2 (.int .i64 (j:Int)) rfl (by kernel_rfl) (by kernel_rfl) (by kernel_rfl) (fun _ _ _ h =>h) (by kernel_rfl) hS (fun _ _ =>by kernel_rfl) ?_
       refine zAB 3 (.pointer (some (ad.add (j * 3)))) rfl (by kernel_rfl) (by kernel_rfl) (by kernel_rfl) (fun _ _ _ h =>h) (by kernel_rfl) hS (by intro v1 hv;go_simp) ?_
       refine zAB 4 (.pointer (some (ad.add (j * 3)))) rfl (by kernel_rfl) (by kernel_rfl) (by kernel_rfl) (fun _ _ _ h =>h) (by kernel_rfl) hS (by intro v1 hv;go_simp) ?_
       refine zAB 5 (.string (tx zn)) rfl (by kernel_rfl) (by kernel_rfl) (by kernel_rfl) (fun _ _ _ h =>h) (by kernel_rfl) hS (by intro v1 hv;have q:=(at_heap hv _).trans m0;go_simp) ?_
       refine zAB 6 (.pointer (some ⟨wo.heap.size,0,none⟩)) rfl (by kernel_rfl) (by kernel_rfl) (by kernel_rfl) (fun _ _ _ h =>h) (by kernel_rfl) hS (fun _ _ =>by kernel_rfl) ?_
       refine zAB 7 (.string (tx xn)) rfl (by kernel_rfl) (by kernel_rfl) (by kernel_rfl) (fun _ _ _ h =>h) (by kernel_rfl) hS (by intro v1 hv;have q:=(at_heap hv _).trans e0;go_simp) ?_
       refine zAB 8 (.bool false) rfl (by kernel_rfl) (by kernel_rfl) (by kernel_rfl) (fun _ _ _ h =>h) (by kernel_rfl) hS (by intro v1 hv;go_simp) ?_
       refine wpAnyH_done (by kernel_rfl) ?_ _
       go_simp
       go_wp2
       exact ⟨⟨j+1,by omega,by go_num,HN2.out,HB2.out.drew,HBX2.out,HZ2.out,HNB2.out,HNZ2.out⟩,by simp [intOf];omega⟩
     ·obtain rfl:j=i:=by omega
      have HND2:Hid ((t :: (zAU l).take (j+1)).Nodup):=by
       show List.Nodup _
       rw [List.take_add_one,HNM.out]
       exact zBc.2 ⟨HND.out,HET.out,HNM2.out⟩
      clear hnm hb2 hbx2 hnb2
      go_wp2
      exact ⟨⟨j+1,by rw [HL.out];omega,by go_num,HGO.out,HND2.out,HB2.out,HBX2.out,HZ2.out⟩,by simp [intOf];omega⟩
  ·obtain rfl:i=n:=by omega
   rw [List.take_of_length_le (by rw [HL.out];omega)] at HOK
   rw [List.take_of_length_le (by unfold zAU;rw [List.length_map,HL.out];omega)] at HND
   have HP:Hid (MayP 1 ⟨1,t,u,o,0,[]⟩ l):=HIFF.out.2 ⟨by rw [HL.out];exact H16.out,HOK.out,HND.out⟩
   clear hok hnd hb hbx
   go_wp2
   go_ret
   exact ⟨zBU HP.out,HBR.out⟩
end Go.Proofs.YtfbgmehicmpdiaaGreatDoor
