/- Texts of one proof. -/
import Derived.Deep.Slices
import Derived.Deep.Strs
import Derived.Test.YtoclafdidjpndaaGreatDoorMx18
set_option maxRecDepth 100000
set_option maxHeartbeats 8000000
namespace Go.Proofs.YtoclafdidjpndaaGreatDoor
open Go.ChangeShapes Go.WideShapes Go.ChangeAt Go.RowKit Go.Deep
theorem zBY {cs:List Value} {j:Nat} {v:Value} (h:(cs.drop j).take 1=[v]):cs[j]? = some v:=by
 have:=congrArg (fun l:List Value =>l[0]?) h
 simpa using this
theorem zHj (s:ByteArray):tx s.data.toList=s:=by
 cases s
 simp [tx]
theorem zIj (W:World) (ad:Addr):∀ n:Nat,(∀ i,i<n→∃ d:Dp,d.name.length≤maxLen∧W.cell? (ad.add (i * 3))=some (rsv d.name)∧W.cell? (ad.add (i * 3+1))=some (.int .u64 d.hash)∧W.cell? (ad.add (i * 3+2))=some (.bool d.order)) →
  ∃ l:List Dp,l.length=n∧(∀ d ∈ l,d.name.length≤maxLen)∧∀ i d,l[i]? = some d→W.cell? (ad.add (i * 3))=some (rsv d.name)∧W.cell? (ad.add (i * 3+1))=some (.int .u64 d.hash)∧W.cell? (ad.add (i * 3+2))=some (.bool d.order)
 | 0,_ =>⟨[],rfl,by simp,by simp⟩
 | n+1,h =>by
  obtain ⟨ts,h1,h2,h3⟩:=zIj W ad n (fun i hi =>h i (by omega))
  obtain ⟨t,g1,g2⟩:=h n (by omega)
  refine ⟨ts++[t],by simp [h1],?_,?_⟩
  ·intro u hu
   rcases List.mem_append.1 hu with hu | hu
   ·exact h2 u hu
   ·have:u=t:=by simpa using hu
    rw [this];exact g1
  ·intro i u hu
   rcases Nat.lt_or_ge i ts.length with hlt | hge
   ·rw [List.getElem?_append_left hlt] at hu
    exact h3 i u hu
   ·rw [List.getElem?_append_right hge] at hu
    have hi:i=n:=by
     rcases Nat.lt_or_ge (i - ts.length) 1 with h4 | h4
     ·omega
     ·rw [List.getElem?_eq_none (by simpa using h4)] at hu;cases hu
    subst hi
    rw [h1,Nat.sub_self] at hu
    have:t=u:=by simpa using hu
    rw [← this];exact g2
theorem zIT:∀ (l:List Dp) (j:Nat) (u:Value),(dps l)[j]? = some u→∃ t,l[j / 3]? = some t∧((j % 3=0∧u=rsv t.name)∨(j % 3=1∧u=.int .u64 t.hash)∨(j % 3=2∧u=.bool t.order))
 | [],j,u,h =>by simp [dps] at h
 | a :: l,j,u,h =>by
  have e:(Dp.cells a++dps l)[j]? = some u:=h
  rcases Nat.lt_or_ge j 3 with hlt | hge
  ·rw [List.getElem?_append_left (by simp [Dp.cells];omega)] at e
   refine ⟨a,by rw [show j / 3=0 by omega];rfl,?_⟩
   obtain rfl | rfl | rfl:j=0∨j=1∨j=2:=by omega
   ·exact .inl ⟨rfl,(Option.some.inj e).symm⟩
   ·exact .inr (.inl ⟨rfl,(Option.some.inj e).symm⟩)
   ·exact .inr (.inr ⟨rfl,(Option.some.inj e).symm⟩)
  ·rw [List.getElem?_append_right (by simp [Dp.cells];omega)] at e
   have e2:(dps l)[j - 3]? = some u:=e
   obtain ⟨t,h1,h2⟩:=zIT l (j - 3) u e2
   refine ⟨t,by rw [show j / 3=(j - 3) / 3+1 by omega];simpa using h1,?_⟩
   rw [show j % 3=(j - 3) % 3 by omega]
   exact h2
theorem zNq:Tryz.prog.cellsOf 73=3:=by kernel_rfl
theorem zGO:Tryz.prog.cellsOf 9=1:=by kernel_rfl
theorem zDw:Tryz.prog.cellsOf 42=1:=by kernel_rfl
theorem zLW:Tryz.prog.cellsOf 4=1:=by kernel_rfl
theorem zNt:Tryz.prog.cellsOf 3=1:=by kernel_rfl
theorem zLk:Tryz.prog.cellsOf 43=1:=by kernel_rfl
theorem zNp:Tryz.prog.cellsOf 45=7:=by kernel_rfl
theorem zKb {H:Type} {enc:TypeId×Value→H} {W:World} {fuel:Nat} {cs:List Value} {x:DataW H×List MemPlace} (hf:DataW.trod enc Tryz.prog W 0 (fun _ =>true) true fuel 43 cs=some x) :
  ∃ (A:Option Addr) (n c:Nat) (l:List Dp),cs=[.slice A n c]∧n≤maxLen∧(A=none→c=0)∧(∀ d ∈ l,d.name.length≤maxLen)∧zAE W W.heap.size 3 A n (dps l):=by
 rcases Go.Deep.open_slice Tryz.underlying43 hf with ⟨hcs,_⟩ | ⟨ad,n,c,m,k,D,Pl,hcs,_,hl,hmx,hm,_,hi⟩
 ·exact ⟨none,0,0,[],hcs,by omega,fun _ =>rfl,by simp,by simp [dps],fun h =>absurd h (by omega)⟩
 ·have hnm:n≤m:=by rw [hm];simp;exact hl
  have hall:∀ i,i<n→∃ d:Dp,d.name.length≤maxLen∧W.cell? (ad.add (i * 3))=some (rsv d.name)∧W.cell? (ad.add (i * 3+1))=some (.int .u64 d.hash)∧W.cell? (ad.add (i * 3+2))=some (.bool d.order):=by
   intro i hin
   obtain ⟨cs,hcell,htr⟩:=hi i (by omega)
   rw [zNq] at hcell
   obtain ⟨_,_,hat⟩:=World.cells?_some hcell
   obtain ⟨y0,y1,y2,n',_,_,g0,g1,g2⟩:=trod_struct3 Tryz.underlying73 htr
   rw [zGO] at g0
   rw [zDw] at g1
   rw [zLW] at g2
   obtain ⟨z0,e0,_,w0⟩:=DataW.trod_string Tryz.underlying9 g0
   obtain ⟨z1,e1,_,w1⟩:=DataW.trod_int Tryz.underlying42 g1
   obtain ⟨z2,e2,_⟩:=DataW.trod_bool Tryz.underlying4 g2
   refine ⟨⟨z0.data.toList,z1,z2⟩,by rw [Array.length_toList];exact w0,?_,?_,?_⟩
   ·have h:=hat 0 (by omega)
    rw [zCb,zBY e0] at h
    show _=some (rsv z0.data.toList)
    rw [rsv,zHj]
    exact h
   ·have h:=hat 1 (by omega)
    rw [zCb,zBY e1] at h
    exact h
   ·have h:=hat 2 (by omega)
    rw [zCb,zBY e2] at h
    exact h
  obtain ⟨l,h1,h2,h3⟩:=zIj W ad n hall
  refine ⟨some ad,n,c,l,hcs,by omega,fun h =>(by cases h),h2,by rw [zAe,h1],fun hn =>⟨ad,rfl,?_,fun j u hu =>?_⟩⟩
  ·obtain ⟨t,_,h4,_⟩:=hall 0 hn
   have:=zHJ h4
   rwa [zAN] at this
  ·obtain ⟨t,g1,g2⟩:=zIT l j u hu
   obtain ⟨q0,q1,q2⟩:=h3 _ t g1
   rcases g2 with ⟨hj,rfl⟩ | ⟨hj,rfl⟩ | ⟨hj,rfl⟩
   ·rw [show j / 3 * 3=j by omega] at q0;exact q0
   ·rw [show j / 3 * 3+1=j by omega] at q1;exact q1
   ·rw [show j / 3 * 3+2=j by omega] at q2;exact q2
theorem zFH {H:Type} {enc:TypeId×Value→H} {P:Program} {w:World} {base:Nat} {spare:Nat→Bool} {held:Bool} {t:TypeId} {f0 f1 f2 f3 f4 f5 f6:Field} {fuel:Nat} {cs:List Value} {x:DataW H×List MemPlace} (ht:P.underlying t=some (.struct #[f0,f1,f2,f3,f4,f5,f6])) (h:DataW.trod enc P w base spare held fuel t cs=some x) :
  ∃ y0 y1 y2 y3 y4 y5 y6 n,cs.length=P.cellsOf t∧DataW.trod enc P w base spare held n f0.type ((cs.drop f0.offset).take (P.cellsOf f0.type))=some y0∧DataW.trod enc P w base spare held n f1.type ((cs.drop f1.offset).take (P.cellsOf f1.type))=some y1∧DataW.trod enc P w base spare held n f2.type ((cs.drop f2.offset).take (P.cellsOf f2.type))=some y2∧DataW.trod enc P w base spare held n f3.type ((cs.drop f3.offset).take (P.cellsOf f3.type))=some y3∧DataW.trod enc P w base spare held n f4.type ((cs.drop f4.offset).take (P.cellsOf f4.type))=some y4∧DataW.trod enc P w base spare held n f5.type ((cs.drop f5.offset).take (P.cellsOf f5.type))=some y5∧DataW.trod enc P w base spare held n f6.type ((cs.drop f6.offset).take (P.cellsOf f6.type))=some y6:=by
 obtain ⟨xs,n,_,rfl,hl,hlen,hf⟩:=DataW.trod_struct ht h
 match xs,hlen with
 | [y0,y1,y2,y3,y4,y5,y6],_ =>exact ⟨y0,y1,y2,y3,y4,y5,y6,n,hl,by simpa using hf 0 f0 rfl,by simpa using hf 1 f1 rfl,by simpa using hf 2 f2 rfl,by simpa using hf 3 f3 rfl,by simpa using hf 4 f4 rfl,by simpa using hf 5 f5 rfl,by simpa using hf 6 f6 rfl⟩
theorem zJF {H:Type} {enc:TypeId×Value→H} {W:World} {fuel:Nat} {cs:List Value} {x:DataW H×List MemPlace} (hf:DataW.trod enc Tryz.prog W 0 (fun _ =>true) true fuel 45 cs=some x) :
  ∃ (r:Rc) (A:Option Addr) (n c:Nat) (l:List Dp),cs=(zAR r A n c).toList∧n≤maxLen∧(A=none→c=0)∧Fits r l∧zAE W W.heap.size 3 A n (dps l):=by
 obtain ⟨y0,y1,y2,y3,y4,y5,y6,n',hl,g0,g1,g2,g3,g4,g5,g6⟩:=zFH Tryz.underlying45 hf
 rw [zNp] at hl
 rw [zNt] at g0
 rw [zGO] at g1
 rw [zDw] at g2
 rw [zLk] at g3
 rw [zDw] at g4
 rw [zDw] at g5
 rw [zGO] at g6
 obtain ⟨z0,e0,_,w0⟩:=DataW.trod_int Tryz.underlying3 g0
 obtain ⟨z1,e1,_,w1⟩:=DataW.trod_string Tryz.underlying9 g1
 obtain ⟨z2,e2,_,w2⟩:=DataW.trod_int Tryz.underlying42 g2
 obtain ⟨A,n,c,l,e3,hn,hA,hd,hr⟩:=zKb g3
 obtain ⟨z4,e4,_,w4⟩:=DataW.trod_int Tryz.underlying42 g4
 obtain ⟨z5,e5,_,w5⟩:=DataW.trod_int Tryz.underlying42 g5
 obtain ⟨z6,e6,_,w6⟩:=DataW.trod_string Tryz.underlying9 g6
 refine ⟨⟨z0,z1.data.toList,z2,z4,z5,z6.data.toList⟩,A,n,c,l,?_,hn,hA,⟨by rw [Array.length_toList];exact w1,by rw [Array.length_toList];exact w6,hd⟩,hr⟩
 match cs,hl with
 | [c0,c1,c2,c3,c4,c5,c6],_ =>
  have f0:=zBY e0
  have f1:=zBY e1
  have f2:=zBY e2
  have f3:=zBY e3
  have f4:=zBY e4
  have f5:=zBY e5
  have f6:=zBY e6
  simp at f0 f1 f2 f3 f4 f5 f6
  subst f0 f1 f2 f3 f4 f5 f6
  unfold zAR
  simp only [zHj]
theorem wf64 {z:Int} (h:(Lit.int .u64 z).wf=true):0≤z∧z<18446744073709551616:=by
 have hx:0≤z∧z≤18446744073709551615:=by simpa [Lit.wf,IntKind.min,IntKind.max,IntKind.signed,IntKind.bits] using h
 omega
theorem zLe {H:Type} {enc:TypeId×Value→H} {W:World} {fuel:Nat} {A:Option Addr} {n c:Nat} {l:List Dp} {x:DataW H×List MemPlace} (hf:DataW.trod enc Tryz.prog W 0 (fun _ =>true) true fuel 43 [.slice A n c]=some x) (hr:zAE W W.heap.size 3 A n (dps l)):∀ d ∈ l,0≤d.hash∧d.hash<18446744073709551616:=by
 have hln:l.length=n:=by have:=hr.1;rw [zAe] at this;omega
 rcases Go.Deep.open_slice Tryz.underlying43 hf with ⟨hcs,_⟩ | ⟨ad,n',c',m,k,D,Pl,hcs,_,hl,hmx,hm,_,hi⟩
 ·have h1:n=0:=by injection hcs with h1;injection h1
  intro d hd
  have:l=[]:=List.eq_nil_of_length_eq_zero (by omega)
  rw [this] at hd
  cases hd
 ·obtain ⟨rfl,rfl,rfl⟩:A=some ad∧n=n'∧c=c':=by
   injection hcs with h1 _
   injection h1 with h2 h3 h4
   exact ⟨h2,h3,h4⟩
  intro d hd
  obtain ⟨i,hlt,hid⟩:=List.mem_iff_getElem.1 hd
  have hid':l[i]? = some d:=by rw [List.getElem?_eq_getElem hlt,hid]
  obtain ⟨_,g,_⟩:=zBI l i d hid'
  obtain ⟨ad',hae,_,hc⟩:=hr.2 (by omega)
  obtain rfl:ad=ad':=Option.some.inj hae
  have hcell:=hc _ _ g
  have hnm:n≤m:=by rw [hm];simp;exact hl
  obtain ⟨cs,hcs2,htr⟩:=hi i (by omega)
  rw [zNq] at hcs2
  obtain ⟨_,_,hat⟩:=World.cells?_some hcs2
  obtain ⟨y0,y1,y2,nn,_,_,g0,g1,g2⟩:=trod_struct3 Tryz.underlying73 htr
  rw [zGO] at g0
  rw [zDw] at g1
  rw [zLW] at g2
  obtain ⟨z1,e1,_,w1⟩:=DataW.trod_int Tryz.underlying42 g1
  have h:=hat 1 (by omega)
  rw [zCb,zBY e1] at h
  have h2:some (Value.int .u64 z1)=some (Value.int .u64 d.hash):=h.symm.trans hcell
  injection h2 with h3
  injection h3 with _ h4
  rw [← h4]
  exact wf64 w1
theorem zJD {H:Type} {enc:TypeId×Value→H} {W:World} {fuel:Nat} {r:Rc} {A:Option Addr} {n c:Nat} {l:List Dp} {x:DataW H×List MemPlace} (hf:DataW.trod enc Tryz.prog W 0 (fun _ =>true) true fuel 45 (zAR r A n c).toList=some x) (hr:zAE W W.heap.size 3 A n (dps l)):Nums r l:=by
 obtain ⟨y0,y1,y2,y3,y4,y5,y6,n',hl,g0,g1,g2,g3,g4,g5,g6⟩:=zFH Tryz.underlying45 hf
 rw [zNt] at g0
 rw [zGO] at g1
 rw [zDw] at g2
 rw [zLk] at g3
 rw [zDw] at g4
 rw [zDw] at g5
 obtain ⟨z2,e2,_,w2⟩:=DataW.trod_int Tryz.underlying42 g2
 obtain ⟨z4,e4,_,w4⟩:=DataW.trod_int Tryz.underlying42 g4
 obtain ⟨z5,e5,_,w5⟩:=DataW.trod_int Tryz.underlying42 g5
 have f2:Value.int .u64 r.rule=.int .u64 z2:=Option.some.inj (zBY e2)
 have f4:Value.int .u64 r.out=.int .u64 z4:=Option.some.inj (zBY e4)
 have f5:Value.int .u64 r.time=.int .u64 z5:=Option.some.inj (zBY e5)
 injection f2 with _ f2
 injection f4 with _ f4
 injection f5 with _ f5
 refine ⟨by rw [f2];exact wf64 w2,by rw [f4];exact wf64 w4,by rw [f5];exact wf64 w5,zLe (A:=A) (n:=n) (c:=c) g3 hr⟩
theorem zJx {H:Type} {enc:TypeId×Value→H} {W:World} {v:Value} {d:DataW H} {ps:List MemPlace} {r0:Reach} {b0:Nat} (hval:Value.okWide Tryz.prog W r0 b0 22 v) (hd:DataW.Trod enc Tryz.prog W 0 (fun _ =>true) true 22 v d ps) :
  ∃ (A:Option Addr) (n c:Nat) (xs:List Rw),v=.slice A n c∧n≤maxLen∧(A=none→c=0)∧(∀ x ∈ xs,Fits x.r x.l∧x.n≤maxLen∧Nums x.r x.l)∧Recs W W.heap.size A n xs:=by
 obtain ⟨A0,n0,c0,rfl⟩:=okWide_slice Tryz.underlying22 hval
 obtain ⟨fuel,hf⟩:=hd
 rcases Go.Deep.open_slice Tryz.underlying22 hf with ⟨hcs,_⟩ | ⟨ad,n,c,m,k,D,Pl,hcs,_,hl,hmx,hm,_,hi⟩
 ·have e:Value.slice A0 n0 c0=.slice none 0 0:=by simpa [Value.cells] using hcs
  exact ⟨none,0,0,[],e,by omega,fun _ =>rfl,by simp,Recs.nil _ _ _⟩
 ·have hnm:n≤m:=by rw [hm];simp;exact hl
  have e:Value.slice A0 n0 c0=.slice (some ad) n c:=by simpa [Value.cells] using hcs
  have hall:∀ i,i<n→∃ x:Rw,(((Fits x.r x.l∧x.n≤maxLen∧Nums x.r x.l)∧(zAE W W.heap.size 3 x.A x.n (dps x.l)∧(x.A=none→x.c=0))))∧∀ k u,x.cells[k]? = some u→W.cell? (ad.add (i * 7+k))=some u:=by
   intro i hin
   obtain ⟨cs,hcell,htr⟩:=hi i (by omega)
   rw [zNp] at hcell
   obtain ⟨_,_,hat⟩:=World.cells?_some hcell
   obtain ⟨r,A,n',c',l,rfl,h2,h3,h4,h5⟩:=zJF htr
   refine ⟨⟨r,A,n',c',l⟩,⟨⟨h4,h2,zJD htr h5⟩,h5,h3⟩,fun k u hu =>?_⟩
   have hk:k<7:=(List.getElem?_eq_some_iff.1 hu).1
   have h:=hat k (by omega)
   rw [zCb] at h
   rw [h]
   exact hu
  obtain ⟨xs,h1,h2,h3⟩:=zIK W ad _ n hall
  refine ⟨some ad,n,c,xs,e,by omega,fun h =>(by cases h),fun x hx =>(h2 x hx).1,⟨by rw [zFm,h1],fun hn =>⟨ad,rfl,?_,fun j u hu =>?_⟩⟩,fun x hx =>(h2 x hx).2⟩
  ·obtain ⟨x,_,h4⟩:=hall 0 hn
   have:=zHJ (h4 0 _ rfl)
   rwa [zAN] at this
  ·obtain ⟨x,g1,g2⟩:=zHz xs j u hu
   have:=h3 _ x g1 _ u g2
   rwa [show j / 7 * 7+j % 7=j by omega] at this
def zAL (ver:Int):List (List UInt8)→List Rw→List (List UInt8)
 | _,[] =>[]
 | tl,x :: xs =>payL ver tl x.r x.l++zAL ver (tabT ver tl x.r x.l) xs
def zAb (ver:Int) (tl:List (List UInt8)) (xs:List Rw):List (List UInt8):=xs.foldl (fun t x =>tabT ver t x.r x.l) tl
theorem zDS (ver:Int) (tl:List (List UInt8)) (xs:List Rw) (x:Rw):zAb ver tl (xs++[x])=tabT ver (zAb ver tl xs) x.r x.l:=by
 unfold zAb
 rw [List.foldl_append]
 rfl
theorem zDd (ver:Int):∀ (tl:List (List UInt8)) (xs ys:List Rw),zAL ver tl (xs++ys)=zAL ver tl xs++zAL ver (zAb ver tl xs) ys
 | tl,[],ys =>rfl
 | tl,x :: xs,ys =>by
  show payL ver tl x.r x.l++zAL ver _ (xs++ys)=(payL ver tl x.r x.l++zAL ver _ xs)++_
  rw [zDd ver _ xs ys,List.append_assoc]
  rfl
theorem zCj (ver:Int) (tl:List (List UInt8)) (xs:List Rw) (x:Rw):zAL ver tl (xs++[x])=zAL ver tl xs++payL ver (zAb ver tl xs) x.r x.l:=by
 rw [zDd]
 show _++(payL ver _ x.r x.l++[])=_
 rw [List.append_nil]
theorem zKo {ver:Int} {tl:List (List UInt8)} {xs:List Rw} {i:Nat} {x:Rw} (h:xs[i]? = some x):zAL ver tl xs=zAL ver tl (xs.take i)++(payL ver (zAb ver tl (xs.take i)) x.r x.l++zAL ver (zAb ver tl (xs.take (i+1))) (xs.drop (i+1))):=by
 obtain ⟨hlt,hx⟩:=List.getElem?_eq_some_iff.1 h
 have h1:xs=xs.take (i+1)++xs.drop (i+1):=(List.take_append_drop _ _).symm
 have h2:xs.take (i+1)=xs.take i++[x]:=by rw [List.take_add_one,h];rfl
 have h3:zAL ver tl xs=zAL ver tl (xs.take (i+1))++zAL ver (zAb ver tl (xs.take (i+1))) (xs.drop (i+1)):=by
  rw [← zDd,← h1]
 rw [h3]
 conv =>lhs;lhs;rw [h2,zCj]
 rw [List.append_assoc]
theorem zFv {ver:Int} {tl:List (List UInt8)} {xs:List Rw} {i:Nat} {x:Rw} (h:xs[i]? = some x):(zAL ver tl (xs.take (i+1))).length=(zAL ver tl (xs.take i)).length+(payL ver (zAb ver tl (xs.take i)) x.r x.l).length∧zAb ver tl (xs.take (i+1))=tabT ver (zAb ver tl (xs.take i)) x.r x.l:=by
 have h2:xs.take (i+1)=xs.take i++[x]:=by rw [List.take_add_one,h];rfl
 rw [h2,zCj,zDS,List.length_append]
 exact ⟨rfl,rfl⟩
theorem zEb {ver:Int}:∀ (xs:List Rw) (tl:List (List UInt8)),(∀ x ∈ xs,MayP ver x.r x.l)→(zAb ver tl xs).length≤tl.length+18 * xs.length
 | [],tl,_ =>by unfold zAb;simp
 | x :: xs,tl,h =>by
  have h1:=zEb xs (tabT ver tl x.r x.l) (fun y hy =>h y (by simp [hy]))
  have h2:=zBb (tl:=tl) (h x (by simp))
  show (zAb ver (tabT ver tl x.r x.l) xs).length≤_
  rw [List.length_cons]
  omega
theorem zEt {ver:Int}:∀ (xs:List Rw) (tl:List (List UInt8)),(∀ x ∈ xs,MayP ver x.r x.l)→(zAL ver tl xs).length≤19 * xs.length
 | [],tl,_ =>by simp [zAL]
 | x :: xs,tl,h =>by
  have h1:=zEt xs (tabT ver tl x.r x.l) (fun y hy =>h y (by simp [hy]))
  have h2:=zCR (tl:=tl) (h x (by simp))
  show (payL ver tl x.r x.l++zAL ver _ xs).length≤_
  rw [List.length_append,List.length_cons]
  omega
abbrev W32:=BitVec 32
def poly:W32:=0xedb88320#32
def st (s:W32):W32:=if s.getLsbD 0 then (s >>> 1) ^^^ poly else s >>> 1
def stn:Nat→W32→W32
 | 0,s =>s
 | k+1,s =>stn k (st s)
theorem zEQ (a b:Nat) (s:W32):stn (a+b) s=stn b (stn a s):=by
 induction a generalizing s with
 | zero =>simp [stn]
 | succ a ih =>rw [Nat.succ_add];exact ih (st s)
theorem zPJ (a b:W32):st (a ^^^ b)=st a ^^^ st b:=by
 unfold st
 rw [BitVec.getLsbD_xor,BitVec.ushiftRight_xor_distrib]
 cases a.getLsbD 0 <;> cases b.getLsbD 0 <;> simp
 ·ac_rfl
 ·ac_rfl
 ·have:(a >>> 1 ^^^ poly ^^^ (b >>> 1 ^^^ poly))=a >>> 1 ^^^ b >>> 1 ^^^ (poly ^^^ poly):=by ac_rfl
  rw [this];simp
theorem zFk (k:Nat) (a b:W32):stn k (a ^^^ b)=stn k a ^^^ stn k b:=by
 induction k generalizing a b with
 | zero =>rfl
 | succ k ih =>rw [stn,zPJ,ih];rfl
theorem zJk (k:Nat) (a:W32) (hk:k≤32) (h:a.toNat<2 ^ (32 - k)):stn k (a <<< k)=a:=by
 induction k with
 | zero =>simp [stn]
 | succ k ih =>
  have e:a <<< (k+1)=(a <<< k) <<< 1:=BitVec.shiftLeft_add a k 1
  have hb:(a <<< k).getLsbD 31=false:=by
   rw [BitVec.getLsbD_shiftLeft]
   have:a.getLsbD (31 - k)=false:=by
    rw [BitVec.getLsbD,Nat.testBit_lt_two_pow]
    exact Nat.lt_of_lt_of_le h (Nat.pow_le_pow_right (by omega) (by omega))
   simp [this]
  have e2:st ((a <<< k) <<< 1)=a <<< k:=by
   unfold st
   have h0:((a <<< k) <<< 1).getLsbD 0=false:=by rw [BitVec.getLsbD_shiftLeft];simp
   rw [if_neg (by rw [h0];decide)]
   generalize a <<< k=b at hb
   apply BitVec.eq_of_getLsbD_eq
   intro i hi
   rw [BitVec.getLsbD_ushiftRight,BitVec.getLsbD_shiftLeft]
   by_cases h31:i=31
   ·subst h31;rw [hb];rfl
   ·have:1+i<32:=by omega
    simp [this,show 1+i - 1=i by omega]
  rw [e,stn,e2]
  exact ih (by omega) (Nat.lt_of_lt_of_le h (Nat.pow_le_pow_right (by omega) (by omega)))
def x32 (x:UInt8):W32:=BitVec.ofNat 32 x.toNat
theorem zDX (x:UInt8):(x32 x).toNat=x.toNat:=by
 simp [x32]
def up (s:W32) (x:UInt8):W32:=stn 8 (s ^^^ x32 x)
def ups (s:W32) (bs:List UInt8):W32:=bs.foldl up s
def ones:W32:=0xffffffff#32
def crc (bs:List UInt8):W32 := ~~~ (ups ones bs)
theorem zDI (s:W32) (a b:List UInt8):ups s (a++b)=ups (ups s a) b:=by simp [ups]
def tab:List Nat:=[0,498536548,997073096,651767980,1994146192,1802195444,1303535960,1342533948,3988292384,4027552580,3604390888,3412177804,2607071920,2262029012,2685067896,3183342108]
def tabN (i:Nat):Nat:=tab.getD i 0
def half (s:W32):W32:=(s >>> 4) ^^^ BitVec.ofNat 32 (tabN (s.toNat % 16))
theorem zPH:∀ j:Fin 16,stn 4 (BitVec.ofNat 32 j.val)=BitVec.ofNat 32 (tabN j.val):=by decide +kernel
theorem zJP (s:W32):half s=stn 4 s:=by
 have hj:s.toNat % 16<16:=Nat.mod_lt _ (by omega)
 have e:s=((s >>> 4) <<< 4) ^^^ BitVec.ofNat 32 (s.toNat % 16):=by
  apply BitVec.eq_of_getLsbD_eq
  intro i hi
  rw [BitVec.getLsbD_xor,BitVec.getLsbD_shiftLeft,BitVec.getLsbD_ushiftRight,BitVec.getLsbD_ofNat]
  have:(s.toNat % 16).testBit i=(decide (i<4) && s.getLsbD i):=by
   rw [show (16:Nat)=2 ^ 4 by rfl,Nat.testBit_mod_two_pow];rfl
  rw [this]
  by_cases h4:i<4
  ·simp [hi,h4]
  ·simp [hi,h4,show 4+(i - 4)=i by omega]
 have e2:stn 4 ((s >>> 4) <<< 4)=s >>> 4:=zJk 4 _ (by omega) (by
  rw [BitVec.toNat_ushiftRight,Nat.shiftRight_eq_div_pow]
  have:=s.isLt
  omega)
 have e3:=zPH ⟨s.toNat % 16,hj⟩
 unfold half
 conv =>rhs;rw [e,zFk,e2]
 rw [← e3]
theorem zKX (s:W32) (x:UInt8):half (half (s ^^^ x32 x))=up s x:=by
 rw [zJP,zJP,← zEQ];rfl
theorem zOa (s d:W32) (q:List UInt8):ups (s ^^^ d) q=ups s q ^^^ stn (8 * q.length) d:=by
 induction q generalizing s d with
 | nil =>simp [ups,stn]
 | cons x q ih =>
  have e:up (s ^^^ d) x=up s x ^^^ stn 8 d:=by
   unfold up
   rw [← zFk]
   congr 1
   ac_rfl
  show ups (up (s ^^^ d) x) q=ups (up s x) q ^^^ _
  rw [e,ih,← zEQ,List.length_cons]
  congr 2
  omega
theorem zJY (i:Nat) (hi:i<32):stn i (1#32 <<< i)=1#32:=zJk i 1#32 (by omega) (by
 have:2 ^ 1≤2 ^ (32 - i):=Nat.pow_le_pow_right (by omega) (by omega)
 exact Nat.lt_of_lt_of_le (by decide) this)
theorem zMr (s:W32) (bs:List UInt8) (j i:Nat) (y:UInt8) (hj:j<bs.length) (hi:i<8) (hy:x32 y=x32 bs[j] ^^^ (1#32 <<< i)) :
  ups s (bs.set j y)=ups s bs ^^^ stn (8 * bs.length - (8 * j+i)) 1#32:=by
 have hs:bs=bs.take j++bs[j] :: bs.drop (j+1):=by simp
 have ht:bs.set j y=bs.take j++y :: bs.drop (j+1):=by rw [List.set_eq_take_append_cons_drop,if_pos hj]
 rw [ht,zDI]
 conv =>rhs;arg 1;rw [hs,zDI]
 show ups (up _ y) _=ups (up _ bs[j]) _ ^^^ _
 have e:∀ r,up r y=up r bs[j] ^^^ stn (8 - i) 1#32:=by
  intro r
  unfold up
  rw [hy,← BitVec.xor_assoc,zFk]
  congr 1
  have:stn 8 (1#32 <<< i)=stn (i+(8 - i)) (1#32 <<< i):=by rw [show i+(8 - i)=8 by omega]
  rw [this,zEQ,zJY i (by omega)]
 rw [e,zOa,← zEQ]
 congr 2
 rw [List.length_drop]
 omega
def le4:List UInt8→W32
 | [] =>0#32
 | x :: q =>x32 x ^^^ (le4 q <<< 8)
theorem zIf:∀ q:List UInt8,q.length≤4→(le4 q).toNat<2 ^ (8 * q.length)
 | [],_ =>by simp [le4]
 | x :: q,h =>by
  have ih:=zIf q (by simp at h;omega)
  simp only [List.length_cons] at h
  have hx:=zDX x
  have hxl:=x.toNat_lt
  rw [le4,BitVec.toNat_xor,List.length_cons]
  apply Nat.xor_lt_two_pow
  ·rw [hx]
   exact Nat.lt_of_lt_of_le hxl (Nat.pow_le_pow_right (n:=2) (i:=8) (by omega) (by omega))
  ·rw [BitVec.toNat_shiftLeft,Nat.shiftLeft_eq]
   refine Nat.lt_of_le_of_lt (Nat.mod_le _ _) ?_
   rw [show 8 * (q.length+1)=8 * q.length+8 by omega,Nat.pow_add]
   omega
theorem zMB (s:W32) (c:List UInt8) (first k:Nat) (y:UInt8) (hk:k<32) (hat:first+k<8 * c.length) (hj:(first+k) / 8<c.length) (hy:x32 y=x32 c[(first+k) / 8] ^^^ (1#32 <<< ((first+k) % 8))) :
  ups s (c.set ((first+k) / 8) y)=ups s c ^^^ stn (8 * c.length - first) (1#32 <<< k):=by
 rw [zMr s c ((first+k) / 8) ((first+k) % 8) y hj (Nat.mod_lt _ (by omega)) hy]
 congr 1
 rw [show 8 * c.length - first=k+(8 * c.length - (first+k)) by omega,zEQ,zJY k hk]
 congr 1
 omega
theorem zMA (m k:Nat) (hk:k<32) (hm:m<2 ^ k):BitVec.ofNat 32 (m+2 ^ k)=BitVec.ofNat 32 m ^^^ (1#32 <<< k):=by
 apply BitVec.eq_of_getLsbD_eq
 intro i hi
 have h:=Nat.testBit_two_pow_mul_add 1 hm i
 rw [Nat.mul_one] at h
 rw [BitVec.getLsbD_xor,BitVec.getLsbD_shiftLeft,BitVec.getLsbD_ofNat,BitVec.getLsbD_ofNat,Nat.add_comm,h]
 by_cases hlt:i<k
 ·simp [hi,hlt]
 ·have hmi:m.testBit i=false:=Nat.testBit_lt_two_pow (Nat.lt_of_lt_of_le hm (Nat.pow_le_pow_right (by omega) (by omega)))
  by_cases he:i=k
  ·subst he;simp [hi,hmi]
  ·have h1:Nat.testBit 1 (i - k)=false:=Nat.testBit_lt_two_pow (by
    have:2 ^ 1≤2 ^ (i - k):=Nat.pow_le_pow_right (by omega) (by omega)
    omega)
   have h2:(1#32).getLsbD (i - k)=false:=by rw [BitVec.getLsbD_ofNat];simp [h1]
   simp [hlt,hmi,h1,h2]
def zEM (c0 c:List UInt8) (first k m:Nat):Prop:=c.length=c0.length∧m<2 ^ k∧ups ones c=ups ones c0 ^^^ stn (8 * c0.length - first) (BitVec.ofNat 32 m)
theorem zEM.keep {c0 c:List UInt8} {first k m:Nat} (h:zEM c0 c first k m):zEM c0 c first (k+1) m:=⟨h.1,by have:=h.2.1;rw [Nat.pow_succ];omega,h.2.2⟩
theorem zEM.turn {c0 c:List UInt8} {first k m:Nat} (h:zEM c0 c first k m) (hk:k<32) (hat:first+k<8 * c0.length) (y:UInt8) (hj:(first+k) / 8<c.length)
  (hy:x32 y=x32 c[(first+k) / 8] ^^^ (1#32 <<< ((first+k) % 8))):zEM c0 (c.set ((first+k) / 8) y) first (k+1) (m+2 ^ k):=by
 refine ⟨by rw [List.length_set];exact h.1,by have:=h.2.1;rw [Nat.pow_succ];omega,?_⟩
 rw [zMB ones c first k y hk (by rw [h.1];exact hat) hj hy,h.2.2,zMA m k hk h.2.1,zFk,h.1,BitVec.xor_assoc]
open Go.RowKit
def wv (s:W32):Value:=.int .u32 (s.toNat:Int)
def Laid (w:World):Prop:=∀ i,i<16→w.cell? ⟨0,i,none⟩=some (.int .u32 (tabN i:Int))
theorem zIO (s:W32) (c d i r:Nat) (hc:c=s.toNat) (hd:d=c / 16) (hi:i=c % 16) (hr:r=(half s).toNat) :
  bits .xor .u32 (d:Int) (tabN i:Int)=(r:Int):=by
 have hs:=s.isLt
 have ht:tabN i<4294967296:=by
  have:∀ j:Fin 16,tabN j.val<4294967296:=by decide
  exact this ⟨i,by omega⟩
 rw [u32_xor_nat d (tabN i) (by omega) ht,hr,half,BitVec.toNat_xor,BitVec.toNat_ushiftRight,BitVec.toNat_ofNat,Nat.shiftRight_eq_div_pow,hd,hc,hi,hc]
 rw [hi,hc] at ht
 rw [Nat.mod_eq_of_lt (a:=tabN (s.toNat % 16)) ht]
theorem zNw (c:Nat) (hc:c<4294967296):bits .and .u32 (c:Int) 15=((c % 16:Nat):Int):=by
 refine (u32_and_nat c 15 hc (by omega)).trans ?_
 congr 1
 exact Nat.and_two_pow_sub_one_eq_mod c 4
theorem zNH (s:W32):bits .xor .u32 IntKind.u32.max ((s.toNat:Nat):Int)=(((~~~ s).toNat:Nat):Int):=by
 refine (u32_xor_nat 4294967295 s.toNat (by omega) s.isLt).trans ?_
 have:(BitVec.allOnes 32 ^^^ s).toNat=4294967295 ^^^ s.toNat:=by rw [BitVec.toNat_xor];rfl
 rw [← this,BitVec.allOnes_xor]
def PRow (w:World) (B:Nat) (v:Value) (bs:List UInt8):Prop:=∃ A n c,v=.slice A n c∧n≤c∧n≤1073741824∧zAE w B 1 A n (bs.map bv)
def zEn (w:World) (B:Nat) (vs:List Value) (ps:List (List UInt8)):Prop:=vs.length=ps.length∧∀ (i:Nat) (v:Value),vs[i]? = some v→∃ bs:List UInt8,ps[i]? = some bs∧PRow w B v bs
def IRel (s:W32) (bs:List UInt8) (w:World) (v idx:Value) (wr:World):Prop:=∃ j,j≤bs.length∧idx=.int .i64 (j:Int)∧v=wv (ups s (bs.take j))∧w=wr
def ORel (ps:List (List UInt8)) (w:World) (v idx:Value) (wr:World):Prop:=∃ j,j≤ps.length∧idx=.int .i64 (j:Int)∧v=wv (ups ones (ps.take j).flatten)∧w=wr
theorem zNs {bs:List UInt8} {i:Nat} {u:Value} (h:(bs.map bv)[i]? = some u):∃ x,u=.int .u8 (x.toNat:Int)∧bs[i]? = some x:=by
 rw [List.getElem?_map] at h
 obtain ⟨x,hx,rfl⟩:=Option.map_eq_some_iff.1 h
 exact ⟨x,rfl,hx⟩
theorem zOe (L:Option Addr) (m d:Nat) (vs:List Value) (ps:List (List UInt8)) (hm:m≤1073741824) (w:World) (hl:Laid w) (hr:zAE w w.heap.size 1 L m vs) (hp:zEn w w.heap.size vs ps) :
  Calls Tryz.prog 41 #[.slice L m d] w fun e w' =>e=.returned (wv (crc ps.flatten))∧w=w':=by
 have hml:ps.length=m:=by have:=hr.1;have:=hp.1;omega
 have HML:=yh hml
 have HP:=yh hp
 have HL:=yh hl
 clear hml hp hl
 go_enter Tryz.func41,Tryz.ntmps41
 go_wp2
 go_loopw [3,10] (fun v idx wr =>ORel ps w v idx wr) (fun v idx wr =>m - (intOf idx).toNat)
 case atStart =>exact ⟨0,by omega,rfl,rfl,rfl⟩
 case round =>
  obtain ⟨i,hi,rfl,rfl,rfl⟩:=hrel
  rw [HML.out] at hi
  by_cases hlt:i<m
  ·obtain ⟨ad,u,rfl,hadb,hx,hcell⟩:=hr.at_ hlt
   obtain ⟨bs,hbs,A,n,c,rfl,hnc,hnb,hrb⟩:=HP.out.2 i u hx
   have hbn:bs.length=n:=by have:=hrb.1;simpa using this
   have HBS:=yh hbs
   have HX:=yh hx
   clear hbs hx
   go_wp2
   obtain ⟨s0,hs0⟩:∃ s0,s0=ups ones (ps.take i).flatten:=⟨_,rfl⟩
   rw [← hs0]
   have HS0:=yh hs0
   clear hs0
   go_loopw [3,16] (fun v idx wr =>IRel s0 bs w v idx wr) (fun v idx wr =>n - (intOf idx).toNat)
   case atStart =>exact ⟨0,by omega,rfl,rfl,rfl⟩
   case round =>
    obtain ⟨j,hj,rfl,rfl,rfl⟩:=hrel
    by_cases hjn:j<n
    ·obtain ⟨adx,u,rfl,hadx,hy,hcx⟩:=hrb.at_ hjn
     obtain ⟨x,rfl,hxj⟩:=zNs hy
     obtain ⟨s1,hs1⟩:∃ s1,s1=ups s0 (bs.take j):=⟨_,rfl⟩
     have e1:up s1 x=ups s0 (bs.take (j+1)):=by rw [hs1,List.take_add_one,hxj,zDI];rfl
     rw [← hs1]
     have E1:=yh e1
     clear hs1 hxj hy e1
     obtain ⟨a,ha⟩:∃ a,a=s1.toNat:=⟨_,rfl⟩
     obtain ⟨c1,hc1⟩:∃ c1,c1=(s1 ^^^ x32 x).toNat:=⟨_,rfl⟩
     obtain ⟨c2,hc2⟩:∃ c2,c2=(half (s1 ^^^ x32 x)).toNat:=⟨_,rfl⟩
     obtain ⟨c3,hc3⟩:∃ c3,c3=(half (half (s1 ^^^ x32 x))).toNat:=⟨_,rfl⟩
     obtain ⟨b,hb⟩:∃ b,b=x.toNat:=⟨_,rfl⟩
     have hb256:b<256:=by rw [hb];exact x.toNat_lt
     have ha32:a<4294967296:=by rw [ha];exact s1.isLt
     have hc132:c1<4294967296:=by rw [hc1];exact (s1 ^^^ x32 x).isLt
     have hc232:c2<4294967296:=by rw [hc2];exact (half (s1 ^^^ x32 x)).isLt
     have k1:IntKind.u32.wrap (b:Int)=(b:Int):=by rw [IntKind.wrap_u32'];omega
     have k2:bits .xor .u32 (a:Int) (b:Int)=(c1:Int):=by rw [u32_xor_nat a b ha32 (by omega),hc1,BitVec.toNat_xor,zDX,ha,hb]
     obtain ⟨d1,hd1⟩:∃ d1,d1=c1 / 16:=⟨_,rfl⟩
     obtain ⟨i1,hi1⟩:∃ i1,i1=c1 % 16:=⟨_,rfl⟩
     obtain ⟨d2,hd2⟩:∃ d2,d2=c2 / 16:=⟨_,rfl⟩
     obtain ⟨i2,hi2⟩:∃ i2,i2=c2 % 16:=⟨_,rfl⟩
     have k3:(c1:Int) / 16=(d1:Int):=by omega
     have k4:bits .and .u32 (c1:Int) 15=(i1:Int):=by rw [zNw c1 hc132,hi1]
     have k5:bits .xor .u32 (d1:Int) (tabN i1:Int)=(c2:Int):=zIO _ c1 d1 i1 c2 hc1 hd1 hi1 hc2
     have k6:(c2:Int) / 16=(d2:Int):=by omega
     have k7:bits .and .u32 (c2:Int) 15=(i2:Int):=by rw [zNw c2 hc232,hi2]
     have k8:bits .xor .u32 (d2:Int) (tabN i2:Int)=(c3:Int):=zIO _ c2 d2 i2 c3 hc2 hd2 hi2 hc3
     have l1:=HL.out i1 (by omega)
     have l2:=HL.out i2 (by omega)
     have hi116:i1<16:=by omega
     have hi216:i2<16:=by omega
     have hv:wv s1=.int .u32 (a:Int):=by rw [wv,ha]
     have hv3:wv (up s1 x)=.int .u32 (c3:Int):=by rw [wv,← zKX,hc3]
     rw [hv]
     have HV3:=yh hv3
     rw [← hb] at hcx
     clear hv hv3 ha hc1 hc2 hc3 hb hd1 hd2 hi1 hi2 ha32 hc132 hc232
     generalize tabN i1=t1 at k5 l1
     generalize tabN i2=t2 at k8 l2
     go_wp2
     clear k1 k2 k3 k4 k5 k6 k7 k8 l1 l2
     exact ⟨⟨j+1,by omega,by go_num,by rw [← E1.out,HV3.out],rfl⟩,by simp [intOf];omega⟩
    ·obtain rfl:j=n:=by omega
     have hall:bs.take j=bs:=List.take_of_length_le (by omega)
     have e1:ups s0 (bs.take j)=ups ones (ps.take (i+1)).flatten:=by
      rw [hall,HS0.out,← zDI,List.take_add_one,HBS.out]
      simp
     rw [e1]
     have HN:=yh hbn
     clear e1 hall hbn
     generalize hq:wv (ups ones (ps.take (i+1)).flatten)=q
     have HQ:=yh hq
     clear hq
     go_wp2
     exact ⟨⟨i+1,by rw [HML.out];omega,by go_num,HQ.out.symm,rfl⟩,by simp [intOf];omega⟩
  ·obtain rfl:i=m:=by omega
   have hall:ps.take i=ps:=List.take_of_length_le (by rw [HML.out];omega)
   rw [hall]
   have hf:bits .xor .u32 IntKind.u32.max ((ups ones ps.flatten).toNat:Int)=((crc ps.flatten).toNat:Int):=zNH _
   clear hall
   obtain ⟨a,ha⟩:∃ a,a=(ups ones ps.flatten).toNat:=⟨_,rfl⟩
   rw [← ha] at hf
   have hv:wv (ups ones ps.flatten)=.int .u32 (a:Int):=by rw [wv,ha]
   rw [hv]
   have HV:Hid (wv (crc ps.flatten)=.int .u32 ((crc ps.flatten).toNat:Int)):=yh rfl
   obtain ⟨z,hz⟩:∃ z,z=(crc ps.flatten).toNat:=⟨_,rfl⟩
   rw [← hz] at hf HV
   clear hv ha hz
   go_wp2
   go_ret
   exact ⟨HV.out.symm▸rfl,rfl⟩
theorem zFQ (W:World) (e:TypeId) (bs:List UInt8) (fr:Nat×Nat):zAE (W.alloc (.cells (bs.map bv).toArray e fr)) (W.heap.size+1) 1 (some ⟨W.heap.size,0,none⟩) bs.length (bs.map bv) :=
 ⟨by simp,fun _ =>⟨_,rfl,by simp,fun j u hu =>by
  have h0:Addr.add ⟨W.heap.size,0,none⟩ j=⟨W.heap.size,j,none⟩:=by
   unfold Addr.add
   split
   ·rename_i h;rw [h]
   ·simp
  rw [h0]
  simp only [World.cell?,World.alloc,Array.getElem?_push_size]
  simpa using hu⟩⟩
theorem Laid.below {w w':World} (h:Laid w) (hb:Below w.heap.size w w'):Laid w':=fun i hi =>by
 have h1:=h i hi
 have h2:0<w.heap.size:=by
  rcases Nat.lt_or_ge 0 w.heap.size with hlt | hge
  ·exact hlt
  ·rw [World.cell?,Array.getElem?_eq_none hge] at h1
   cases h1
 exact (hb.cell (p:=⟨0,i,none⟩) h2).trans h1
theorem PRow.below {w w':World} {B:Nat} {v:Value} {bs:List UInt8} (h:PRow w B v bs) (hb:Below B w w'):PRow w' B v bs:=by
 obtain ⟨A,n,c,rfl,h1,h2,hr⟩:=h
 exact ⟨A,n,c,rfl,h1,h2,hr.below hb⟩
theorem PRow.more {w:World} {B B':Nat} {v:Value} {bs:List UInt8} (h:PRow w B v bs) (hB:B≤B'):PRow w B' v bs:=by
 obtain ⟨A,n,c,rfl,h1,h2,hr⟩:=h
 exact ⟨A,n,c,rfl,h1,h2,hr.more hB⟩
theorem zHE (W:World) (v:Value) (bs:List UInt8) (hl:Laid W) (hr:PRow W W.heap.size v bs) :
  Calls Tryz.prog 41 #[.slice (some ⟨W.heap.size,0,none⟩) 1 1] (W.alloc (.cells #[v] 25)) fun e w' =>e=.returned (wv (crc bs))∧W.alloc (.cells #[v] 25)=w':=by
 have hb:Below W.heap.size W (W.alloc (.cells #[v] 25)):=(Below.refl _ W).alloc (Nat.le_refl _) _
 have h:=zOe (some ⟨W.heap.size,0,none⟩) 1 1 [v] [bs] (by omega) (W.alloc (.cells #[v] 25)) (hl.below hb)
  ⟨rfl,fun _ =>⟨_,rfl,by simp,fun j u hu =>by
   cases j with
   | zero =>
    have hu':v=u:=by simpa using hu
    subst hu'
    simp [Addr.add]
   | succ j =>simp at hu⟩⟩
  ⟨rfl,fun i u hu =>by
   cases i with
   | zero =>
    have hu':v=u:=by simpa using hu
    subst hu'
    exact ⟨bs,rfl,(hr.below hb).more (by simp)⟩
   | succ i =>simp at hu⟩
 simpa using h
theorem zEn.below {w w':World} {B:Nat} {vs:List Value} {ps:List (List UInt8)} (h:zEn w B vs ps) (hb:Below B w w'):zEn w' B vs ps :=
 ⟨h.1,fun i v hv =>by
  obtain ⟨bs,h1,h2⟩:=h.2 i v hv
  exact ⟨bs,h1,h2.below hb⟩⟩
theorem zEn.more {w:World} {B B':Nat} {vs:List Value} {ps:List (List UInt8)} (h:zEn w B vs ps) (hB:B≤B'):zEn w B' vs ps :=
 ⟨h.1,fun i v hv =>by
  obtain ⟨bs,h1,h2⟩:=h.2 i v hv
  exact ⟨bs,h1,h2.more hB⟩⟩
theorem zOi (a x k:Nat) (ha:a<2 ^ k):a ^^^ (x * 2 ^ k)=a+x * 2 ^ k:=by
 apply Nat.eq_of_testBit_eq
 intro i
 have h:=Nat.testBit_two_pow_mul_add x ha i
 rw [Nat.add_comm a,Nat.mul_comm x,h,Nat.testBit_xor,Nat.mul_comm,Nat.testBit_mul_two_pow]
 by_cases hlt:i<k
 ·simp [hlt,show ¬ k≤i by omega]
 ·have:a.testBit i=false:=Nat.testBit_lt_two_pow (Nat.lt_of_lt_of_le ha (Nat.pow_le_pow_right (by omega) (by omega)))
  simp [hlt,this,show k≤i by omega]
theorem zBw (x:UInt8) (q:List UInt8) (h:q.length≤3):(le4 (x :: q)).toNat=x.toNat+(le4 q).toNat * 256:=by
 have h1:=zIf q (by omega)
 have h2:(le4 q).toNat<2 ^ 24:=Nat.lt_of_lt_of_le h1 (Nat.pow_le_pow_right (by omega) (by omega))
 have hx:=x.toNat_lt
 rw [le4,BitVec.toNat_xor,zDX,BitVec.toNat_shiftLeft,Nat.shiftLeft_eq,Nat.mod_eq_of_lt (by omega)]
 exact zOi x.toNat (le4 q).toNat 8 (by omega)
def nth (s:W32) (i:Nat):UInt8:=UInt8.ofNat (s.toNat / 2 ^ (8 * i) % 256)
def lb (s:W32):List UInt8:=[nth s 0,nth s 1,nth s 2,nth s 3]
theorem zPL (s:W32):le4 (lb s)=s:=by
 apply BitVec.eq_of_toNat_eq
 have hs:=s.isLt
 have e:∀ j,(nth s j).toNat=s.toNat / 2 ^ (8 * j) % 256:=fun j =>by simp [nth]
 rw [lb,zBw _ _ (by simp),zBw _ _ (by simp),zBw _ _ (by simp),zBw _ _ (by simp),e,e,e,e]
 simp [le4]
 omega
theorem zDU (s:W32):(lb s).length=4:=rfl
theorem zMZ (x:UInt8):UInt8.ofNat x.toNat=x:=by simp
theorem zPN (a b c d:UInt8):lb (le4 [a,b,c,d])=[a,b,c,d]:=by
 have ha:=a.toNat_lt
 have hb:=b.toNat_lt
 have hc:=c.toNat_lt
 have hd:=d.toNat_lt
 have h:(le4 [a,b,c,d]).toNat=a.toNat+256 * b.toNat+65536 * c.toNat+16777216 * d.toNat:=by
  rw [zBw _ _ (by simp),zBw _ _ (by simp),zBw _ _ (by simp),zBw _ _ (by simp)]
  simp [le4]
  omega
 have e:∀ (i:Nat) (x:UInt8),(le4 [a,b,c,d]).toNat / 2 ^ (8 * i) % 256=x.toNat→nth (le4 [a,b,c,d]) i=x:=fun i x hx =>by rw [nth,hx,zMZ]
 rw [lb,e 0 a (by rw [h];simp;omega),e 1 b (by rw [h];simp;omega),e 2 c (by rw [h];simp;omega),e 3 d (by rw [h];simp;omega)]
theorem zQF {t:List UInt8} (ht:t.length=4):lb (le4 t)=t:=by
 match t,ht with
 | [a,b,c,d],_ =>exact zPN a b c d
end Go.Proofs.YtoclafdidjpndaaGreatDoor
