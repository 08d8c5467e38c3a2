/- Texts of one proof. -/
import Derived.Test.YtoclafdidjpndaaGreatDoorMx34
set_option maxRecDepth 100000
set_option maxHeartbeats 8000000
namespace Go.Proofs.YtoclafdidjpndaaGreatDoor
open Go.RowKit
structure Adv (c d:Cu):Prop where
 ok:d.ok
 bs:d.bs=c.bs
 on:d.e=0→c.e=0∧c.at_≤d.at_
theorem Adv.refl {c:Cu} (h:c.ok):Adv c c:=⟨h,rfl,fun h =>⟨h,Nat.le_refl _⟩⟩
theorem Adv.trans {a b c:Cu} (h:Adv a b) (k:Adv b c):Adv a c:=⟨k.ok,k.bs.trans h.bs,fun e =>by
 obtain ⟨h1,h2⟩:=k.on e
 obtain ⟨h3,h4⟩:=h.on h1
 exact ⟨h3,by omega⟩⟩
theorem Adv.of_to {c d:Cu} (h:Cu.To c d):Adv c d:=⟨h.good,h.bs,fun e =>by
 refine ⟨?_,h.le⟩
 rcases Classical.em (c.e=0) with h1 | h1
 ·exact h1
 ·have:=h.stay h1;rw [this] at e;exact absurd e h1⟩
theorem zBV {c:Cu} (h:c.ok):Adv c c.num.2:=.of_to (Cu.num_to h)
theorem zIS {c:Cu} (h:c.ok) (he:c.num.2.e=0):c.at_+1≤c.num.2.at_:=by
 have h0:=((zBV h).on he).1
 have h1:c.nuR.2.2=0:=by
  rcases Classical.em (c.nuR.2.2=0) with h1 | h1
  ·exact h1
  ·have e1:c.num=(0,{ c with e:=(c.nuR.2.2:Int) }):=by simp only [Cu.num,Cu.tk,h0,if_true,if_neg h1]
   rw [e1] at he
   have:(c.nuR.2.2:Int)=0:=he
   omega
 have e1:c.num=(c.nuR.1,{ c with at_:=c.nuR.2.1 }):=by simp only [Cu.num,Cu.tk,h0,h1,if_true]
 rw [e1]
 exact (Cu.nuR_in h h1).1
theorem zNO {c:Cu} (h:c.ok) (m:Int):Adv c (c.text m).2:=.of_to (Cu.text_to h m)
theorem zIQ (tl:List (List UInt8)) (n:Nat) {c:Cu} (h:c.ok):Adv c (dKn tl n c).2:=by
 unfold dKn
 split
 ·exact .refl h
 ·exact .of_to (Cu.fail_to h 1)
theorem zGI (ver:Int) (tl:List (List UInt8)) {c:Cu} (h:c.ok):Adv c (dNm ver tl c).2:=by
 unfold dNm
 split
 ·exact zNO h 64
 ·exact (zBV h).trans (zIQ tl _ (zBV h).ok)
theorem zPI (ver:Int) (tl:List (List UInt8)) {c:Cu} (h:c.ok):Adv c (dDp ver tl c).2∧((dDp ver tl c).2.e=0→c.at_+1≤(dDp ver tl c).2.at_):=by
 unfold dDp
 split
 ·have h1:=zGI ver tl h
  refine ⟨h1.trans (zBV h1.ok),fun e =>?_⟩
  have h2:=zIS h1.ok e
  have h3:=((zBV h1.ok).on e).1
  have h4:=(h1.on h3).2
  simp only at *
  omega
 ·have h0:=zBV h
  have h1:=zIQ tl (c.num.1 / 2) h0.ok
  refine ⟨(h0.trans h1).trans (zBV h1.ok),fun e =>?_⟩
  have h2:=zIS h1.ok e
  have h3:=((zBV h1.ok).on e).1
  have h4:=((h0.trans h1).on h3).2
  simp only at *
  omega
theorem zGT (ver:Int) (tl:List (List UInt8)) {c:Cu} (h:c.ok):∀ i,Adv c (dDs ver tl i ([],c)).2∧((dDs ver tl i ([],c)).2.e=0→i≤(dDs ver tl i ([],c)).2.at_∧(dDs ver tl i ([],c)).1.length=i)
 | 0 =>⟨.refl h,fun _ =>⟨Nat.zero_le _,rfl⟩⟩
 | i+1 =>by
  obtain ⟨h1,h2⟩:=zGT ver tl h i
  by_cases e0:(dDs ver tl i ([],c)).2.e=0
  ·have e:dDs ver tl (i+1) ([],c)=((dDs ver tl i ([],c)).1++[(dDp ver tl (dDs ver tl i ([],c)).2).1],(dDp ver tl (dDs ver tl i ([],c)).2).2):=if_pos e0
   rw [e]
   obtain ⟨h3,h4⟩:=zPI ver tl h1.ok
   refine ⟨h1.trans h3,fun e1 =>?_⟩
   have h5:=h4 e1
   have h6:=h2 e0
   simp only [List.length_append,List.length_singleton]
   omega
  ·have e:dDs ver tl (i+1) ([],c)=dDs ver tl i ([],c):=if_neg e0
   rw [e]
   exact ⟨h1,fun e1 =>absurd e1 e0⟩
theorem zIA (ver:Int) (tl:List (List UInt8)) (s:List Dp×Cu) {i:Nat} (he:(dDs ver tl i s).2.e≠0):∀ k,dDs ver tl (i+k) s=dDs ver tl i s
 | 0 =>rfl
 | k+1 =>by
  have h:=zIA ver tl s he k
  show (if (dDs ver tl (i+k) s).2.e=0 then _ else dDs ver tl (i+k) s)=_
  rw [h,if_neg he]
structure DpS (w0 W:World) (base:Nat) (va:Value) (l:List Dp) (b3 b7 db:Nat) (s:ByteArray) (a:Int) (T:Option Addr) (n k:Nat) (nm:ByteArray) (h:Int) (o:Bool):Prop where
 x3:W.heap[b3]? = some (.cells #[.string s,.int .i64 a,.slice T n k] 132 (0,0))
 x7:W.heap[b7]? = some (.cells #[.string ⟨#[]⟩,.int .i64 0,.slice none 0 0] 132 (0,0))
 xd:W.heap[db]? = some (.cells #[.string nm,.int .u64 h,.bool o] 73 (0,0))
 own:W.ownsRow base 73 3 va l.length (dps l)
 b:Below w0.heap.size w0 W
 h3:w0.heap.size≤b3
 hd:w0.heap.size≤db
 n37:b3≠b7
 n3d:b3≠db
 n7d:b7≠db
 o3:va.ownBlock≠some b3
 o7:va.ownBlock≠some b7
 od:va.ownBlock≠some db
section
variable {w0 W W':World} {base:Nat} {va:Value} {l:List Dp} {b3 b7 db:Nat} {s:ByteArray} {a:Int} {T:Option Addr} {n k:Nat} {nm:ByteArray} {h:Int} {o:Bool}
theorem zAj {o:Obj} (h:W.heap[b3]? = some o):b3<W.heap.size:=(Array.getElem?_eq_some_iff.1 h).1
theorem DpS.call (q:DpS w0 W base va l b3 b7 db s a T n k nm h o) (hb:Below W.heap.size W W'):DpS w0 W' base va l b3 b7 db s a T n k nm h o :=
 ⟨(hb.block b3 (zAj q.x3)).trans q.x3,(hb.block b7 (zAj q.x7)).trans q.x7,(hb.block db (zAj q.xd)).trans q.xd,zAF q.own hb,q.b.trans (hb.mono q.b.size),q.h3,q.hd,q.n37,q.n3d,q.n7d,q.o3,q.o7,q.od⟩
theorem DpS.walk (q:DpS w0 W base va l b3 b7 db s a T n k nm h o) (a':Int):DpS w0 (((W.setCell ⟨b3,0,none⟩ (.string s)).setCell ⟨b3,1,none⟩ (.int .i64 a')).setCell ⟨b3,2,none⟩ (.slice T n k)) base va l b3 b7 db s a' T n k nm h o :=
 ⟨zEN q.x3 _ _ _,(Below.heap_setCell _ _ _ _ q.n37.symm).trans ((Below.heap_setCell _ _ _ _ q.n37.symm).trans ((Below.heap_setCell _ _ _ _ q.n37.symm).trans q.x7)),(Below.heap_setCell _ _ _ _ q.n3d.symm).trans ((Below.heap_setCell _ _ _ _ q.n3d.symm).trans ((Below.heap_setCell _ _ _ _ q.n3d.symm).trans q.xd)),
  ownsRow_setCell_other (ownsRow_setCell_other (ownsRow_setCell_other q.own q.o3 _) q.o3 _) q.o3 _,((q.b.setCell (p:=⟨b3,0,none⟩) q.h3 _).setCell (p:=⟨b3,1,none⟩) q.h3 _).setCell (p:=⟨b3,2,none⟩) q.h3 _,q.h3,q.hd,q.n37,q.n3d,q.n7d,q.o3,q.o7,q.od⟩
theorem DpS.cell0 (q:DpS w0 W base va l b3 b7 db s a T n k nm h o) (x:ByteArray):DpS w0 (W.setCell ⟨db,0,none⟩ (.string x)) base va l b3 b7 db s a T n k x h o :=
 ⟨(Below.heap_setCell _ _ _ _ q.n3d).trans q.x3,(Below.heap_setCell _ _ _ _ q.n7d).trans q.x7,zAD q.xd 0 _,ownsRow_setCell_other q.own q.od _,q.b.setCell (p:=⟨db,0,none⟩) q.hd _,q.h3,q.hd,q.n37,q.n3d,q.n7d,q.o3,q.o7,q.od⟩
theorem DpS.cell1 (q:DpS w0 W base va l b3 b7 db s a T n k nm h o) (x:Int):DpS w0 (W.setCell ⟨db,1,none⟩ (.int .u64 x)) base va l b3 b7 db s a T n k nm x o :=
 ⟨(Below.heap_setCell _ _ _ _ q.n3d).trans q.x3,(Below.heap_setCell _ _ _ _ q.n7d).trans q.x7,zAD q.xd 1 _,ownsRow_setCell_other q.own q.od _,q.b.setCell (p:=⟨db,1,none⟩) q.hd _,q.h3,q.hd,q.n37,q.n3d,q.n7d,q.o3,q.o7,q.od⟩
theorem DpS.cell2 (q:DpS w0 W base va l b3 b7 db s a T n k nm h o) (x:Bool):DpS w0 (W.setCell ⟨db,2,none⟩ (.bool x)) base va l b3 b7 db s a T n k nm h x :=
 ⟨(Below.heap_setCell _ _ _ _ q.n3d).trans q.x3,(Below.heap_setCell _ _ _ _ q.n7d).trans q.x7,zAD q.xd 2 _,ownsRow_setCell_other q.own q.od _,q.b.setCell (p:=⟨db,2,none⟩) q.hd _,q.h3,q.hd,q.n37,q.n3d,q.n7d,q.o3,q.o7,q.od⟩
end
theorem zHq:(Tryz.prog.info? 132).map (·.size)=some 3:=by kernel_rfl
section
variable {w0 w:World} {base:Nat} {va:Value} {l:List Dp} {b3 b7 db:Nat} {s:ByteArray} {a:Int} {T:Option Addr} {n k:Nat} {nm:ByteArray} {h:Int} {o:Bool} {ops:Array Oper} {rest:List Oper} {op:Oper} {ac:Act} {Q:Exit→Act→World→Prop}
theorem zGh (q:DpS w0 w base va l b3 b7 db s a T n k nm h o) (hgd:op.guard=none) (x y:Operand) (ho:op.op=.store 9 x y) (hx:ac.eval x=.pointer (some ⟨db,0,none⟩)) (v:ByteArray) (hy:ac.eval y=.string v)
  (hK:∀ w',DpS w0 w' base va l b3 b7 db s a T n k v h o→wpList Tryz.prog ops Q rest (ac.put op.dst undef) w'):wpList Tryz.prog ops Q (op :: rest) ac w:=by
 refine wpList_plain hgd fun K hK' =>?_
 have hc:=zAA (i:=0) q.xd rfl
 have hf:w.frozen? ⟨db,0,none⟩=false:=zAC q.xd
 unfold Oper.wp execOp
 simp only [ho,hx,hy]
 go_simp
 exact hK' _ _ (hK _ (q.cell0 v))
theorem zGd (q:DpS w0 w base va l b3 b7 db s a T n k nm h o) (hgd:op.guard=none) (x y:Operand) (ho:op.op=.store 42 x y) (hx:ac.eval x=.pointer (some ⟨db,1,none⟩)) (v:Int) (hy:ac.eval y=.int .u64 v)
  (hK:∀ w',DpS w0 w' base va l b3 b7 db s a T n k nm v o→wpList Tryz.prog ops Q rest (ac.put op.dst undef) w'):wpList Tryz.prog ops Q (op :: rest) ac w:=by
 refine wpList_plain hgd fun K hK' =>?_
 have hc:=zAA (i:=1) q.xd rfl
 have hf:w.frozen? ⟨db,1,none⟩=false:=zAC q.xd
 unfold Oper.wp execOp
 simp only [ho,hx,hy]
 go_simp
 exact hK' _ _ (hK _ (q.cell1 v))
theorem zGN (q:DpS w0 w base va l b3 b7 db s a T n k nm h o) (hgd:op.guard=none) (x y:Operand) (ho:op.op=.store 4 x y) (hx:ac.eval x=.pointer (some ⟨db,2,none⟩)) (v:Bool) (hy:ac.eval y=.bool v)
  (hK:∀ w',DpS w0 w' base va l b3 b7 db s a T n k nm h v→wpList Tryz.prog ops Q rest (ac.put op.dst undef) w'):wpList Tryz.prog ops Q (op :: rest) ac w:=by
 refine wpList_plain hgd fun K hK' =>?_
 have hc:=zAA (i:=2) q.xd rfl
 have hf:w.frozen? ⟨db,2,none⟩=false:=zAC q.xd
 unfold Oper.wp execOp
 simp only [ho,hx,hy]
 go_simp
 exact hK' _ _ (hK _ (q.cell2 v))
theorem zGV (q:DpS w0 w base va l b3 b7 db s a T n k nm h o) (hgd:op.guard=none) (x y:Operand) (ho:op.op=.store 132 x y) (hx:ac.eval x=.pointer (some ⟨b3,0,none⟩)) (v:Int) (hy:ac.eval y=.agg #[.string s,.int .i64 v,.slice T n k])
  (hK:∀ w',DpS w0 w' base va l b3 b7 db s v T n k nm h o→wpList Tryz.prog ops Q rest (ac.put op.dst undef) w'):wpList Tryz.prog ops Q (op :: rest) ac w:=by
 refine wpList_plain hgd fun K hK' =>?_
 have hrow:(storeVar 132 ⟨b3,0,none⟩ (.agg #[.string s,.int .i64 v,.slice T n k])).run Tryz.prog w=.ok () (w.setCells b3 0 [.string s,.int .i64 v,.slice T n k]):=by
  have hs:=run_storeCells_cells (P:=Tryz.prog) b3 0 [.string s,.int .i64 v,.slice T n k] 0 w (fun j hj =>by
    have hj2:j<3:=hj
    simp [World.cell?,q.x3]
    omega) (fun j _ =>zAC q.x3) (by intro v hv;simp at hv;rcases hv with rfl | rfl | rfl <;> rfl)
  have hsz:=zHq
  cases hq:Tryz.prog.info? 132 with
  | none =>simp [hq] at hsz
  | some q9 =>
   have hs4:q9.size=3:=by simpa [hq] using hsz
   have hc:(Value.agg #[.string s,.int .i64 v,.slice T n k]).cells.toList=[.string s,.int .i64 v,.slice T n k]:=rfl
   have hcs:(Value.agg #[.string s,.int .i64 v,.slice T n k]).cells.size=3:=rfl
   simp [storeVar,sizeOf,typeInfo,hq,hcs,hs4,hc]
   simpa using hs
 unfold Oper.wp execOp
 simp only [ho,hx,hy,Instr.storeAt,Instr.sureAddr,Sem.run_bind,Sem.run_pure,Result.andThen_ok,hrow]
 exact hK' _ _ (hK _ (q.walk v))
end
theorem zLA (ver:Int) (c:Cu) (hok:c.ok) (hrm:c.bs.length≤100000) (m:Nat) (hm:m<18446744073709551616) (T:Option Addr) (n k:Nat) (tl:List (List UInt8)) (htn:n≤1000000) (w:World) (hr:zAE w w.heap.size 1 T n (tl.map tsv)) :
  Calls Tryz.prog 69 #[wkV c T n k,.int .i64 ver,.int .u64 (m:Int)] w fun e w' =>(∃ A c',e=.returned (.tuple #[.slice A (dDs ver tl m ([],c)).1.length c',wkV (dDs ver tl m ([],c)).2 T n k])∧(A=none→c'=0)∧w'.ownsRow w.heap.size 73 3 (.slice A (dDs ver tl m ([],c)).1.length c') (dDs ver tl m ([],c)).1.length (dps (dDs ver tl m ([],c)).1))∧Below w.heap.size w w':=by
 obtain ⟨i0,ii0,iz0,iz1,iz2⟩:=info_parts (show (Tryz.prog.info? 73).map (fun i =>(i.zero,i.size,i.bytes))=some (some (.agg #[.string ⟨#[]⟩,.int .u64 0,.bool false]),3,32) from by kernel_rfl)
 have HNM:Hid (∀ d:Cu,d.ok→d.bs=c.bs→∀ W,Below w.heap.size w W→Calls Tryz.prog 68 #[.agg #[.string (tx c.bs),.int .i64 (atV d),.slice T n k],.int .i64 ver] W fun e w' =>e=.returned (.tuple #[.string (tx (dNm ver tl d).1),.agg #[.string (tx c.bs),.int .i64 (atV (dNm ver tl d).2),.slice T n k]])∧Below W.heap.size W w'):=fun d hd hb W hW =>by
  have h1:=zJs ver d hd (by rw [hb];omega) T n k tl htn W ((hr.below hW).more hW.size)
  unfold wkV at h1
  rw [zET,hb] at h1
  exact h1
 have HNU:Hid (∀ d:Cu,d.ok→d.bs=c.bs→∀ W,Below w.heap.size w W→Calls Tryz.prog 67 #[.agg #[.string (tx c.bs),.int .i64 (atV d),.slice T n k]] W fun e w' =>e=.returned (.tuple #[.int .u64 (d.num.1:Int),.agg #[.string (tx c.bs),.int .i64 (atV d.num.2),.slice T n k]])∧Below W.heap.size W w'):=fun d hd hb W _ =>by
  have h1:=zGA d hd (by rw [hb];omega) T n k W
  unfold wkV at h1
  rw [zBJ,hb] at h1
  exact h1
 have HKN:Hid (∀ (d:Cu) (j:Nat),d.bs=c.bs→∀ W,Below w.heap.size w W→Calls Tryz.prog 70 #[.agg #[.string (tx c.bs),.int .i64 (atV d),.slice T n k],.int .u64 (j:Int)] W fun e w' =>e=.returned (.tuple #[.string (tx (dKn tl j d).1),.agg #[.string (tx c.bs),.int .i64 (atV (dKn tl j d).2),.slice T n k]])∧Below W.heap.size W w'):=fun d j hb W hW =>by
  have h1:=zGt d j T n k tl htn W ((hr.below hW).more hW.size)
  unfold wkV at h1
  rw [zEp,hb] at h1
  exact h1
 have HADV:=yh (zGT ver tl hok)
 have HSTK:=yh (fun i he =>@zIA ver tl ([],c) i he)
 have hb1:=(Below.refl w.heap.size w).alloc (Nat.le_refl _) (.cells #[.string (tx c.bs),.int .i64 (atV c),.slice T n k] 132)
 have hz1:(w.alloc (.cells #[.string (tx c.bs),.int .i64 (atV c),.slice T n k] 132)).heap.size=w.heap.size+1:=by simp
 have hb2:=hb1.alloc hb1.size (.cells #[.string ⟨#[]⟩,.int .i64 0,.slice none 0 0] 132)
 have h1:=zAG w (.cells #[.string (tx c.bs),.int .i64 (atV c),.slice T n k] 132)
 have h2:=zAG (w.alloc (.cells #[.string (tx c.bs),.int .i64 (atV c),.slice T n k] 132)) (.cells #[.string ⟨#[]⟩,.int .i64 0,.slice none 0 0] 132)
 rw [hz1] at h2
 have h1b:=(Below.heap_alloc (w.alloc (.cells #[.string (tx c.bs),.int .i64 (atV c),.slice T n k] 132)) (.cells #[.string ⟨#[]⟩,.int .i64 0,.slice none 0 0] 132) w.heap.size (by rw [hz1];omega)).trans h1
 obtain ⟨w2,hw2⟩:∃ x,x=(w.alloc (.cells #[.string (tx c.bs),.int .i64 (atV c),.slice T n k] 132)).alloc (.cells #[.string ⟨#[]⟩,.int .i64 0,.slice none 0 0] 132):=⟨_,rfl⟩
 have hz2:w2.heap.size=w.heap.size+2:=by rw [hw2];simp
 rw [← hw2] at hb2 h2 h1b
 have HW2:=yh hw2
 have ho3:=zJu w2 73
 have hb3:=hb2.alloc hb2.size (.cells #[] 73)
 have hx3:=(Below.heap_alloc w2 (.cells #[] 73) w.heap.size (by omega)).trans h1b
 have hx7:=(Below.heap_alloc w2 (.cells #[] 73) (w.heap.size+1) (by omega)).trans h2
 have ho3b:=zAY ho3 (show w.heap.size+2≤w2.heap.size by omega)
 obtain ⟨w3,hw3⟩:∃ x,x=w2.alloc (.cells #[] 73):=⟨_,rfl⟩
 have HW3:Hid (w3=((w.alloc (.cells #[.string (tx c.bs),.int .i64 (atV c),.slice T n k] 132)).alloc (.cells #[.string ⟨#[]⟩,.int .i64 0,.slice none 0 0] 132)).alloc (.cells #[] 73)):=(by show _=_;rw [hw3,hw2])
 have HV:Hid (w2.heap.size=w.heap.size+1+1):=(by show _=_;omega)
 rw [← hw3] at ho3b hb3 hx3 hx7
 have HO3:=yh ho3b
 have HB3:=yh hb3
 have HX3:=yh hx3
 have HX7:=yh hx7
 unfold wkV
 rw [zFd]
 simp only
 clear hb1 hz1 hb2 h1 h2 h1b hw2 hz2 ho3 hb3 hx3 hx7 ho3b hw3 hr
 go_enter Tryz.func69,Tryz.ntmps69
 go_wp2
 rw [← HW3.out]
 obtain ⟨b3,hb3⟩:∃ b3,b3=w.heap.size:=⟨_,rfl⟩
 obtain ⟨b7,hb7⟩:∃ b7,b7=w.heap.size+1:=⟨_,rfl⟩
 obtain ⟨b8,hb8⟩:∃ b8,b8=w.heap.size+1+1:=⟨_,rfl⟩
 have HB3E:=yh hb3
 have HB7E:=yh hb7
 have HB8E:=yh hb8
 rw [HV.out,← hb8] at HO3
 rw [← hb7] at HX7
 rw [← hb3] at HX3
 rw [← hb8,← hb7,← hb3]
 clear hb3 hb7 hb8
 go_loopw [9,8] (fun v9 vs wr =>∃ (i:Nat) (va:Value),i≤m∧v9=.int .u64 (i:Int)∧va=vs∧wr.ownsRow b8 73 3 va (dDs ver tl i ([],c)).1.length (dps (dDs ver tl i ([],c)).1)∧(dDs ver tl i ([],c)).1.length≤100001∧wr.heap[b3]? = some (.cells #[.string (tx c.bs),.int .i64 (atV (dDs ver tl i ([],c)).2),.slice T n k] 132 (0,0))∧wr.heap[b7]? = some (.cells #[.string ⟨#[]⟩,.int .i64 0,.slice none 0 0] 132 (0,0))∧Below w.heap.size w wr) (fun v9 _ _ =>m - (intOf v9).toNat)
 case atStart =>exact ⟨0,_,Nat.zero_le _,rfl,rfl,HO3.out,Nat.zero_le _,HX3.out,HX7.out,HB3.out⟩
 case round =>
  obtain ⟨i,va,hi,rfl,rfl,hown,hlen,hx3,hx7,hb⟩:=hrel
  obtain ⟨hadv,hin⟩:=HADV.out i
  obtain ⟨st,hst⟩:∃ st,st=dDs ver tl i ([],c):=⟨_,rfl⟩
  have HNEXT:Hid (st.2.e=0→dDs ver tl (i+1) ([],c)=(st.1++[(dDp ver tl st.2).1],(dDp ver tl st.2).2)):=fun he =>by rw [hst] at he ⊢;exact if_pos he
  have HSTOP:Hid (st.2.e≠0→dDs ver tl m ([],c)=st):=fun he =>by
   have h1:=HSTK.out i (by rw [← hst];exact he) (m - i)
   rw [show i+(m - i)=m by omega] at h1
   rw [h1,← hst]
  rw [← hst] at hown hlen hx3 hadv hin
  have HST:=yh hst
  have HX3R:=yh hx3
  have HX7R:=yh hx7
  have HBR:=yh hb
  have HOWN:=yh hown
  have HLEN:=yh hlen
  have HIN:=yh hin
  have HOKD:=yh hadv
  obtain ⟨sl,sc⟩:=st
  simp only at *
  have HI0:Hid (i≤m):=hi
  have HB8S:Hid (w.heap.size≤b8):=(by have:=HB8E.out;show _≤_;omega)
  by_cases he:sc.e=0
  ·have ha0:(0:Int)≤atV sc:=by unfold atV;rw [if_pos he];omega
   by_cases hlt:i<m
   ·obtain ⟨hsc,hln⟩:=hin he
    have HLN:Hid (sl.length≤100000):=(by have h1:=hadv.ok;have h2:=hadv.bs;unfold Cu.ok at h1;rw [h2] at h1;show _≤_;omega)
    have HI:Hid (i<m):=hlt
    have hN1:=HNEXT.out he
    have hlu:(i:Int)<(m:Int):=by omega
    have hw1:IntKind.u64.wrap ((i:Int)+1)=(i:Int)+1:=by rw [show IntKind.u64.wrap ((i:Int)+1)=((i:Int)+1) % 18446744073709551616 from rfl];omega
    have hbw:Below wr.heap.size wr (wr.alloc (.cells #[.string ⟨#[]⟩,.int .u64 0,.bool false] 73)):=(Below.refl _ _).alloc (Nat.le_refl _) _
    have hD:DpS w (wr.alloc (.cells #[.string ⟨#[]⟩,.int .u64 0,.bool false] 73)) b8 va sl b3 b7 wr.heap.size (tx c.bs) (atV sc) T n k ⟨#[]⟩ 0 false :=
     ⟨(hbw.block b3 (zAj hx3)).trans hx3,(hbw.block b7 (zAj hx7)).trans hx7,by exact zAG wr _,World.ownsRow.alloc hown _,hb.trans (hbw.mono hb.size),by have:=HB3E.out;omega,hb.size,by have h1:=HB3E.out;have h2:=HB7E.out;omega,by have:=zAj hx3;omega,by have:=zAj hx7;omega,fun e =>by have h1:=zAI hown _ e;have h2:=HB3E.out;have h3:=HB8E.out;omega,fun e =>by have h1:=zAI hown _ e;have h2:=HB7E.out;have h3:=HB8E.out;omega,fun e =>by have h1:=zAV hown _ e;omega⟩
    have g1r:=zAA (i:=1) hx3 rfl
    have g0:=zAA (i:=0) hD.x3 rfl
    have g1:=zAA (i:=1) hD.x3 rfl
    have g2:=zAA (i:=2) hD.x3 rfl
    have d0:=zAA (i:=0) hD.xd rfl
    have d1:=zAA (i:=1) hD.xd rfl
    have d2:=zAA (i:=2) hD.xd rfl
    have HE:Hid (sc.e=0):=he
    have HOK:Hid (sc.ok∧sc.bs=c.bs):=⟨hadv.ok,hadv.bs⟩
    clear hi hown hlen hx3 hx7 hb hadv hin hlt hbw hsc hln he
    obtain ⟨a0,ha0e⟩:∃ a0,a0=atV sc:=⟨_,rfl⟩
    rw [← ha0e] at hD g1 g1r ha0
    by_cases hv:ver<3
    ·obtain ⟨x,hx⟩:∃ x,x=dNm ver tl sc:=⟨_,rfl⟩
     have HNA:=zGI ver tl HOK.out.1
     rw [← hx] at HNA
     obtain ⟨hh,hhh⟩:∃ hh,hh=x.2.num.1:=⟨_,rfl⟩
     have HN:Hid (dDs ver tl (i+1) ([],c)=(sl++[⟨x.1,(hh:Int),false⟩],x.2.num.2)):=(by show _=_;rw [hN1];unfold dDp;rw [if_pos hv,← hx,← hhh])
     have HC1:=yh (fun W hW =>HNM.out sc HOK.out.1 HOK.out.2 W hW)
     rw [← hx,← ha0e] at HC1
     have HC2:=yh (fun W hW =>HNU.out x.2 HNA.ok (HNA.bs.trans HOK.out.2) W hW)
     rw [← hhh] at HC2
     obtain ⟨a1,ha1⟩:∃ a1,a1=atV x.2:=⟨_,rfl⟩
     obtain ⟨a2,ha2⟩:∃ a2,a2=atV x.2.num.2:=⟨_,rfl⟩
     have HA2:=yh ha2
     rw [← ha1,← ha2] at HC2
     rw [← ha1] at HC1
     obtain ⟨nm,hnm⟩:∃ nm,nm=x.1:=⟨_,rfl⟩
     rw [← hnm] at HC1 HN
     clear hx hhh hN1 HNA ha1 ha2 ha0e hnm
     go_wp2_with (first
      | (go_at_call 68;refine (HC1.out _ hD.b).mono ?_;rintro e xHC1 ⟨rfl,hbx⟩;replace hD:=hD.call hbx;clear g0 g1 g2 d0 d1 d2 hbx;have g0:=zAA (i:=0) hD.x3 rfl;have g1:=zAA (i:=1) hD.x3 rfl;have g2:=zAA (i:=2) hD.x3 rfl;have d0:=zAA (i:=0) hD.xd rfl;have d1:=zAA (i:=1) hD.xd rfl;have d2:=zAA (i:=2) hD.xd rfl)
      | (go_at_call 67;refine (HC2.out _ hD.b).mono ?_;rintro e xHC2 ⟨rfl,hbx⟩;replace hD:=hD.call hbx;clear g0 g1 g2 d0 d1 d2 hbx;have g0:=zAA (i:=0) hD.x3 rfl;have g1:=zAA (i:=1) hD.x3 rfl;have g2:=zAA (i:=2) hD.x3 rfl;have d0:=zAA (i:=0) hD.xd rfl;have d1:=zAA (i:=1) hD.xd rfl;have d2:=zAA (i:=2) hD.xd rfl)
      | (at_builtin;have HD9:=yh hD;refine zAX _ rfl (.tmp 56) (.tmp 58) 43 rfl b8 73 i0 _ 3 32 Tryz.underlying43 ii0 iz0 iz1 iz2 rfl (by decide) va _ _ rfl (World.ownsRow.alloc HD9.out.own _) _ 1 1 _ (dps [⟨nm,(hh:Int),false⟩]) rfl (by simp) (zEE _ ⟨nm,(hh:Int),false⟩) (fun u hu =>by simp [dps,Dp.cells,rsv] at hu;rcases hu with rfl | rfl | rfl <;> rfl) (by have:=HLEN.out;unfold maxLen;omega) (by have:=HLEN.out;omega) (by have h1:=zAj HD9.out.x7;have h2:=HB7E.out;have h3:=HB8E.out;simp only [World.size_alloc];omega) ?_;intro v6 w6 ho6 hg6 hv6;have HO6:=yh ho6;have HG6:=yh hg6;clear ho6 hg6 hv6 hD g0 g1 g2 d0 d1 d2)
      | (refine zGh hD rfl _ _ rfl rfl _ rfl ?_;clear g0 g1 g2 d0 d1 d2 hD;intro wn hD;have g0:=zAA (i:=0) hD.x3 rfl;have g1:=zAA (i:=1) hD.x3 rfl;have g2:=zAA (i:=2) hD.x3 rfl;have d0:=zAA (i:=0) hD.xd rfl;have d1:=zAA (i:=1) hD.xd rfl;have d2:=zAA (i:=2) hD.xd rfl)
      | (refine zGd hD rfl _ _ rfl rfl _ rfl ?_;clear g0 g1 g2 d0 d1 d2 hD;intro wn hD;have g0:=zAA (i:=0) hD.x3 rfl;have g1:=zAA (i:=1) hD.x3 rfl;have g2:=zAA (i:=2) hD.x3 rfl;have d0:=zAA (i:=0) hD.xd rfl;have d1:=zAA (i:=1) hD.xd rfl;have d2:=zAA (i:=2) hD.xd rfl)
      | (refine zGN hD rfl _ _ rfl rfl _ rfl ?_;clear g0 g1 g2 d0 d1 d2 hD;intro wn hD;have g0:=zAA (i:=0) hD.x3 rfl;have g1:=zAA (i:=1) hD.x3 rfl;have g2:=zAA (i:=2) hD.x3 rfl;have d0:=zAA (i:=0) hD.xd rfl;have d1:=zAA (i:=1) hD.xd rfl;have d2:=zAA (i:=2) hD.xd rfl)
      | (refine zGV hD rfl _ _ rfl rfl _ rfl ?_;clear g0 g1 g2 d0 d1 d2 hD;intro wn hD;have g0:=zAA (i:=0) hD.x3 rfl;have g1:=zAA (i:=1) hD.x3 rfl;have g2:=zAA (i:=2) hD.x3 rfl;have d0:=zAA (i:=0) hD.xd rfl;have d1:=zAA (i:=1) hD.xd rfl;have d2:=zAA (i:=2) hD.xd rfl))
     have hD:=HD9.out.call ((Below.refl _ _).alloc (Nat.le_refl _) (.cells #[.string (tx nm),.int .u64 (hh:Int),.bool false] 73))
     have hx3':=(HG6.out.block b3 (zAj hD.x3) (fun e =>hD.o3 e.symm)).trans hD.x3
     have hx7':=(HG6.out.block b7 (zAj hD.x7) (fun e =>hD.o7 e.symm)).trans hD.x7
     have hb6:Below w.heap.size w w6:=hD.b.grown HG6.out hD.b.size (fun j hj =>by have h1:=zAI hD.own j hj;have h2:=HB8S.out;omega)
     rw [HA2.out] at hx3'
     refine ⟨⟨i+1,v6,HI.out,rfl,rfl,?_,?_,?_,hx7',hb6⟩,by show m - (i+1)<m - i;have:=HI.out;omega⟩
     ·rw [HN.out]
      have h9:=HO6.out
      rw [show dps sl++dps [⟨nm,(hh:Int),false⟩]=dps (sl++[⟨nm,(hh:Int),false⟩]) from List.flatMap_append.symm] at h9
      simp only [List.length_append,List.length_singleton]
      exact h9
     ·rw [HN.out]
      simp only [List.length_append,List.length_singleton]
      have:=HLN.out
      omega
     ·rw [HN.out]
      exact hx3'
    ·obtain ⟨q,hq⟩:∃ q,q=sc.num.1:=⟨_,rfl⟩
     obtain ⟨d,hd⟩:∃ d,d=sc.num.2:=⟨_,rfl⟩
     have hqlt:q<18446744073709551616:=by rw [hq];exact Cu.num_lt
     have hda:=zBV HOK.out.1
     rw [← hd] at hda
     obtain ⟨x,hx⟩:∃ x,x=dKn tl (q / 2) d:=⟨_,rfl⟩
     have HNA:=zIQ tl (q / 2) hda.ok
     rw [← hx] at HNA
     obtain ⟨hh,hhh⟩:∃ hh,hh=x.2.num.1:=⟨_,rfl⟩
     have t2:(q:Int).tdiv 2=((q / 2:Nat):Int):=by rw [Int.tdiv_eq_ediv_of_nonneg (by omega)];simp
     have t3:(q:Int).tmod 2=((q % 2:Nat):Int):=by rw [Int.tmod_eq_emod_of_nonneg (by omega)];simp
     have HN:Hid (dDs ver tl (i+1) ([],c)=(sl++[⟨x.1,(hh:Int),((q % 2:Nat):Int) == 1⟩],x.2.num.2)):=(by show _=_;rw [hN1];unfold dDp;rw [if_neg hv,← hq,← hd,← hx,← hhh,show decide (q % 2=1)=(((q % 2:Nat):Int) == 1) from by rw [Bool.eq_iff_iff,decide_eq_true_iff,beq_iff_eq];omega])
     have HC1:=yh (fun W hW =>HNU.out sc HOK.out.1 HOK.out.2 W hW)
     rw [← hq,← hd,← ha0e] at HC1
     have HC2:=yh (fun W hW =>HKN.out d (q / 2) (hda.bs.trans HOK.out.2) W hW)
     rw [← hx] at HC2
     have HC3:=yh (fun W hW =>HNU.out x.2 HNA.ok ((HNA.bs.trans hda.bs).trans HOK.out.2) W hW)
     rw [← hhh] at HC3
     obtain ⟨ad,had⟩:∃ ad,ad=atV d:=⟨_,rfl⟩
     obtain ⟨a1,ha1⟩:∃ a1,a1=atV x.2:=⟨_,rfl⟩
     obtain ⟨a2,ha2⟩:∃ a2,a2=atV x.2.num.2:=⟨_,rfl⟩
     have HA2:=yh ha2
     rw [← had] at HC1 HC2
     rw [← ha1] at HC2
     rw [← ha1,← ha2] at HC3
     obtain ⟨nm,hnm⟩:∃ nm,nm=x.1:=⟨_,rfl⟩
     rw [← hnm] at HC2 HN
     obtain ⟨qm,hqm⟩:∃ qm,qm=q / 2:=⟨_,rfl⟩
     obtain ⟨qb,hqb⟩:∃ qb,qb=q % 2:=⟨_,rfl⟩
     have hqm2:qm<18446744073709551616:=by omega
     have hqb2:qb<2:=by omega
     rw [← hqm] at t2 HC2
     rw [← hqb] at t3 HN
     clear hq hd hx hhh hN1 HNA hda hqm hqb ha1 ha2 ha0e had hnm
     go_wp2_with (first
      | (go_at_call 67;first | (refine (HC1.out _ hD.b).mono ?_;clear HC1;rintro e xa ⟨rfl,hbx⟩;replace hD:=hD.call hbx;clear g0 g1 g2 d0 d1 d2 hbx;have g0:=zAA (i:=0) hD.x3 rfl;have g1:=zAA (i:=1) hD.x3 rfl;have g2:=zAA (i:=2) hD.x3 rfl;have d0:=zAA (i:=0) hD.xd rfl;have d1:=zAA (i:=1) hD.xd rfl;have d2:=zAA (i:=2) hD.xd rfl) | (refine (HC3.out _ hD.b).mono ?_;rintro e xc ⟨rfl,hbx⟩;replace hD:=hD.call hbx;clear g0 g1 g2 d0 d1 d2 hbx;have g0:=zAA (i:=0) hD.x3 rfl;have g1:=zAA (i:=1) hD.x3 rfl;have g2:=zAA (i:=2) hD.x3 rfl;have d0:=zAA (i:=0) hD.xd rfl;have d1:=zAA (i:=1) hD.xd rfl;have d2:=zAA (i:=2) hD.xd rfl))
      | (go_at_call 70;refine (HC2.out _ hD.b).mono ?_;rintro e xHC2 ⟨rfl,hbx⟩;replace hD:=hD.call hbx;clear g0 g1 g2 d0 d1 d2 hbx;have g0:=zAA (i:=0) hD.x3 rfl;have g1:=zAA (i:=1) hD.x3 rfl;have g2:=zAA (i:=2) hD.x3 rfl;have d0:=zAA (i:=0) hD.xd rfl;have d1:=zAA (i:=1) hD.xd rfl;have d2:=zAA (i:=2) hD.xd rfl)
      | (at_builtin;have HD9:=yh hD;refine zAX _ rfl (.tmp 56) (.tmp 58) 43 rfl b8 73 i0 _ 3 32 Tryz.underlying43 ii0 iz0 iz1 iz2 rfl (by decide) va _ _ rfl (World.ownsRow.alloc HD9.out.own _) _ 1 1 _ (dps [⟨nm,(hh:Int),((qb:Int) == 1)⟩]) rfl (by simp) (zEE _ ⟨nm,(hh:Int),((qb:Int) == 1)⟩) (fun u hu =>by simp [dps,Dp.cells,rsv] at hu;rcases hu with rfl | rfl | rfl <;> rfl) (by have:=HLEN.out;unfold maxLen;omega) (by have:=HLEN.out;omega) (by have h1:=zAj HD9.out.x7;have h2:=HB7E.out;have h3:=HB8E.out;simp only [World.size_alloc];omega) ?_;intro v6 w6 ho6 hg6 hv6;have HO6:=yh ho6;have HG6:=yh hg6;clear ho6 hg6 hv6 hD g0 g1 g2 d0 d1 d2)
      | (refine zGh hD rfl _ _ rfl rfl _ rfl ?_;clear g0 g1 g2 d0 d1 d2 hD;intro wn hD;have g0:=zAA (i:=0) hD.x3 rfl;have g1:=zAA (i:=1) hD.x3 rfl;have g2:=zAA (i:=2) hD.x3 rfl;have d0:=zAA (i:=0) hD.xd rfl;have d1:=zAA (i:=1) hD.xd rfl;have d2:=zAA (i:=2) hD.xd rfl)
      | (refine zGd hD rfl _ _ rfl rfl _ rfl ?_;clear g0 g1 g2 d0 d1 d2 hD;intro wn hD;have g0:=zAA (i:=0) hD.x3 rfl;have g1:=zAA (i:=1) hD.x3 rfl;have g2:=zAA (i:=2) hD.x3 rfl;have d0:=zAA (i:=0) hD.xd rfl;have d1:=zAA (i:=1) hD.xd rfl;have d2:=zAA (i:=2) hD.xd rfl)
      | (refine zGN hD rfl _ _ rfl rfl _ rfl ?_;clear g0 g1 g2 d0 d1 d2 hD;intro wn hD;have g0:=zAA (i:=0) hD.x3 rfl;have g1:=zAA (i:=1) hD.x3 rfl;have g2:=zAA (i:=2) hD.x3 rfl;have d0:=zAA (i:=0) hD.xd rfl;have d1:=zAA (i:=1) hD.xd rfl;have d2:=zAA (i:=2) hD.xd rfl)
      | (refine zGV hD rfl _ _ rfl rfl _ rfl ?_;clear g0 g1 g2 d0 d1 d2 hD;intro wn hD;have g0:=zAA (i:=0) hD.x3 rfl;have g1:=zAA (i:=1) hD.x3 rfl;have g2:=zAA (i:=2) hD.x3 rfl;have d0:=zAA (i:=0) hD.xd rfl;have d1:=zAA (i:=1) hD.xd rfl;have d2:=zAA (i:=2) hD.xd rfl))
     have hD:=HD9.out.call ((Below.refl _ _).alloc (Nat.le_refl _) (.cells #[.string (tx nm),.int .u64 (hh:Int),.bool ((qb:Int) == 1)] 73))
     have hx3':=(HG6.out.block b3 (zAj hD.x3) (fun e =>hD.o3 e.symm)).trans hD.x3
     have hx7':=(HG6.out.block b7 (zAj hD.x7) (fun e =>hD.o7 e.symm)).trans hD.x7
     have hb6:Below w.heap.size w w6:=hD.b.grown HG6.out hD.b.size (fun j hj =>by have h1:=zAI hD.own j hj;have h2:=HB8S.out;omega)
     rw [HA2.out] at hx3'
     refine ⟨⟨i+1,v6,HI.out,rfl,rfl,?_,?_,?_,hx7',hb6⟩,by show m - (i+1)<m - i;have:=HI.out;omega⟩
     ·rw [HN.out]
      have h9:=HO6.out
      rw [show dps sl++dps [⟨nm,(hh:Int),((qb:Int) == 1)⟩]=dps (sl++[⟨nm,(hh:Int),((qb:Int) == 1)⟩]) from List.flatMap_append.symm] at h9
      simp only [List.length_append,List.length_singleton]
      exact h9
     ·rw [HN.out]
      simp only [List.length_append,List.length_singleton]
      have:=HLN.out
      omega
     ·rw [HN.out]
      exact hx3'
   ·obtain rfl:i=m:=by omega
    obtain ⟨A9,c9,rfl,hA9⟩:=zAH hown
    have HOW:=yh hown
    have HX7L:=yh hx7
    have HBL:=yh hb
    have HO7:Hid ((Value.slice A9 sl.length c9).ownBlock≠some b7):=fun e =>(by have h1:=zAI hown _ e;have h2:=HB7E.out;have h3:=HB8E.out;omega)
    have HA9:=yh hA9
    have g0:=zAA (i:=0) hx3 rfl
    have g1:=zAA (i:=1) hx3 rfl
    have g2:=zAA (i:=2) hx3 rfl
    have f0:=zAA (i:=0) hx7 rfl
    have f1:=zAA (i:=1) hx7 rfl
    have f2:=zAA (i:=2) hx7 rfl
    have z0:wr.frozen? ⟨b7,0,none⟩=false:=zAC hx7
    have z1:wr.frozen? ⟨b7,1,none⟩=false:=zAC hx7
    have z2:wr.frozen? ⟨b7,2,none⟩=false:=zAC hx7
    have HRES:Hid (dDs ver tl i ([],c)=(sl,sc)):=HST.out.symm
    have hb7w:w.heap.size≤b7:=by have:=HB7E.out;omega
    obtain ⟨ls,hls⟩:∃ ls,ls=sl.length:=⟨_,rfl⟩
    have HLS:=yh hls
    rw [← hls] at HOW ⊢
    obtain ⟨a0,ha0e⟩:∃ a0,a0=atV sc:=⟨_,rfl⟩
    have HA0:=yh ha0e
    rw [← ha0e] at g1 ha0
    clear hi hown hlen hx3 hx7 hb hadv hin hA9 hls ha0e
    go_wp2_with fail
    go_region
    all_goals (try go_wp2)
    (try simp only [Exit.inBlock,Exit.then])
    refine bodyPost_ret (zCZ Tryz.results69 _ _ b7 _ _ (0,0) _ rfl (zEN HX7L.out _ _ _) Tryz.underlying132 rfl (by kernel_rfl)) rfl ?_
    rw [HRES.out]
    have hls:=HLS.out
    have ha0:=HA0.out
    subst hls
    subst ha0
    refine ⟨⟨A9,c9,rfl,HA9.out,?_⟩,(((HBL.out.setCell (p:=⟨b7,0,none⟩) hb7w _).setCell (p:=⟨b7,1,none⟩) hb7w _).setCell (p:=⟨b7,2,none⟩) hb7w _).drew⟩
    exact zAY (ownsRow_setCell_other (ownsRow_setCell_other (ownsRow_setCell_other HOW.out HO7.out _) HO7.out _) HO7.out _) HB8S.out
  ·have hneg:¬ (atV sc ≥ 0):=by unfold atV;rw [if_neg he];omega
   have hRES:=HSTOP.out he
   by_cases hlt:i<m
   ·have hlu:(i:Int)<(m:Int):=by omega
    obtain ⟨A9,c9,rfl,hA9⟩:=zAH hown
    have HOW:=yh hown
    have HX7L:=yh hx7
    have HBL:=yh hb
    have HO7:Hid ((Value.slice A9 sl.length c9).ownBlock≠some b7):=fun e =>(by have h1:=zAI hown _ e;have h2:=HB7E.out;have h3:=HB8E.out;omega)
    have HA9:=yh hA9
    have g0:=zAA (i:=0) hx3 rfl
    have g1:=zAA (i:=1) hx3 rfl
    have g2:=zAA (i:=2) hx3 rfl
    have f0:=zAA (i:=0) hx7 rfl
    have f1:=zAA (i:=1) hx7 rfl
    have f2:=zAA (i:=2) hx7 rfl
    have z0:wr.frozen? ⟨b7,0,none⟩=false:=zAC hx7
    have z1:wr.frozen? ⟨b7,1,none⟩=false:=zAC hx7
    have z2:wr.frozen? ⟨b7,2,none⟩=false:=zAC hx7
    have HRES:Hid (dDs ver tl m ([],c)=(sl,sc)):=hRES
    have hb7w:w.heap.size≤b7:=by have:=HB7E.out;omega
    obtain ⟨ls,hls⟩:∃ ls,ls=sl.length:=⟨_,rfl⟩
    have HLS:=yh hls
    rw [← hls] at HOW ⊢
    obtain ⟨a0,ha0e⟩:∃ a0,a0=atV sc:=⟨_,rfl⟩
    have HA0:=yh ha0e
    rw [← ha0e] at g1 hneg
    clear hi hown hlen hx3 hx7 hb hadv hin hA9 hls ha0e
    go_wp2_with fail
    go_region
    all_goals (try go_wp2)
    (try simp only [Exit.inBlock,Exit.then])
    refine bodyPost_ret (zCZ Tryz.results69 _ _ b7 _ _ (0,0) _ rfl (zEN HX7L.out _ _ _) Tryz.underlying132 rfl (by kernel_rfl)) rfl ?_
    rw [HRES.out]
    have hls:=HLS.out
    have ha0:=HA0.out
    subst hls
    subst ha0
    refine ⟨⟨A9,c9,rfl,HA9.out,?_⟩,(((HBL.out.setCell (p:=⟨b7,0,none⟩) hb7w _).setCell (p:=⟨b7,1,none⟩) hb7w _).setCell (p:=⟨b7,2,none⟩) hb7w _).drew⟩
    exact zAY (ownsRow_setCell_other (ownsRow_setCell_other (ownsRow_setCell_other HOW.out HO7.out _) HO7.out _) HO7.out _) HB8S.out
   ·obtain rfl:i=m:=by omega
    obtain ⟨A9,c9,rfl,hA9⟩:=zAH hown
    have HOW:=yh hown
    have HX7L:=yh hx7
    have HBL:=yh hb
    have HO7:Hid ((Value.slice A9 sl.length c9).ownBlock≠some b7):=fun e =>(by have h1:=zAI hown _ e;have h2:=HB7E.out;have h3:=HB8E.out;omega)
    have HA9:=yh hA9
    have g0:=zAA (i:=0) hx3 rfl
    have g1:=zAA (i:=1) hx3 rfl
    have g2:=zAA (i:=2) hx3 rfl
    have f0:=zAA (i:=0) hx7 rfl
    have f1:=zAA (i:=1) hx7 rfl
    have f2:=zAA (i:=2) hx7 rfl
    have z0:wr.frozen? ⟨b7,0,none⟩=false:=zAC hx7
    have z1:wr.frozen? ⟨b7,1,none⟩=false:=zAC hx7
    have z2:wr.frozen? ⟨b7,2,none⟩=false:=zAC hx7
    have HRES:Hid (dDs ver tl i ([],c)=(sl,sc)):=hRES
    have hb7w:w.heap.size≤b7:=by have:=HB7E.out;omega
    obtain ⟨ls,hls⟩:∃ ls,ls=sl.length:=⟨_,rfl⟩
    have HLS:=yh hls
    rw [← hls] at HOW ⊢
    obtain ⟨a0,ha0e⟩:∃ a0,a0=atV sc:=⟨_,rfl⟩
    have HA0:=yh ha0e
    rw [← ha0e] at g1 hneg
    clear hi hown hlen hx3 hx7 hb hadv hin hA9 hls ha0e
    go_wp2_with fail
    go_region
    all_goals (try go_wp2)
    (try simp only [Exit.inBlock,Exit.then])
    refine bodyPost_ret (zCZ Tryz.results69 _ _ b7 _ _ (0,0) _ rfl (zEN HX7L.out _ _ _) Tryz.underlying132 rfl (by kernel_rfl)) rfl ?_
    rw [HRES.out]
    have hls:=HLS.out
    have ha0:=HA0.out
    subst hls
    subst ha0
    refine ⟨⟨A9,c9,rfl,HA9.out,?_⟩,(((HBL.out.setCell (p:=⟨b7,0,none⟩) hb7w _).setCell (p:=⟨b7,1,none⟩) hb7w _).setCell (p:=⟨b7,2,none⟩) hb7w _).drew⟩
    exact zAY (ownsRow_setCell_other (ownsRow_setCell_other (ownsRow_setCell_other HOW.out HO7.out _) HO7.out _) HO7.out _) HB8S.out
end Go.Proofs.YtoclafdidjpndaaGreatDoor
