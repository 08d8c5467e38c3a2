/- Texts of one proof. -/
import Derived.Test.YtoclafdidjpndaaGreatDoorMx35
set_option maxRecDepth 100000
set_option maxHeartbeats 8000000
namespace Go.Proofs.YtoclafdidjpndaaGreatDoor
open Go.RowKit
structure LaS (w0 W:World) (b6 b8 b9:Nat) (s:ByteArray) (a:Int) (T:Option Addr) (n k:Nat) (kd:Int) (tg:ByteArray) (ru:Int) (va:Value) (l:List Dp) (ou ti:Int) (ta:ByteArray):Prop where
 x8:W.heap[b8]? = some (.cells #[.string s,.int .i64 a,.slice T n k] 132 (0,0))
 x9:W.heap[b9]? = some (.cells #[.int .i64 kd,.string tg,.int .u64 ru,va,.int .u64 ou,.int .u64 ti,.string ta] 45 (0,0))
 x6:W.heap[b6]? = some (.cells #[.int .i64 0,.string ⟨#[]⟩,.int .u64 0,.slice none 0 0,.int .u64 0,.int .u64 0,.string ⟨#[]⟩] 45 (0,0))
 own:W.ownsRow w0.heap.size 73 3 va l.length (dps l)
 b:Below w0.heap.size w0 W
 h8:w0.heap.size≤b8
 h9:w0.heap.size≤b9
 h6:w0.heap.size≤b6
 n89:b8≠b9
 n86:b8≠b6
 n96:b9≠b6
 o:va.ownBlock≠some b8∧va.ownBlock≠some b9∧va.ownBlock≠some b6
section
variable {w0 w W W':World} {b6 b8 b9:Nat} {s:ByteArray} {a:Int} {T:Option Addr} {n k:Nat} {kd:Int} {tg:ByteArray} {ru:Int} {va:Value} {l:List Dp} {ou ti:Int} {ta:ByteArray} {ops:Array Oper} {rest:List Oper} {op:Oper} {ac:Act} {Q:Exit→Act→World→Prop}
theorem LaS.call (q:LaS w0 W b6 b8 b9 s a T n k kd tg ru va l ou ti ta) (hb:Below W.heap.size W W'):LaS w0 W' b6 b8 b9 s a T n k kd tg ru va l ou ti ta :=
 ⟨(hb.block b8 (zAj q.x8)).trans q.x8,(hb.block b9 (zAj q.x9)).trans q.x9,(hb.block b6 (zAj q.x6)).trans q.x6,zAF q.own hb,q.b.trans (hb.mono q.b.size),q.h8,q.h9,q.h6,q.n89,q.n86,q.n96,q.o⟩
theorem LaS.walk (q:LaS w0 W b6 b8 b9 s a T n k kd tg ru va l ou ti ta) (a':Int):LaS w0 (((W.setCell ⟨b8,0,none⟩ (.string s)).setCell ⟨b8,1,none⟩ (.int .i64 a')).setCell ⟨b8,2,none⟩ (.slice T n k)) b6 b8 b9 s a' T n k kd tg ru va l ou ti ta :=
 ⟨zEN q.x8 _ _ _,(Below.heap_setCell _ _ _ _ q.n89.symm).trans ((Below.heap_setCell _ _ _ _ q.n89.symm).trans ((Below.heap_setCell _ _ _ _ q.n89.symm).trans q.x9)),(Below.heap_setCell _ _ _ _ q.n86.symm).trans ((Below.heap_setCell _ _ _ _ q.n86.symm).trans ((Below.heap_setCell _ _ _ _ q.n86.symm).trans q.x6)),
  ownsRow_setCell_other (ownsRow_setCell_other (ownsRow_setCell_other q.own q.o.1 _) q.o.1 _) q.o.1 _,((q.b.setCell (p:=⟨b8,0,none⟩) q.h8 _).setCell (p:=⟨b8,1,none⟩) q.h8 _).setCell (p:=⟨b8,2,none⟩) q.h8 _,q.h8,q.h9,q.h6,q.n89,q.n86,q.n96,q.o⟩
theorem zCH (q:LaS w0 w b6 b8 b9 s a T n k kd tg ru va l ou ti ta) (hgd:op.guard=none) (x y:Operand) (ho:op.op=.store 132 x y) (hx:ac.eval x=.pointer (some ⟨b8,0,none⟩)) (v:Int) (hy:ac.eval y=.agg #[.string s,.int .i64 v,.slice T n k])
  (hK:∀ w',LaS w0 w' b6 b8 b9 s v T n k kd tg ru va l ou ti ta→wpList Tryz.prog ops Q rest (ac.put op.dst undef) w'):wpList Tryz.prog ops Q (op :: rest) ac w:=by
 refine wpList_plain hgd fun K hK' =>?_
 have hrow:(storeVar 132 ⟨b8,0,none⟩ (.agg #[.string s,.int .i64 v,.slice T n k])).run Tryz.prog w=.ok () (w.setCells b8 0 [.string s,.int .i64 v,.slice T n k]):=by
  have hs:=run_storeCells_cells (P:=Tryz.prog) b8 0 [.string s,.int .i64 v,.slice T n k] 0 w (fun j hj =>by
    have hj2:j<3:=hj
    simp [World.cell?,q.x8]
    omega) (fun j _ =>zAC q.x8) (by intro v hv;simp at hv;rcases hv with rfl | rfl | rfl <;> rfl)
  have hsz:=zHq
  cases hq:Tryz.prog.info? 132 with
  | none =>simp [hq] at hsz
  | some q9 =>
   have hs4:q9.size=3:=by simpa [hq] using hsz
   have hc:(Value.agg #[.string s,.int .i64 v,.slice T n k]).cells.toList=[.string s,.int .i64 v,.slice T n k]:=rfl
   have hcs:(Value.agg #[.string s,.int .i64 v,.slice T n k]).cells.size=3:=rfl
   simp [storeVar,sizeOf,typeInfo,hq,hcs,hs4,hc]
   simpa using hs
 unfold Oper.wp execOp
 simp only [ho,hx,hy,Instr.storeAt,Instr.sureAddr,Sem.run_bind,Sem.run_pure,Result.andThen_ok,hrow]
 exact hK' _ _ (hK _ (q.walk v))
theorem zDH (q:LaS w0 w b6 b8 b9 s a T n k kd tg ru va l ou ti ta) (hgd:op.guard=none) (x y:Operand) (ho:op.op=.store 3 x y) (hx:ac.eval x=.pointer (some ⟨b9,0,none⟩)) (v:Int) (hy:ac.eval y=.int .i64 v)
  (hK:∀ w',LaS w0 w' b6 b8 b9 s a T n k v tg ru va l ou ti ta→wpList Tryz.prog ops Q rest (ac.put op.dst undef) w'):wpList Tryz.prog ops Q (op :: rest) ac w:=by
 refine wpList_plain hgd fun K hK' =>?_
 have hc:=zAA (i:=0) q.x9 rfl
 have hf:w.frozen? ⟨b9,0,none⟩=false:=zAC q.x9
 unfold Oper.wp execOp
 simp only [ho,hx,hy]
 go_simp
 exact hK' _ _ (hK _ ⟨(Below.heap_setCell _ _ _ _ q.n89).trans q.x8,zAD q.x9 0 _,(Below.heap_setCell _ _ _ _ q.n96.symm).trans q.x6,ownsRow_setCell_other q.own q.o.2.1 _,q.b.setCell (p:=⟨b9,0,none⟩) q.h9 _,q.h8,q.h9,q.h6,q.n89,q.n86,q.n96,q.o⟩)
theorem zDD (q:LaS w0 w b6 b8 b9 s a T n k kd tg ru va l ou ti ta) (hgd:op.guard=none) (x y:Operand) (ho:op.op=.store 9 x y) (hx:ac.eval x=.pointer (some ⟨b9,1,none⟩)) (v:ByteArray) (hy:ac.eval y=.string v)
  (hK:∀ w',LaS w0 w' b6 b8 b9 s a T n k kd v ru va l ou ti ta→wpList Tryz.prog ops Q rest (ac.put op.dst undef) w'):wpList Tryz.prog ops Q (op :: rest) ac w:=by
 refine wpList_plain hgd fun K hK' =>?_
 have hc:=zAA (i:=1) q.x9 rfl
 have hf:w.frozen? ⟨b9,1,none⟩=false:=zAC q.x9
 unfold Oper.wp execOp
 simp only [ho,hx,hy]
 go_simp
 exact hK' _ _ (hK _ ⟨(Below.heap_setCell _ _ _ _ q.n89).trans q.x8,zAD q.x9 1 _,(Below.heap_setCell _ _ _ _ q.n96.symm).trans q.x6,ownsRow_setCell_other q.own q.o.2.1 _,q.b.setCell (p:=⟨b9,1,none⟩) q.h9 _,q.h8,q.h9,q.h6,q.n89,q.n86,q.n96,q.o⟩)
theorem zCt (q:LaS w0 w b6 b8 b9 s a T n k kd tg ru va l ou ti ta) (hgd:op.guard=none) (x y:Operand) (ho:op.op=.store 42 x y) (hx:ac.eval x=.pointer (some ⟨b9,2,none⟩)) (v:Int) (hy:ac.eval y=.int .u64 v)
  (hK:∀ w',LaS w0 w' b6 b8 b9 s a T n k kd tg v va l ou ti ta→wpList Tryz.prog ops Q rest (ac.put op.dst undef) w'):wpList Tryz.prog ops Q (op :: rest) ac w:=by
 refine wpList_plain hgd fun K hK' =>?_
 have hc:=zAA (i:=2) q.x9 rfl
 have hf:w.frozen? ⟨b9,2,none⟩=false:=zAC q.x9
 unfold Oper.wp execOp
 simp only [ho,hx,hy]
 go_simp
 exact hK' _ _ (hK _ ⟨(Below.heap_setCell _ _ _ _ q.n89).trans q.x8,zAD q.x9 2 _,(Below.heap_setCell _ _ _ _ q.n96.symm).trans q.x6,ownsRow_setCell_other q.own q.o.2.1 _,q.b.setCell (p:=⟨b9,2,none⟩) q.h9 _,q.h8,q.h9,q.h6,q.n89,q.n86,q.n96,q.o⟩)
theorem zCw (q:LaS w0 w b6 b8 b9 s a T n k kd tg ru va l ou ti ta) (hgd:op.guard=none) (x y:Operand) (ho:op.op=.store 42 x y) (hx:ac.eval x=.pointer (some ⟨b9,4,none⟩)) (v:Int) (hy:ac.eval y=.int .u64 v)
  (hK:∀ w',LaS w0 w' b6 b8 b9 s a T n k kd tg ru va l v ti ta→wpList Tryz.prog ops Q rest (ac.put op.dst undef) w'):wpList Tryz.prog ops Q (op :: rest) ac w:=by
 refine wpList_plain hgd fun K hK' =>?_
 have hc:=zAA (i:=4) q.x9 rfl
 have hf:w.frozen? ⟨b9,4,none⟩=false:=zAC q.x9
 unfold Oper.wp execOp
 simp only [ho,hx,hy]
 go_simp
 exact hK' _ _ (hK _ ⟨(Below.heap_setCell _ _ _ _ q.n89).trans q.x8,zAD q.x9 4 _,(Below.heap_setCell _ _ _ _ q.n96.symm).trans q.x6,ownsRow_setCell_other q.own q.o.2.1 _,q.b.setCell (p:=⟨b9,4,none⟩) q.h9 _,q.h8,q.h9,q.h6,q.n89,q.n86,q.n96,q.o⟩)
theorem zCy (q:LaS w0 w b6 b8 b9 s a T n k kd tg ru va l ou ti ta) (hgd:op.guard=none) (x y:Operand) (ho:op.op=.store 42 x y) (hx:ac.eval x=.pointer (some ⟨b9,5,none⟩)) (v:Int) (hy:ac.eval y=.int .u64 v)
  (hK:∀ w',LaS w0 w' b6 b8 b9 s a T n k kd tg ru va l ou v ta→wpList Tryz.prog ops Q rest (ac.put op.dst undef) w'):wpList Tryz.prog ops Q (op :: rest) ac w:=by
 refine wpList_plain hgd fun K hK' =>?_
 have hc:=zAA (i:=5) q.x9 rfl
 have hf:w.frozen? ⟨b9,5,none⟩=false:=zAC q.x9
 unfold Oper.wp execOp
 simp only [ho,hx,hy]
 go_simp
 exact hK' _ _ (hK _ ⟨(Below.heap_setCell _ _ _ _ q.n89).trans q.x8,zAD q.x9 5 _,(Below.heap_setCell _ _ _ _ q.n96.symm).trans q.x6,ownsRow_setCell_other q.own q.o.2.1 _,q.b.setCell (p:=⟨b9,5,none⟩) q.h9 _,q.h8,q.h9,q.h6,q.n89,q.n86,q.n96,q.o⟩)
theorem zDB (q:LaS w0 w b6 b8 b9 s a T n k kd tg ru va l ou ti ta) (hgd:op.guard=none) (x y:Operand) (ho:op.op=.store 9 x y) (hx:ac.eval x=.pointer (some ⟨b9,6,none⟩)) (v:ByteArray) (hy:ac.eval y=.string v)
  (hK:∀ w',LaS w0 w' b6 b8 b9 s a T n k kd tg ru va l ou ti v→wpList Tryz.prog ops Q rest (ac.put op.dst undef) w'):wpList Tryz.prog ops Q (op :: rest) ac w:=by
 refine wpList_plain hgd fun K hK' =>?_
 have hc:=zAA (i:=6) q.x9 rfl
 have hf:w.frozen? ⟨b9,6,none⟩=false:=zAC q.x9
 unfold Oper.wp execOp
 simp only [ho,hx,hy]
 go_simp
 exact hK' _ _ (hK _ ⟨(Below.heap_setCell _ _ _ _ q.n89).trans q.x8,zAD q.x9 6 _,(Below.heap_setCell _ _ _ _ q.n96.symm).trans q.x6,ownsRow_setCell_other q.own q.o.2.1 _,q.b.setCell (p:=⟨b9,6,none⟩) q.h9 _,q.h8,q.h9,q.h6,q.n89,q.n86,q.n96,q.o⟩)
theorem zDe (q:LaS w0 w b6 b8 b9 s a T n k kd tg ru va l ou ti ta) (hgd:op.guard=none) (x y:Operand) (ho:op.op=.store 43 x y) (hx:ac.eval x=.pointer (some ⟨b9,3,none⟩)) (A:Option Addr) (c:Nat) (l':List Dp) (hown:w.ownsRow w0.heap.size 73 3 (.slice A l'.length c) l'.length (dps l')) (hy:ac.eval y=.slice A l'.length c) (hne:(Value.slice A l'.length c).ownBlock≠some b8∧(Value.slice A l'.length c).ownBlock≠some b9∧(Value.slice A l'.length c).ownBlock≠some b6)
  (hK:∀ w',LaS w0 w' b6 b8 b9 s a T n k kd tg ru (.slice A l'.length c) l' ou ti ta→wpList Tryz.prog ops Q rest (ac.put op.dst undef) w'):wpList Tryz.prog ops Q (op :: rest) ac w:=by
 refine wpList_plain hgd fun K hK' =>?_
 have hc:=zAA (i:=3) q.x9 rfl
 have hf:w.frozen? ⟨b9,3,none⟩=false:=zAC q.x9
 unfold Oper.wp execOp
 simp only [ho,hx,hy]
 go_simp
 exact hK' _ _ (hK _ ⟨(Below.heap_setCell _ _ _ _ q.n89).trans q.x8,zAD q.x9 3 _,(Below.heap_setCell _ _ _ _ q.n96.symm).trans q.x6,ownsRow_setCell_other hown hne.2.1 _,q.b.setCell (p:=⟨b9,3,none⟩) q.h9 _,q.h8,q.h9,q.h6,q.n89,q.n86,q.n96,hne⟩)
end
end Go.Proofs.YtoclafdidjpndaaGreatDoor
