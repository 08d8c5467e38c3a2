/- Texts of one proof. -/
import Derived.Laws.IdiomCopy
import Derived.Laws.IdiomMaps
import Derived.Maps.RangeWalk
import Derived.Sort.KeysCollected
import Derived.Test.YtekchkfjgofnkaaGreatDoorMy20
set_option maxRecDepth 100000
set_option maxHeartbeats 8000000
namespace Go.Proofs.YtekchkfjgofnkaaGreatDoor
open Go.ChangeShapes Go.WideShapes Go.ChangeAt Go.RowKit Go.Deep
theorem zMA {H:Type} {enc:TypeId×Value→H} {W:World} {v:Value} {d:DataW H} {ps:List MemPlace} {r0:Reach} {b0:Nat} (hval:Value.okWide Tryz.prog W r0 b0 33 v) (hd:DataW.Trod enc Tryz.prog W 0 (fun _ =>true) true 33 v d ps) :
  ∃ (A:Option Addr) (n c:Nat) (xs:List Rw),v=.slice A n c∧n≤c∧n≤maxLen∧(A=none→c=0)∧(∀ x ∈ xs,(Fits x.r x.l∧x.n≤maxLen)∧Nums x.r x.l)∧Recs W W.heap.size A n xs:=by
 obtain ⟨A,n,c,xs,h1,h2,h3,h4,h5⟩:=zLz hval hd
 have h4':∀ x ∈ xs,(Fits x.r x.l∧x.n≤maxLen)∧Nums x.r x.l:=fun x hx =>⟨⟨(h4 x hx).1,(h4 x hx).2.1⟩,(h4 x hx).2.2⟩
 obtain ⟨fuel,hf⟩:=hd
 rcases Go.Deep.open_slice Tryz.underlying33 hf with ⟨hcs,_⟩ | ⟨ad,n',c',m,k,D,Pl,hcs,_,hl,hmx,hm,_,hi⟩
 ·rw [h1] at hcs
  have e:Value.slice A n c=.slice none 0 0:=by simpa [Value.cells] using hcs
  injection e with e1 e2 e3
  subst e1 e2 e3
  exact ⟨_,_,_,xs,h1,Nat.le_refl _,h2,fun _ =>rfl,h4',h5⟩
 ·rw [h1] at hcs
  have e:Value.slice A n c=.slice (some ad) n' c':=by simpa [Value.cells] using hcs
  injection e with e1 e2 e3
  subst e1 e2 e3
  exact ⟨_,_,_,xs,h1,hl,h2,fun h =>(by cases h),h4',h5⟩
open Go.RowKit
theorem zRC (A:Option Addr) (n c:Nat) (xs:List (List UInt8)) (s:List UInt8) (hn:n≤1073741824) (w:World) (hr:zAD w w.heap.size 1 A n (xs.map tsv)) :
  Calls Tryz.prog 64 #[.slice A n c,.string (tx s)] w fun e w' =>(∃ z:Int,e=.returned (.int .i64 z)∧(0≤z ↔ s ∈ xs))∧w=w':=by
 have hl:xs.length=n:=by have:=hr.1;simpa using this
 have HR:=yh hr
 have HL:=yh hl
 clear hr hl
 go_enter Tryz.func64,Tryz.ntmps64
 go_wp2
 go_loopw [8] (fun v8 wr =>∃ i:Nat,i≤n∧v8=.int .i64 (i:Int)∧(∀ j,j<i→xs[j]? ≠ some s)∧wr=w) (fun v8 _ =>n - (intOf v8).toNat)
 case atStart =>exact ⟨0,Nat.zero_le _,rfl,fun j h =>absurd h (by omega),rfl⟩
 case round =>
  obtain ⟨i,hi,rfl,hno,rfl⟩:=hrel
  have HNO:=yh hno
  clear hno
  by_cases hlt:i<n
  ·obtain ⟨ad,u,rfl,hadb,hx,hcell⟩:=HR.out.at_ hlt
   obtain ⟨q,hq⟩:∃ q,xs[i]? = some q:=⟨_,List.getElem?_eq_getElem (by rw [HL.out];exact hlt)⟩
   obtain rfl:u=tsv q:=by
    rw [List.getElem?_map,hq] at hx
    exact (Option.some.inj hx).symm
   have HQ:=yh hq
   clear hx hq
   unfold tsv at hcell
   by_cases hs:s=q
   ·have heq:((tx s).toList == (tx q).toList)=true:=by rw [hs];simp
    have HS:=yh hs
    clear hs
    go_wp2
    go_ret
    exact ⟨⟨_,rfl,⟨fun _ =>by rw [HS.out];exact List.mem_of_getElem? HQ.out,fun _ =>by omega⟩⟩,rfl⟩
   ·have heq:((tx s).toList == (tx q).toList)=false:=by rw [beq_eq_false_iff_ne];exact fun e =>hs (by rwa [zBd,zBd] at e)
    have HS:=yh hs
    clear hs
    go_wp2
    refine ⟨⟨i+1,by omega,by go_num,fun j hj =>?_,by first | rfl | trivial⟩,by simp [intOf];omega⟩
    rcases Nat.lt_or_ge j i with h1 | h1
    ·exact HNO.out j h1
    ·obtain rfl:j=i:=by omega
     rw [HQ.out]
     exact fun e =>HS.out (Option.some.inj e).symm
  ·obtain rfl:n=i:=by omega
   go_wp2
   go_ret
   refine ⟨⟨_,rfl,⟨fun h =>absurd h (by omega),fun h =>?_⟩⟩,rfl⟩
   obtain ⟨j,hj⟩:=List.getElem?_of_mem h
   exact absurd hj (HNO.out j (by have:=(List.getElem?_eq_some_iff.1 hj).1;have:=HL.out;omega))
theorem zDD (A:Option Addr) (n c:Nat) (xs:List (List UInt8)) (s:List UInt8) (hn:n≤1073741824) (w:World) (hr:zAD w w.heap.size 1 A n (xs.map tsv)) :
  Calls Tryz.prog 44 #[.slice A n c,.string (tx s)] w fun e w' =>(∃ q:Bool,e=.returned (.bool q)∧(q=true ↔ s ∈ xs))∧w=w':=by
 have HI:=yh (zRC A n c xs s hn w hr)
 clear hr
 go_enter Tryz.func44,Tryz.ntmps44
 go_wp2_with fail
 refine HI.out.mono ?_
 rintro e w1 ⟨⟨z,rfl,hz⟩,rfl⟩
 have HZ:=yh hz
 clear hz
 by_cases h0:0≤z
 ·have hd:decide (z<0)=false:=by rw [decide_eq_false_iff_not];omega
  go_wp2
  go_ret
  exact ⟨⟨true,by first | rfl | simp [h0],fun _ =>HZ.out.1 h0,fun _ =>rfl⟩,rfl⟩
 ·have hd:decide (z<0)=true:=by rw [decide_eq_true_iff];omega
  go_wp2
  go_ret
  exact ⟨⟨false,by first | rfl | simp [h0],fun h =>(by cases h),fun h =>absurd (HZ.out.2 h) (by omega)⟩,rfl⟩
theorem zQK (n c:Nat) (hn:n≤1000) (ad:Addr) (kf:Nat→FuncId) (cf:Nat→Array Value) (hen:∀ i,i<n→Enters Tryz.prog (kf i)) (R:Nat→World→Prop) (Fin:Int→World→Prop)
  (hrow:∀ i W,i<n→R i W→W.cell? (ad.add i)=some (.func (.func (kf i)) #[] (cf i)))
  (hact:∀ i W,i<n→R i W→Calls Tryz.prog (kf i) (cf i) W fun e w' =>∃ z:Int,e=.returned (.int .i64 z)∧(z=0→R (i+1) w')∧(z≠0→Fin z w')) (w:World) (h:R 0 w) :
  Calls Tryz.prog 69 #[.slice (some ad) n c] w fun e w' =>∃ z:Int,e=.returned (.int .i64 z)∧(z=0→R n w')∧(z≠0→Fin z w'):=by
 have HEN:=yh hen
 have HROW:=yh hrow
 have HACT:=yh hact
 have H0:=yh h
 clear hen hrow hact h
 go_enter Tryz.func69,Tryz.ntmps69
 go_wp2
 go_loopw [8] (fun v8 wr =>∃ i:Nat,i≤n∧v8=.int .i64 (i:Int)∧R i wr) (fun v8 _ =>n - (intOf v8).toNat)
 case atStart =>exact ⟨0,Nat.zero_le _,rfl,H0.out⟩
 case round =>
  obtain ⟨i,hi,rfl,hR⟩:=hrel
  by_cases hlt:i<n
  ·have hcell:=HROW.out i wr hlt hR
   have hen2:∀ (args:Array Value) (w:World),(callFunc (kf i) args).run Tryz.prog w=.ok (.enter (kf i) args) w:=HEN.out i hlt
   have HC:=yh (HACT.out i wr hlt hR)
   clear hR
   go_wp2_with fail
   refine HC.out.mono ?_
   rintro e w2 ⟨z,rfl,hz1,hz2⟩
   by_cases h0:z=0
   ·subst h0
    have HZ1:=yh (hz1 rfl)
    clear hz1 hz2
    go_wp2
    exact ⟨⟨i+1,by omega,by go_num,HZ1.out⟩,by simp [intOf];omega⟩
   ·have hz:(z == 0)=false:=by simpa using h0
    have HN:=yh h0
    have HZ2:=yh (hz2 h0)
    clear h0 hz1 hz2
    go_wp2
    go_ret
    exact ⟨z,rfl,fun h =>absurd h HN.out,fun _ =>HZ2.out⟩
  ·obtain rfl:n=i:=by omega
   have HR:=yh hR
   clear hR
   go_wp2
   go_ret
   exact ⟨0,rfl,fun _ =>HR.out,fun h =>absurd rfl h⟩
open Go.RowKit Go.Maps Go.ChangeMaps Go.WideMaps
set_option maxRecDepth 100000
theorem xkey:Keyed Tryz.prog 9:=string_keyed Tryz.underlying9
theorem zHi {s:List UInt8} (h:s.length≤maxLen):keyOf Tryz.prog 9 (.string (tx s))=some (.string s):=by
 rw [keyOf_string_mk Tryz.underlying9 (by simpa [tx,ByteArray.size] using h)]
 simp [tx]
def zFG (v:Value):Option (DataW Value×List MemPlace):=some (.held v,[])
theorem zIY {v:Value} {d:DataW Value} {ps:List MemPlace} (h:zFG v=some (d,ps)):d=.held v:=by
 unfold zFG at h
 injection h with h
 injection h with h _
 exact h.symm
def MapF (D:DataW Value) (f:List UInt8→Option Value):Prop:=∀ u z,D.atKey (.string u) z=match f u with | some x =>.held x | none =>z
theorem MapF.has {D:DataW Value} {f:List UInt8→Option Value} (h:MapF D f) (u:List UInt8):Maps.has D (.string u)=(f u).isSome:=by
 have h1:=h u
 cases e:f u with
 | none =>simp only [e] at h1;exact Maps.has_false_of_atKey h1
 | some x =>simp only [e] at h1;exact Maps.has_true_of_atKey h1
def fput (f:List UInt8→Option Value) (s:List UInt8) (v:Value):List UInt8→Option Value:=fun u =>if u=s then some v else f u
theorem MapF.put {D:DataW Value} {f:List UInt8→Option Value} (h:MapF D f) (hD:Maps.IsMap D) (s:List UInt8) (v:Value):MapF (D.put (.string s) (.held v)) (fput f s v):=by
 intro u z
 unfold fput
 by_cases e:u=s
 ·subst e
  rw [if_pos rfl]
  exact Maps.atKey_put_same hD (show WideAt.IsKeyLit (.string u) from trivial) _ _
 ·rw [if_neg e,Maps.atKey_put_other (fun e2 =>e (by injection e2))]
  exact h u z
def TMap (w:World) (b N:Nat) (f:List UInt8→Option Value):Prop:=∃ D:DataW Value,w.ownsMap Tryz.prog 9 zFG b N D∧MapF D f
theorem TMap.same {w:World} {b N:Nat} {f g:List UInt8→Option Value} (h:TMap w b N f) (e:∀ u,f u=g u):TMap w b N g:=by
 have:f=g:=funext e
 rw [← this];exact h
theorem TMap.kept {w w':World} {b N:Nat} {f:List UInt8→Option Value} {row:Option Nat} (h:TMap w b N f) (hg:w.grownBy w' row) (hne:some b≠row):TMap w' b N f:=by
 obtain ⟨D,h1,h2⟩:=h
 exact ⟨D,h1.kept hg hne,h2⟩
theorem TMap.below {w w':World} {b N:Nat} {f:List UInt8→Option Value} (h:TMap w b N f) (hb:Below w.heap.size w w'):TMap w' b N f:=by
 obtain ⟨D,h1,h2⟩:=h
 have hl:=h1.lt
 obtain ⟨es,clock,hq,r⟩:=h1
 exact ⟨D,⟨es,clock,(hb.block b hl).trans hq,r⟩,h2⟩
theorem TMap.at_heap {w w':World} {b N:Nat} {f:List UInt8→Option Value} (h:TMap w b N f) (hb:w'.heap[b]? = w.heap[b]?):TMap w' b N f:=by
 obtain ⟨D,⟨es,clock,hq,r⟩,h2⟩:=h
 exact ⟨D,⟨es,clock,hb.trans hq,r⟩,h2⟩
theorem TMap.lt {w:World} {b N:Nat} {f:List UInt8→Option Value} (h:TMap w b N f):b<w.heap.size:=by
 obtain ⟨D,h1,_⟩:=h
 exact h1.lt
theorem TMap.mono {w:World} {b N N':Nat} {f:List UInt8→Option Value} (h:TMap w b N f) (hN:N≤N'):TMap w b N' f:=by
 obtain ⟨D,h1,h2⟩:=h
 exact ⟨D,h1.mono hN,h2⟩
theorem zMS (w:World):TMap (w.alloc (.map #[] 0)) w.heap.size 0 (fun _ =>none):=⟨.map [],World.ownsMap_made w _ _ _,fun _ _ =>rfl⟩
theorem TMap.look {w:World} {b N:Nat} {f:List UInt8→Option Value} (h:TMap w b N f) {s:List UInt8} (hs:s.length≤maxLen) {t e:TypeId} (ht:Tryz.prog.underlying t=some (.map 9 e)) {z:Value} (hz:(zeroValue e).run Tryz.prog w=.ok z w) :
  (Instr.lookup t (.map (some b)) (.string (tx s)) false).run Tryz.prog w=.ok ((f s).getD z) w:=by
 obtain ⟨D,h1,h2⟩:=h
 obtain ⟨v,ps,hr,hv⟩:=h1.lookup xkey ht hz (zd:=.held z) (zp:=[]) rfl (zHi hs)
 rw [hr]
 have:=zIY hv
 rw [h2] at this
 cases e:f s with
 | none =>rw [e] at this;simp only at this;injection this with this;rw [this];rfl
 | some x =>rw [e] at this;simp only at this;injection this with this;rw [this];rfl
theorem TMap.look2 {w:World} {b N:Nat} {f:List UInt8→Option Value} (h:TMap w b N f) {s:List UInt8} (hs:s.length≤maxLen) {t e:TypeId} (ht:Tryz.prog.underlying t=some (.map 9 e)) {z:Value} (hz:(zeroValue e).run Tryz.prog w=.ok z w) :
  (Instr.lookup t (.map (some b)) (.string (tx s)) true).run Tryz.prog w=.ok (.tuple #[(f s).getD z,.bool (f s).isSome]) w:=by
 obtain ⟨D,h1,h2⟩:=h
 obtain ⟨v,ps,hr,hv⟩:=h1.look_ok xkey ht hz (zd:=.held z) (zp:=[]) rfl (zHi hs)
 rw [hr,h2.has]
 have:=zIY hv
 rw [h2] at this
 cases e:f s with
 | none =>rw [e] at this;simp only at this;injection this with this;rw [this];rfl
 | some x =>rw [e] at this;simp only at this;injection this with this;rw [this];rfl
def setF (S:List (List UInt8)):List UInt8→Option Value:=fun u =>if u ∈ S then some (.bool true) else none
open Go.RowKit Go.Maps Go.ChangeMaps Go.WideMaps Go.Sort
set_option maxRecDepth 100000
def TSet (w:World) (b:Nat) (S:List (List UInt8)):Prop:=∃ D:DataW Value,w.ownsMap Tryz.prog 9 zFG b S.length D∧MapF D (setF S)∧Maps.size D=S.length∧S.Nodup
theorem TSet.map {w:World} {b:Nat} {S:List (List UInt8)} (h:TSet w b S):TMap w b S.length (setF S):=by
 obtain ⟨D,h1,h2,_⟩:=h
 exact ⟨D,h1,h2⟩
theorem TSet.lt {w:World} {b:Nat} {S:List (List UInt8)} (h:TSet w b S):b<w.heap.size:=h.map.lt
theorem TSet.kept {w w':World} {b:Nat} {S:List (List UInt8)} {row:Option Nat} (h:TSet w b S) (hg:w.grownBy w' row) (hne:some b≠row):TSet w' b S:=by
 obtain ⟨D,h1,h2⟩:=h
 exact ⟨D,h1.kept hg hne,h2⟩
theorem TSet.alloc {w:World} {b:Nat} {S:List (List UInt8)} (h:TSet w b S) (o:Obj):TSet (w.alloc o) b S:=h.kept (World.grownBy_alloc w o none) (by simp)
theorem TSet.at_heap {w w':World} {b:Nat} {S:List (List UInt8)} (h:TSet w b S) (hb:w'.heap[b]? = w.heap[b]?):TSet w' b S:=by
 obtain ⟨D,⟨es,clock,hq,r⟩,h2⟩:=h
 exact ⟨D,⟨es,clock,hb.trans hq,r⟩,h2⟩
def zEG (w:World) (b r:Nat) (S done:List (List UInt8)) (cnt:Nat):Prop:=∃ (D:DataW Value) (left:Lit→Bool),w.ranges Tryz.prog 9 zFG b r S.length D left cnt∧MapF D (setF S)∧Maps.size D=S.length∧S.Nodup∧Collected D left done
theorem zEG.kept {w w':World} {b r cnt:Nat} {S done:List (List UInt8)} {row:Option Nat} (h:zEG w b r S done cnt) (hg:w.grownBy w' row) (hb:some b≠row) (hr:some r≠row):zEG w' b r S done cnt:=by
 obtain ⟨D,left,h1,h2⟩:=h
 exact ⟨D,left,h1.kept hg hb hr,h2⟩
theorem zEG.left_eq {w:World} {b r cnt:Nat} {S done:List (List UInt8)} (h:zEG w b r S done cnt):w.rangeLeft b r=cnt:=by
 obtain ⟨D,left,h1,_⟩:=h
 exact h1.left_eq
theorem zEG.set {w:World} {b r cnt:Nat} {S done:List (List UInt8)} (h:zEG w b r S done cnt):TSet w b S:=by
 obtain ⟨D,left,h1,h2,h3,h4,_⟩:=h
 exact ⟨D,h1.owns,h2,h3,h4⟩
structure Fl where
 body:List UInt8
 safe:Nat
def zAW (a:Bool×Int):Bool:=a.1 && a.2 == 0
def zAI (a:Bool×Int):Bool×Int:=if a.1=true then (if a.2=0 then (false,0) else (true,a.2 - 1)) else a
def zAN (a:Bool×Int):Prop:=a.1=true→0≤a.2∧a.2≤9223372036854775807
def zAM (w:World) (p b:Nat) (down:Bool) (f g:Bool×Int):Prop:=w.heap[p]? = some (.cells #[.map (some b),.bool down,.bool f.1,.int .i64 f.2,.bool g.1,.int .i64 g.2] 73 (0,0))
theorem zAM.lt {w:World} {p b:Nat} {down:Bool} {f g:Bool×Int} (h:zAM w p b down f g):p<w.heap.size:=(Array.getElem?_eq_some_iff.1 h).1
theorem zAM.kept {w w':World} {p b:Nat} {down:Bool} {f g:Bool×Int} {row:Option Nat} (h:zAM w p b down f g) (hg:w.grownBy w' row) (hne:some p≠row):zAM w' p b down f g:=(hg.block p h.lt hne).trans h
theorem zAM.below {w w':World} {p b:Nat} {down:Bool} {f g:Bool×Int} (h:zAM w p b down f g) (hb:Below w.heap.size w w'):zAM w' p b down f g:=(hb.block p h.lt).trans h
theorem zAo {w:World} {p i:Nat} {cs:Array Value} {T:TypeId} (h:w.heap[p]? = some (.cells cs T (0,0))) (u:Value):(w.setCell ⟨p,i,none⟩ u).heap[p]? = some (.cells (cs.setIfInBounds i u) T (0,0))∧w.grownBy (w.setCell ⟨p,i,none⟩ u) (some p):=by
 exact ⟨zAF h i u,rfl,rfl,rfl,by simp,fun k _ hne =>Below.heap_setCell _ _ _ k (fun e =>hne (by rw [show k=p from e]))⟩
open Go.RowKit Go.Maps Go.Sort
theorem zBr (p b:Nat) (down:Bool) (f g:Bool×Int) (hf:zAN f) (w:World) (h:zAM w p b down f g) :
  Calls Tryz.prog 92 #[.pointer (some ⟨p,2,none⟩)] w fun e w' =>e=.returned (.bool (zAW f))∧zAM w' p b down (zAI f) g∧w.grownBy w' (some p):=by
 obtain ⟨f1,f2⟩:=f
 obtain ⟨g1,g2⟩:=g
 unfold zAM at h
 simp only at h
 have HBX:=yh h
 have q0:=zAA (i:=2) h rfl
 have q1:=zAA (i:=3) h rfl
 have fz0:w.frozen? ⟨p,2,none⟩=false:=zAC h
 have fz1:w.frozen? ⟨p,3,none⟩=false:=zAC h
 clear h
 cases f1 with
 | false =>
  go_enter Tryz.func92,Tryz.ntmps92
  go_wp2
  go_ret
  exact ⟨rfl,HBX.out,World.grownBy.refl _ _⟩
 | true =>
  by_cases hz:f2=0
  ·subst hz
   go_enter Tryz.func92,Tryz.ntmps92
   go_wp2
   go_ret
   obtain ⟨h1,g1'⟩:=zAo HBX.out (i:=2) (.bool false)
   obtain ⟨h2,g2'⟩:=zAo h1 (i:=3) (.int .i64 0)
   exact ⟨rfl,h2,g1'.trans g2'⟩
  ·have hne:(f2 == 0)=false:=by rw [beq_eq_false_iff_ne];exact hz
   obtain ⟨b1,b2⟩:=hf rfl
   have HL:Hid (zAI (true,f2)=(true,f2 - 1)):=by show zAI _=_;unfold zAI;rw [if_pos rfl,if_neg hz]
   have HN:Hid (zAW (true,f2)=false):=by show zAW _=_;unfold zAW;simp [hz]
   have HS:=yh (zAo HBX.out (i:=3) (.int .i64 (f2 - 1)))
   rw [HL.out,HN.out]
   clear hz
   go_enter Tryz.func92,Tryz.ntmps92
   go_wp2
   go_ret
   exact ⟨rfl,HS.out.1,HS.out.2⟩
theorem zBs (p b:Nat) (down:Bool) (f g:Bool×Int) (hf:zAN g) (w:World) (h:zAM w p b down f g) :
  Calls Tryz.prog 92 #[.pointer (some ⟨p,4,none⟩)] w fun e w' =>e=.returned (.bool (zAW g))∧zAM w' p b down f (zAI g)∧w.grownBy w' (some p):=by
 obtain ⟨f1,f2⟩:=f
 obtain ⟨g1,g2⟩:=g
 unfold zAM at h
 simp only at h
 have HBX:=yh h
 have q0:=zAA (i:=4) h rfl
 have q1:=zAA (i:=5) h rfl
 have fz0:w.frozen? ⟨p,4,none⟩=false:=zAC h
 have fz1:w.frozen? ⟨p,5,none⟩=false:=zAC h
 clear h
 cases g1 with
 | false =>
  go_enter Tryz.func92,Tryz.ntmps92
  go_wp2
  go_ret
  exact ⟨rfl,HBX.out,World.grownBy.refl _ _⟩
 | true =>
  by_cases hz:g2=0
  ·subst hz
   go_enter Tryz.func92,Tryz.ntmps92
   go_wp2
   go_ret
   obtain ⟨h1,g1'⟩:=zAo HBX.out (i:=4) (.bool false)
   obtain ⟨h2,g2'⟩:=zAo h1 (i:=5) (.int .i64 0)
   exact ⟨rfl,h2,g1'.trans g2'⟩
  ·have hne:(g2 == 0)=false:=by rw [beq_eq_false_iff_ne];exact hz
   obtain ⟨b1,b2⟩:=hf rfl
   have HL:Hid (zAI (true,g2)=(true,g2 - 1)):=by show zAI _=_;unfold zAI;rw [if_pos rfl,if_neg hz]
   have HN:Hid (zAW (true,g2)=false):=by show zAW _=_;unfold zAW;simp [hz]
   have HS:=yh (zAo HBX.out (i:=5) (.int .i64 (g2 - 1)))
   rw [HL.out,HN.out]
   clear hz
   go_enter Tryz.func92,Tryz.ntmps92
   go_wp2
   go_ret
   exact ⟨rfl,HS.out.1,HS.out.2⟩
def zCn (n:Int):Bool×Int:=(decide (n ≥ 0),n)
theorem zMb (n:Int) (w:World):Calls Tryz.prog 28 #[.int .i64 n] w fun e w' =>e=.returned (.agg #[.bool (zCn n).1,.int .i64 (zCn n).2])∧Below w.heap.size w w':=by
 unfold zCn
 have HB:=yh ((Below.refl w.heap.size w).alloc (Nat.le_refl _) (.cells #[.bool (decide (n ≥ 0)),.int .i64 n] 71))
 have hnew:=zAE w (.cells #[.bool (decide (n ≥ 0)),.int .i64 n] 71)
 have q0:=zAA (i:=0) hnew rfl
 have q1:=zAA (i:=1) hnew rfl
 clear hnew
 go_enter Tryz.func28,Tryz.ntmps28
 go_wp2
 refine bodyPost_ret (v:=.agg #[.bool (decide (n ≥ 0)),.int .i64 n]) (by simp [results,Tryz.results28,go_sem,q0,q1]) rfl ⟨rfl,HB.out⟩
end Go.Proofs.YtekchkfjgofnkaaGreatDoor
