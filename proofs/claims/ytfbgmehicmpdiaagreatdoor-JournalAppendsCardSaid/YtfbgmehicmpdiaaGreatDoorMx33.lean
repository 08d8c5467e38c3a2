/- Texts of one proof. -/
import Derived.Carry
import Derived.LaidMore
import Derived.Laws.IdiomCopy
import Derived.Laws.IdiomMaps
import Derived.MakeChecks
import Derived.Maps.RangeWalk
import Derived.Sort.KeysCollected
import Derived.Test.YtfbgmehicmpdiaaGreatDoorRows
import Derived.Test.YtfbgmehicmpdiaaGreatDoorMx22
import Derived.Test.YtfbgmehicmpdiaaGreatDoorMx25
set_option maxRecDepth 100000
set_option maxHeartbeats 8000000
namespace Go.Proofs.YtfbgmehicmpdiaaGreatDoor
open Go.ChangeShapes Go.WideShapes Go.ChangeAt Go.RowKit
theorem zIZ {P:Program} {W:World} {n:String} {g len:Nat} {t e:TypeId} {k:IntKind} {zs:List Int} (hg:P.globalNamed n=some g) (ht0:(P.globals[g]?).map (·.type)=some t)
  (ht:P.underlying t=some (.array len e)) (he:P.underlying e=some (.int k)) (hc:P.cellsOf e=1) (h:laidMet P [(n,.agg (zs.map fun z =>.lit (.int k z)))] W) :
  ∀ (i:Nat) (z:Int),zs[i]? = some z→W.cell? ⟨g,i,none⟩=some (.int k z):=by
 obtain ⟨ps,⟨g',t',cs,fuel,p,q,hg',ht',hvar,hd,_,_⟩,_⟩:=h
 obtain rfl:=Option.some.inj (hg.symm.trans hg')
 obtain rfl:=Option.some.inj (ht0.symm.trans ht')
 obtain ⟨xs,m,rfl,hx,hlen,hxl,hel⟩:=DataW.trod_array ht hd
 simp only [Prod.mk.injEq,DataW.agg.injEq] at hx
 intro i z hz
 have h1:(xs.map (·.1))[i]? = some (.lit (.int k z)):=by rw [← hx.1,List.getElem?_map,hz];rfl
 rw [List.getElem?_map] at h1
 obtain ⟨y,hy,hy1⟩:=Option.map_eq_some_iff.1 h1
 have hi:i<len:=by rw [← hxl];exact (List.getElem?_eq_some_iff.1 hy).1
 have h2:=hel i hi
 rw [hy,hc,Nat.mul_one] at h2
 obtain ⟨n',e1,e2,_⟩:=DataW.trod_int he h2
 rw [e2] at hy1
 have hnz:n'=z:=by simpa using hy1
 subst hnz
 have h3:cs.toList[i]? = some (.int k n'):=by
  have:=congrArg (fun l:List Value =>l[0]?) e1
  simpa [List.getElem?_take,List.getElem?_drop] using this
 rw [World.var?_cell hg hvar i]
 simpa using h3
theorem zPB:Tryz.prog.globalNamed "tephra/crc.halves" = some 0:=by kernel_rfl
theorem zPn:(Tryz.prog.globals[0]?).map (·.type)=some 139:=by kernel_rfl
theorem zOu:Tryz.prog.cellsOf 118=1:=by kernel_rfl
theorem zPQ {W:World} (h:laidMetH Tryz.prog [("tephra/crc.halves",Rows.laid_tephra_crc_halves)] W):Laid W:=by
 rw [MakeChecks.laidMetH_plain _ _ _ (by kernel_rfl)] at h
 have h1:=zIZ (zs:=tab.map (fun n:Nat =>(n:Int))) zPB zPn Tryz.underlying139 Tryz.underlying118 zOu h
 intro i hi
 refine h1 i (tabN i) ?_
 have:∀ j:Fin 16,(tab.map (fun n:Nat =>(n:Int)))[j.val]? = some ((tabN j.val:Nat):Int):=by decide
 exact this ⟨i,hi⟩
open Go.ChangeShapes Go.WideShapes Go.ChangeAt Go.RowKit Go.Deep
theorem zKk {H:Type} {enc:TypeId×Value→H} {W:World} {v:Value} {d:DataW H} {ps:List MemPlace} {r0:Reach} {b0:Nat} (hval:Value.okWide Tryz.prog W r0 b0 22 v) (hd:DataW.Trod enc Tryz.prog W 0 (fun _ =>true) true 22 v d ps) :
  ∃ (A:Option Addr) (n c:Nat) (xs:List Rw),v=.slice A n c∧n≤c∧n≤maxLen∧(A=none→c=0)∧(∀ x ∈ xs,(Fits x.r x.l∧x.n≤maxLen)∧Nums x.r x.l)∧Recs W W.heap.size A n xs:=by
 obtain ⟨A,n,c,xs,h1,h2,h3,h4,h5⟩:=zKj hval hd
 have h4':∀ x ∈ xs,(Fits x.r x.l∧x.n≤maxLen)∧Nums x.r x.l:=fun x hx =>⟨⟨(h4 x hx).1,(h4 x hx).2.1⟩,(h4 x hx).2.2⟩
 obtain ⟨fuel,hf⟩:=hd
 rcases Go.Deep.open_slice Tryz.underlying22 hf with ⟨hcs,_⟩ | ⟨ad,n',c',m,k,D,Pl,hcs,_,hl,hmx,hm,_,hi⟩
 ·rw [h1] at hcs
  have e:Value.slice A n c=.slice none 0 0:=by simpa [Value.cells] using hcs
  injection e with e1 e2 e3
  subst e1 e2 e3
  exact ⟨_,_,_,xs,h1,Nat.le_refl _,h2,fun _ =>rfl,h4',h5⟩
 ·rw [h1] at hcs
  have e:Value.slice A n c=.slice (some ad) n' c':=by simpa [Value.cells] using hcs
  injection e with e1 e2 e3
  subst e1 e2 e3
  exact ⟨_,_,_,xs,h1,hl,h2,fun h =>(by cases h),h4',h5⟩
theorem zFB {H:Type} {enc:TypeId×Value→H} {P:Program} (hl:laidOutB P=true) {W W':World} (hb:Below W.heap.size W W') :
  ∀ {ts:List TypeId} {vs:List Value} {ds:List (DataW H)} {ps:List MemPlace},(∀ t ∈ ts,P.readableRec t=true∧t<P.types.size) →
   DataW.TrodAll enc P W 0 (fun _ =>true) true ts vs ds ps→(∀ x ∈ ps,x.block<W.heap.size)→DataW.TrodAll enc P W' 0 (fun b =>decide (b<W.heap.size)) true ts vs ds ps
 | [],vs,ds,ps,_,h,_ =>by
  obtain ⟨rfl,rfl,rfl⟩:=trodAll_nil h
  exact trodAll_mk0
 | t :: ts,vs,ds,ps,hr,h,hlt =>by
  obtain ⟨v,vs1,d,ds1,a,b,rfl,rfl,rfl,h1,h2⟩:=trodAll_cons h
  have ht:=hr t (by simp)
  exact trodAll_cons_mk (Below.trod hl ht.1 ht.2 h1 hb (fun x hx =>hlt x (by simp [hx])))
   (zFB hl hb (fun t' h' =>hr t' (by simp [h'])) h2 (fun x hx =>hlt x (by simp [hx])))
theorem zNh {H:Type} {enc:TypeId×Value→H} {P:Program} {f:Func} {s:ChangeSpec} {tb:TypeId} (hl:laidOutB P=true) (htb:P.underlying tb=some .bool)
  (hres:f.resultTypes=#[tb]) (hpar:∀ t ∈ f.params.toList,P.readableRec t=true∧t<P.types.size) (hvars:s.vars=[])
  {W W':World} {args:Array Value} {ds gs:List (DataW H)} {before:List MemPlace}
  (hW:DataW.Whole enc P f.params.toList s.vars false W args.toList ds gs before) (hb:Below W.heap.size W W')
  (hfn:s.fn H (ds++gs)={ results:=[.lit (.bool true)],args:=ds,vars:=[] }) :
  s.post enc P f false true false false W args (.bool true) W':=by
 have hW':=hW
 obtain ⟨p,q,hA,hV,rfl,_,_⟩:=hW
 rw [hvars] at hV
 obtain ⟨rfl,rfl⟩:=trodVars_none hV
 refine ⟨ds,[],p++[],[],p,[],hW',?_,?_,?_,hb.frame _,fun h =>by cases h⟩
 ·rw [hfn,hres]
  exact trodAll_mk1 (shut_bool htb true)
 ·rw [hfn]
  exact zFB hl hb hpar hA (fun x hx =>by simpa using hW'.lt x (by simpa using hx))
 ·rw [hfn,hvars]
  exact rfl
open Go.RowKit
theorem zPI (A:Option Addr) (n c:Nat) (xs:List (List UInt8)) (s:List UInt8) (hn:n≤1073741824) (w:World) (hr:zAE w w.heap.size 1 A n (xs.map tsv)) :
  Calls Tryz.prog 64 #[.slice A n c,.string (tx s)] w fun e w' =>(∃ z:Int,e=.returned (.int .i64 z)∧(0≤z ↔ s ∈ xs))∧w=w':=by
 have hl:xs.length=n:=by have:=hr.1;simpa using this
 have HR:=yh hr
 have HL:=yh hl
 clear hr hl
 go_enter Tryz.func64,Tryz.ntmps64
 go_wp2
 go_loopw [8] (fun v8 wr =>∃ i:Nat,i≤n∧v8=.int .i64 (i:Int)∧(∀ j,j<i→xs[j]? ≠ some s)∧wr=w) (fun v8 _ =>n - (intOf v8).toNat)
 case atStart =>exact ⟨0,Nat.zero_le _,rfl,fun j h =>absurd h (by omega),rfl⟩
 case round =>
  obtain ⟨i,hi,rfl,hno,rfl⟩:=hrel
  have HNO:=yh hno
  clear hno
  by_cases hlt:i<n
  ·obtain ⟨ad,u,rfl,hadb,hx,hcell⟩:=HR.out.at_ hlt
   obtain ⟨q,hq⟩:∃ q,xs[i]? = some q:=⟨_,List.getElem?_eq_getElem (by rw [HL.out];exact hlt)⟩
   obtain rfl:u=tsv q:=by
    rw [List.getElem?_map,hq] at hx
    exact (Option.some.inj hx).symm
   have HQ:=yh hq
   clear hx hq
   unfold tsv at hcell
   by_cases hs:s=q
   ·have heq:((tx s).toList == (tx q).toList)=true:=by rw [hs];simp
    have HS:=yh hs
    clear hs
    go_wp2
    go_ret
    exact ⟨⟨_,rfl,⟨fun _ =>by rw [HS.out];exact List.mem_of_getElem? HQ.out,fun _ =>by omega⟩⟩,rfl⟩
   ·have heq:((tx s).toList == (tx q).toList)=false:=by rw [beq_eq_false_iff_ne];exact fun e =>hs (by rwa [zBe,zBe] at e)
    have HS:=yh hs
    clear hs
    go_wp2
    refine ⟨⟨i+1,by omega,by go_num,fun j hj =>?_,by first | rfl | trivial⟩,by simp [intOf];omega⟩
    rcases Nat.lt_or_ge j i with h1 | h1
    ·exact HNO.out j h1
    ·obtain rfl:j=i:=by omega
     rw [HQ.out]
     exact fun e =>HS.out (Option.some.inj e).symm
  ·obtain rfl:n=i:=by omega
   go_wp2
   go_ret
   refine ⟨⟨_,rfl,⟨fun h =>absurd h (by omega),fun h =>?_⟩⟩,rfl⟩
   obtain ⟨j,hj⟩:=List.getElem?_of_mem h
   exact absurd hj (HNO.out j (by have:=(List.getElem?_eq_some_iff.1 hj).1;have:=HL.out;omega))
theorem zIO (A:Option Addr) (n c:Nat) (xs:List (List UInt8)) (s:List UInt8) (hn:n≤1073741824) (w:World) (hr:zAE w w.heap.size 1 A n (xs.map tsv)) :
  Calls Tryz.prog 48 #[.slice A n c,.string (tx s)] w fun e w' =>(∃ q:Bool,e=.returned (.bool q)∧(q=true ↔ s ∈ xs))∧w=w':=by
 have HI:=yh (zPI A n c xs s hn w hr)
 clear hr
 go_enter Tryz.func48,Tryz.ntmps48
 go_wp2_with fail
 refine HI.out.mono ?_
 rintro e w1 ⟨⟨z,rfl,hz⟩,rfl⟩
 have HZ:=yh hz
 clear hz
 by_cases h0:0≤z
 ·have hd:decide (z<0)=false:=by rw [decide_eq_false_iff_not];omega
  go_wp2
  go_ret
  exact ⟨⟨true,by first | rfl | simp [h0],fun _ =>HZ.out.1 h0,fun _ =>rfl⟩,rfl⟩
 ·have hd:decide (z<0)=true:=by rw [decide_eq_true_iff];omega
  go_wp2
  go_ret
  exact ⟨⟨false,by first | rfl | simp [h0],fun h =>(by cases h),fun h =>absurd (HZ.out.2 h) (by omega)⟩,rfl⟩
theorem zOR (n c:Nat) (hn:n≤1000) (ad:Addr) (kf:Nat→FuncId) (cf:Nat→Array Value) (hen:∀ i,i<n→Enters Tryz.prog (kf i)) (R:Nat→World→Prop) (Fin:Int→World→Prop)
  (hrow:∀ i W,i<n→R i W→W.cell? (ad.add i)=some (.func (.func (kf i)) #[] (cf i)))
  (hact:∀ i W,i<n→R i W→Calls Tryz.prog (kf i) (cf i) W fun e w' =>∃ z:Int,e=.returned (.int .i64 z)∧(z=0→R (i+1) w')∧(z≠0→Fin z w')) (w:World) (h:R 0 w) :
  Calls Tryz.prog 26 #[.slice (some ad) n c] w fun e w' =>∃ z:Int,e=.returned (.int .i64 z)∧(z=0→R n w')∧(z≠0→Fin z w'):=by
 have HEN:=yh hen
 have HROW:=yh hrow
 have HACT:=yh hact
 have H0:=yh h
 clear hen hrow hact h
 go_enter Tryz.func26,Tryz.ntmps26
 go_wp2
 go_loopw [8] (fun v8 wr =>∃ i:Nat,i≤n∧v8=.int .i64 (i:Int)∧R i wr) (fun v8 _ =>n - (intOf v8).toNat)
 case atStart =>exact ⟨0,Nat.zero_le _,rfl,H0.out⟩
 case round =>
  obtain ⟨i,hi,rfl,hR⟩:=hrel
  by_cases hlt:i<n
  ·have hcell:=HROW.out i wr hlt hR
   have hen2:∀ (args:Array Value) (w:World),(callFunc (kf i) args).run Tryz.prog w=.ok (.enter (kf i) args) w:=HEN.out i hlt
   have HC:=yh (HACT.out i wr hlt hR)
   clear hR
   go_wp2_with fail
   refine HC.out.mono ?_
   rintro e w2 ⟨z,rfl,hz1,hz2⟩
   by_cases h0:z=0
   ·subst h0
    have HZ1:=yh (hz1 rfl)
    clear hz1 hz2
    go_wp2
    exact ⟨⟨i+1,by omega,by go_num,HZ1.out⟩,by simp [intOf];omega⟩
   ·have hz:(z == 0)=false:=by simpa using h0
    have HN:=yh h0
    have HZ2:=yh (hz2 h0)
    clear h0 hz1 hz2
    go_wp2
    go_ret
    exact ⟨z,rfl,fun h =>absurd h HN.out,fun _ =>HZ2.out⟩
  ·obtain rfl:n=i:=by omega
   have HR:=yh hR
   clear hR
   go_wp2
   go_ret
   exact ⟨0,rfl,fun _ =>HR.out,fun h =>absurd rfl h⟩
open Go.RowKit Go.Maps Go.ChangeMaps Go.WideMaps
set_option maxRecDepth 100000
theorem xkey:Keyed Tryz.prog 9:=string_keyed Tryz.underlying9
theorem zGw {s:List UInt8} (h:s.length≤maxLen):keyOf Tryz.prog 9 (.string (tx s))=some (.string s):=by
 rw [keyOf_string_mk Tryz.underlying9 (by simpa [tx,ByteArray.size] using h)]
 simp [tx]
def zEh (v:Value):Option (DataW Value×List MemPlace):=some (.held v,[])
theorem zHi {v:Value} {d:DataW Value} {ps:List MemPlace} (h:zEh v=some (d,ps)):d=.held v:=by
 unfold zEh at h
 injection h with h
 injection h with h _
 exact h.symm
def MapF (D:DataW Value) (f:List UInt8→Option Value):Prop:=∀ u z,D.atKey (.string u) z=match f u with | some x =>.held x | none =>z
theorem MapF.has {D:DataW Value} {f:List UInt8→Option Value} (h:MapF D f) (u:List UInt8):Maps.has D (.string u)=(f u).isSome:=by
 have h1:=h u
 cases e:f u with
 | none =>simp only [e] at h1;exact Maps.has_false_of_atKey h1
 | some x =>simp only [e] at h1;exact Maps.has_true_of_atKey h1
def fput (f:List UInt8→Option Value) (s:List UInt8) (v:Value):List UInt8→Option Value:=fun u =>if u=s then some v else f u
theorem MapF.put {D:DataW Value} {f:List UInt8→Option Value} (h:MapF D f) (hD:Maps.IsMap D) (s:List UInt8) (v:Value):MapF (D.put (.string s) (.held v)) (fput f s v):=by
 intro u z
 unfold fput
 by_cases e:u=s
 ·subst e
  rw [if_pos rfl]
  exact Maps.atKey_put_same hD (show WideAt.IsKeyLit (.string u) from trivial) _ _
 ·rw [if_neg e,Maps.atKey_put_other (fun e2 =>e (by injection e2))]
  exact h u z
def TMap (w:World) (b N:Nat) (f:List UInt8→Option Value):Prop:=∃ D:DataW Value,w.ownsMap Tryz.prog 9 zEh b N D∧MapF D f
theorem TMap.same {w:World} {b N:Nat} {f g:List UInt8→Option Value} (h:TMap w b N f) (e:∀ u,f u=g u):TMap w b N g:=by
 have:f=g:=funext e
 rw [← this];exact h
theorem TMap.kept {w w':World} {b N:Nat} {f:List UInt8→Option Value} {row:Option Nat} (h:TMap w b N f) (hg:w.grownBy w' row) (hne:some b≠row):TMap w' b N f:=by
 obtain ⟨D,h1,h2⟩:=h
 exact ⟨D,h1.kept hg hne,h2⟩
theorem TMap.below {w w':World} {b N:Nat} {f:List UInt8→Option Value} (h:TMap w b N f) (hb:Below w.heap.size w w'):TMap w' b N f:=by
 obtain ⟨D,h1,h2⟩:=h
 have hl:=h1.lt
 obtain ⟨es,clock,hq,r⟩:=h1
 exact ⟨D,⟨es,clock,(hb.block b hl).trans hq,r⟩,h2⟩
theorem TMap.at_heap {w w':World} {b N:Nat} {f:List UInt8→Option Value} (h:TMap w b N f) (hb:w'.heap[b]? = w.heap[b]?):TMap w' b N f:=by
 obtain ⟨D,⟨es,clock,hq,r⟩,h2⟩:=h
 exact ⟨D,⟨es,clock,hb.trans hq,r⟩,h2⟩
theorem TMap.lt {w:World} {b N:Nat} {f:List UInt8→Option Value} (h:TMap w b N f):b<w.heap.size:=by
 obtain ⟨D,h1,_⟩:=h
 exact h1.lt
theorem TMap.mono {w:World} {b N N':Nat} {f:List UInt8→Option Value} (h:TMap w b N f) (hN:N≤N'):TMap w b N' f:=by
 obtain ⟨D,h1,h2⟩:=h
 exact ⟨D,h1.mono hN,h2⟩
theorem zKz (w:World):TMap (w.alloc (.map #[] 0)) w.heap.size 0 (fun _ =>none):=⟨.map [],World.ownsMap_made w _ _ _,fun _ _ =>rfl⟩
theorem TMap.look {w:World} {b N:Nat} {f:List UInt8→Option Value} (h:TMap w b N f) {s:List UInt8} (hs:s.length≤maxLen) {t e:TypeId} (ht:Tryz.prog.underlying t=some (.map 9 e)) {z:Value} (hz:(zeroValue e).run Tryz.prog w=.ok z w) :
  (Instr.lookup t (.map (some b)) (.string (tx s)) false).run Tryz.prog w=.ok ((f s).getD z) w:=by
 obtain ⟨D,h1,h2⟩:=h
 obtain ⟨v,ps,hr,hv⟩:=h1.lookup xkey ht hz (zd:=.held z) (zp:=[]) rfl (zGw hs)
 rw [hr]
 have:=zHi hv
 rw [h2] at this
 cases e:f s with
 | none =>rw [e] at this;simp only at this;injection this with this;rw [this];rfl
 | some x =>rw [e] at this;simp only at this;injection this with this;rw [this];rfl
theorem TMap.look2 {w:World} {b N:Nat} {f:List UInt8→Option Value} (h:TMap w b N f) {s:List UInt8} (hs:s.length≤maxLen) {t e:TypeId} (ht:Tryz.prog.underlying t=some (.map 9 e)) {z:Value} (hz:(zeroValue e).run Tryz.prog w=.ok z w) :
  (Instr.lookup t (.map (some b)) (.string (tx s)) true).run Tryz.prog w=.ok (.tuple #[(f s).getD z,.bool (f s).isSome]) w:=by
 obtain ⟨D,h1,h2⟩:=h
 obtain ⟨v,ps,hr,hv⟩:=h1.look_ok xkey ht hz (zd:=.held z) (zp:=[]) rfl (zGw hs)
 rw [hr,h2.has]
 have:=zHi hv
 rw [h2] at this
 cases e:f s with
 | none =>rw [e] at this;simp only at this;injection this with this;rw [this];rfl
 | some x =>rw [e] at this;simp only at this;injection this with this;rw [this];rfl
def setF (S:List (List UInt8)):List UInt8→Option Value:=fun u =>if u ∈ S then some (.bool true) else none
open Go.RowKit Go.Maps Go.ChangeMaps Go.WideMaps Go.Sort
set_option maxRecDepth 100000
def TSet (w:World) (b:Nat) (S:List (List UInt8)):Prop:=∃ D:DataW Value,w.ownsMap Tryz.prog 9 zEh b S.length D∧MapF D (setF S)∧Maps.size D=S.length∧S.Nodup
theorem TSet.map {w:World} {b:Nat} {S:List (List UInt8)} (h:TSet w b S):TMap w b S.length (setF S):=by
 obtain ⟨D,h1,h2,_⟩:=h
 exact ⟨D,h1,h2⟩
theorem TSet.lt {w:World} {b:Nat} {S:List (List UInt8)} (h:TSet w b S):b<w.heap.size:=h.map.lt
theorem TSet.kept {w w':World} {b:Nat} {S:List (List UInt8)} {row:Option Nat} (h:TSet w b S) (hg:w.grownBy w' row) (hne:some b≠row):TSet w' b S:=by
 obtain ⟨D,h1,h2⟩:=h
 exact ⟨D,h1.kept hg hne,h2⟩
theorem TSet.alloc {w:World} {b:Nat} {S:List (List UInt8)} (h:TSet w b S) (o:Obj):TSet (w.alloc o) b S:=h.kept (World.grownBy_alloc w o none) (by simp)
theorem TSet.at_heap {w w':World} {b:Nat} {S:List (List UInt8)} (h:TSet w b S) (hb:w'.heap[b]? = w.heap[b]?):TSet w' b S:=by
 obtain ⟨D,⟨es,clock,hq,r⟩,h2⟩:=h
 exact ⟨D,⟨es,clock,hb.trans hq,r⟩,h2⟩
def zFD (w:World) (b r:Nat) (S done:List (List UInt8)) (cnt:Nat):Prop:=∃ (D:DataW Value) (left:Lit→Bool),w.ranges Tryz.prog 9 zEh b r S.length D left cnt∧MapF D (setF S)∧Maps.size D=S.length∧S.Nodup∧Collected D left done
theorem zFD.kept {w w':World} {b r cnt:Nat} {S done:List (List UInt8)} {row:Option Nat} (h:zFD w b r S done cnt) (hg:w.grownBy w' row) (hb:some b≠row) (hr:some r≠row):zFD w' b r S done cnt:=by
 obtain ⟨D,left,h1,h2⟩:=h
 exact ⟨D,left,h1.kept hg hb hr,h2⟩
theorem zFD.set {w:World} {b r cnt:Nat} {S done:List (List UInt8)} (h:zFD w b r S done cnt):TSet w b S:=by
 obtain ⟨D,left,h1,h2,h3,h4,_⟩:=h
 exact ⟨D,h1.owns,h2,h3,h4⟩
structure Fl where
 body:List UInt8
 safe:Nat
def zAb (a:Bool×Int):Bool:=a.1 && a.2 == 0
def zAH (a:Bool×Int):Bool×Int:=if a.1=true then (if a.2=0 then (false,0) else (true,a.2 - 1)) else a
def zAX (a:Bool×Int):Prop:=a.1=true→0≤a.2∧a.2≤9223372036854775807
def zAL (w:World) (p b:Nat) (down:Bool) (f g:Bool×Int):Prop:=w.heap[p]? = some (.cells #[.map (some b),.bool down,.bool f.1,.int .i64 f.2,.bool g.1,.int .i64 g.2] 59 (0,0))
theorem zAL.lt {w:World} {p b:Nat} {down:Bool} {f g:Bool×Int} (h:zAL w p b down f g):p<w.heap.size:=(Array.getElem?_eq_some_iff.1 h).1
theorem zAL.kept {w w':World} {p b:Nat} {down:Bool} {f g:Bool×Int} {row:Option Nat} (h:zAL w p b down f g) (hg:w.grownBy w' row) (hne:some p≠row):zAL w' p b down f g:=(hg.block p h.lt hne).trans h
theorem zAL.below {w w':World} {p b:Nat} {down:Bool} {f g:Bool×Int} (h:zAL w p b down f g) (hb:Below w.heap.size w w'):zAL w' p b down f g:=(hb.block p h.lt).trans h
theorem zAf {w:World} {p i:Nat} {cs:Array Value} {T:TypeId} (h:w.heap[p]? = some (.cells cs T (0,0))) (u:Value):(w.setCell ⟨p,i,none⟩ u).heap[p]? = some (.cells (cs.setIfInBounds i u) T (0,0))∧w.grownBy (w.setCell ⟨p,i,none⟩ u) (some p):=by
 exact ⟨zAF h i u,rfl,rfl,rfl,by simp,fun k _ hne =>Below.heap_setCell _ _ _ k (fun e =>hne (by rw [show k=p from e]))⟩
open Go.RowKit Go.Maps Go.Sort
theorem zBu (p b:Nat) (down:Bool) (f g:Bool×Int) (hf:zAX f) (w:World) (h:zAL w p b down f g) :
  Calls Tryz.prog 44 #[.pointer (some ⟨p,2,none⟩)] w fun e w' =>e=.returned (.bool (zAb f))∧zAL w' p b down (zAH f) g∧w.grownBy w' (some p):=by
 obtain ⟨f1,f2⟩:=f
 obtain ⟨g1,g2⟩:=g
 unfold zAL at h
 simp only at h
 have HBX:=yh h
 have q0:=zAA (i:=2) h rfl
 have q1:=zAA (i:=3) h rfl
 have fz0:w.frozen? ⟨p,2,none⟩=false:=zAC h
 have fz1:w.frozen? ⟨p,3,none⟩=false:=zAC h
 clear h
 cases f1 with
 | false =>
  go_enter Tryz.func44,Tryz.ntmps44
  go_wp2
  go_ret
  exact ⟨rfl,HBX.out,World.grownBy.refl _ _⟩
 | true =>
  by_cases hz:f2=0
  ·subst hz
   go_enter Tryz.func44,Tryz.ntmps44
   go_wp2
   go_ret
   obtain ⟨h1,g1'⟩:=zAf HBX.out (i:=2) (.bool false)
   obtain ⟨h2,g2'⟩:=zAf h1 (i:=3) (.int .i64 0)
   exact ⟨rfl,h2,g1'.trans g2'⟩
  ·have hne:(f2 == 0)=false:=by rw [beq_eq_false_iff_ne];exact hz
   obtain ⟨b1,b2⟩:=hf rfl
   have HL:Hid (zAH (true,f2)=(true,f2 - 1)):=by show zAH _=_;unfold zAH;rw [if_pos rfl,if_neg hz]
   have HN:Hid (zAb (true,f2)=false):=by show zAb _=_;unfold zAb;simp [hz]
   have HS:=yh (zAf HBX.out (i:=3) (.int .i64 (f2 - 1)))
   rw [HL.out,HN.out]
   clear hz
   go_enter Tryz.func44,Tryz.ntmps44
   go_wp2
   go_ret
   exact ⟨rfl,HS.out.1,HS.out.2⟩
theorem zBv (p b:Nat) (down:Bool) (f g:Bool×Int) (hf:zAX g) (w:World) (h:zAL w p b down f g) :
  Calls Tryz.prog 44 #[.pointer (some ⟨p,4,none⟩)] w fun e w' =>e=.returned (.bool (zAb g))∧zAL w' p b down f (zAH g)∧w.grownBy w' (some p):=by
 obtain ⟨f1,f2⟩:=f
 obtain ⟨g1,g2⟩:=g
 unfold zAL at h
 simp only at h
 have HBX:=yh h
 have q0:=zAA (i:=4) h rfl
 have q1:=zAA (i:=5) h rfl
 have fz0:w.frozen? ⟨p,4,none⟩=false:=zAC h
 have fz1:w.frozen? ⟨p,5,none⟩=false:=zAC h
 clear h
 cases g1 with
 | false =>
  go_enter Tryz.func44,Tryz.ntmps44
  go_wp2
  go_ret
  exact ⟨rfl,HBX.out,World.grownBy.refl _ _⟩
 | true =>
  by_cases hz:g2=0
  ·subst hz
   go_enter Tryz.func44,Tryz.ntmps44
   go_wp2
   go_ret
   obtain ⟨h1,g1'⟩:=zAf HBX.out (i:=4) (.bool false)
   obtain ⟨h2,g2'⟩:=zAf h1 (i:=5) (.int .i64 0)
   exact ⟨rfl,h2,g1'.trans g2'⟩
  ·have hne:(g2 == 0)=false:=by rw [beq_eq_false_iff_ne];exact hz
   obtain ⟨b1,b2⟩:=hf rfl
   have HL:Hid (zAH (true,g2)=(true,g2 - 1)):=by show zAH _=_;unfold zAH;rw [if_pos rfl,if_neg hz]
   have HN:Hid (zAb (true,g2)=false):=by show zAb _=_;unfold zAb;simp [hz]
   have HS:=yh (zAf HBX.out (i:=5) (.int .i64 (g2 - 1)))
   rw [HL.out,HN.out]
   clear hz
   go_enter Tryz.func44,Tryz.ntmps44
   go_wp2
   go_ret
   exact ⟨rfl,HS.out.1,HS.out.2⟩
def zDY (n:Int):Bool×Int:=(decide (n ≥ 0),n)
theorem zLH (n:Int) (w:World):Calls Tryz.prog 24 #[.int .i64 n] w fun e w' =>e=.returned (.agg #[.bool (zDY n).1,.int .i64 (zDY n).2])∧Below w.heap.size w w':=by
 unfold zDY
 have HB:=yh ((Below.refl w.heap.size w).alloc (Nat.le_refl _) (.cells #[.bool (decide (n ≥ 0)),.int .i64 n] 57))
 have hnew:=zAD w (.cells #[.bool (decide (n ≥ 0)),.int .i64 n] 57)
 have q0:=zAA (i:=0) hnew rfl
 have q1:=zAA (i:=1) hnew rfl
 clear hnew
 go_enter Tryz.func24,Tryz.ntmps24
 go_wp2
 refine bodyPost_ret (v:=.agg #[.bool (decide (n ≥ 0)),.int .i64 n]) (by simp [results,Tryz.results24,go_sem,q0,q1]) rfl ⟨rfl,HB.out⟩
end Go.Proofs.YtfbgmehicmpdiaaGreatDoor
