/- Texts of one proof. -/
import Derived.LaidMore
import Derived.MakeChecks
import Derived.Test.YtoclafdidjpndaaDoorRows
import Derived.Test.YtoclafdidjpndaaDoorMx23
set_option maxRecDepth 100000
set_option maxHeartbeats 8000000
namespace Go.Proofs.YtoclafdidjpndaaDoor
open Go.ChangeShapes Go.WideShapes Go.ChangeAt Go.RowKit
theorem zGY {P:Program} {W:World} {n:String} {g len:Nat} {t e:TypeId} {k:IntKind} {zs:List Int} (hg:P.globalNamed n=some g) (ht0:(P.globals[g]?).map (·.type)=some t)
  (ht:P.underlying t=some (.array len e)) (he:P.underlying e=some (.int k)) (hc:P.cellsOf e=1) (h:laidMet P [(n,.agg (zs.map fun z =>.lit (.int k z)))] W) :
  ∀ (i:Nat) (z:Int),zs[i]? = some z→W.cell? ⟨g,i,none⟩=some (.int k z):=by
 obtain ⟨ps,⟨g',t',cs,fuel,p,q,hg',ht',hvar,hd,_,_⟩,_⟩:=h
 obtain rfl:=Option.some.inj (hg.symm.trans hg')
 obtain rfl:=Option.some.inj (ht0.symm.trans ht')
 obtain ⟨xs,m,rfl,hx,hlen,hxl,hel⟩:=DataW.trod_array ht hd
 simp only [Prod.mk.injEq,DataW.agg.injEq] at hx
 intro i z hz
 have h1:(xs.map (·.1))[i]? = some (.lit (.int k z)):=by rw [← hx.1,List.getElem?_map,hz];rfl
 rw [List.getElem?_map] at h1
 obtain ⟨y,hy,hy1⟩:=Option.map_eq_some_iff.1 h1
 have hi:i<len:=by rw [← hxl];exact (List.getElem?_eq_some_iff.1 hy).1
 have h2:=hel i hi
 rw [hy,hc,Nat.mul_one] at h2
 obtain ⟨n',e1,e2,_⟩:=DataW.trod_int he h2
 rw [e2] at hy1
 have hnz:n'=z:=by simpa using hy1
 subst hnz
 have h3:cs.toList[i]? = some (.int k n'):=by
  have:=congrArg (fun l:List Value =>l[0]?) e1
  simpa [List.getElem?_take,List.getElem?_drop] using this
 rw [World.var?_cell hg hvar i]
 simpa using h3
theorem zMn:Tryd.prog.globalNamed "tephra/crc.halves" = some 0:=by kernel_rfl
theorem zMp:(Tryd.prog.globals[0]?).map (·.type)=some 91:=by kernel_rfl
theorem zMP:Tryd.prog.cellsOf 38=1:=by kernel_rfl
theorem zHt {W:World} (h:laidMetH Tryd.prog [("tephra/crc.halves",Rows.laid_tephra_crc_halves)] W):Laid W:=by
 rw [MakeChecks.laidMetH_plain _ _ _ (by kernel_rfl)] at h
 have h1:=zGY (zs:=tab.map (fun n:Nat =>(n:Int))) zMn zMp Tryd.underlying91 Tryd.underlying38 zMP h
 intro i hi
 refine h1 i (tabN i) ?_
 have:∀ j:Fin 16,(tab.map (fun n:Nat =>(n:Int)))[j.val]? = some ((tabN j.val:Nat):Int):=by decide
 exact this ⟨i,hi⟩
open Go.ChangeShapes Go.WideShapes Go.ChangeAt Go.RowKit Go.Deep
theorem zFC {H:Type} {enc:TypeId×Value→H} {W:World} {v:Value} {d:DataW H} {ps:List MemPlace} {r0:Reach} {b0:Nat} (hval:Value.okWide Tryd.prog W r0 b0 22 v) (hd:DataW.Trod enc Tryd.prog W 0 (fun _ =>true) true 22 v d ps) :
  ∃ (A:Option Addr) (n c:Nat) (xs:List Rw),v=.slice A n c∧n≤c∧n≤maxLen∧(A=none→c=0)∧(∀ x ∈ xs,(Fits x.r x.l∧x.n≤maxLen)∧Nums x.r x.l)∧Recs W W.heap.size A n xs:=by
 obtain ⟨A,n,c,xs,h1,h2,h3,h4,h5⟩:=zIh hval hd
 have h4':∀ x ∈ xs,(Fits x.r x.l∧x.n≤maxLen)∧Nums x.r x.l:=fun x hx =>⟨⟨(h4 x hx).1,(h4 x hx).2.1⟩,(h4 x hx).2.2⟩
 obtain ⟨fuel,hf⟩:=hd
 rcases Go.Deep.open_slice Tryd.underlying22 hf with ⟨hcs,_⟩ | ⟨ad,n',c',m,k,D,Pl,hcs,_,hl,hmx,hm,_,hi⟩
 ·rw [h1] at hcs
  have e:Value.slice A n c=.slice none 0 0:=by simpa [Value.cells] using hcs
  injection e with e1 e2 e3
  subst e1 e2 e3
  exact ⟨_,_,_,xs,h1,Nat.le_refl _,h2,fun _ =>rfl,h4',h5⟩
 ·rw [h1] at hcs
  have e:Value.slice A n c=.slice (some ad) n' c':=by simpa [Value.cells] using hcs
  injection e with e1 e2 e3
  subst e1 e2 e3
  exact ⟨_,_,_,xs,h1,hl,h2,fun h =>(by cases h),h4',h5⟩
open Go.RowKit
theorem zJv {ps:List (List UInt8)} {k:Nat} {p:List UInt8} (h:ps[k]? = some p):frs ps=frs (ps.take k)++(fr p++frs (ps.drop (k+1))):=by
 have e:ps=ps.take k++(p :: ps.drop (k+1)):=by
  conv =>lhs;rw [← List.take_append_drop k ps]
  rw [List.drop_eq_getElem?_toList_append,h]
  rfl
 conv =>lhs;rw [e]
 rw [zCC]
 simp [frs]
theorem zMI {pre c tail:List UInt8} {i:Nat} {y:UInt8} (h:i<c.length):(pre++(c++tail)).set (pre.length+i) y=pre++(c.set i y++tail):=by
 rw [List.set_append,if_neg (by omega),Nat.add_sub_cancel_left,List.set_append,if_pos h]
theorem zNQ {pre c tail:List UInt8} {i:Nat} (h:i<c.length):(pre++(c++tail))[pre.length+i]? = some c[i]:=by
 rw [List.getElem?_append_right (by omega),Nat.add_sub_cancel_left,List.getElem?_append_left h,List.getElem?_eq_getElem h]
theorem take_set {c:List UInt8} {i n:Nat} {y:UInt8} (h:n≤i):(c.set i y).take n=c.take n:=by
 rw [List.take_set,List.set_eq_of_length_le (by rw [List.length_take];omega)]
theorem zKD (p:List UInt8):(fr p).take (vb p.length).length=vb p.length:=by
 unfold fr blob
 rw [List.append_assoc]
 exact List.take_left
theorem zMq (y k t:Nat) (hy:y<4294967296) (ht:t=y / 2 ^ k % 2):bits .and .u32 ((y:Int) / 2 ^ k) 1=(t:Int):=by
 have e:((y:Int) / 2 ^ k)=((y / 2 ^ k:Nat):Int):=by simp
 have hlt:y / 2 ^ k<4294967296:=Nat.lt_of_le_of_lt (Nat.div_le_self _ _) hy
 rw [e]
 refine (u32_and_nat (y / 2 ^ k) 1 hlt (by omega)).trans ?_
 rw [Nat.and_one_is_mod,ht]
theorem zKq (x:UInt8) (b:Nat) (hb:b<8):bv (x ^^^ UInt8.ofNat (2 ^ b))=.int .u8 (bits .xor .u8 (x.toNat:Int) (2 ^ b % 256)):=by
 have h1:2 ^ b<256:=Nat.lt_of_lt_of_le (Nat.pow_lt_pow_right (by omega) hb) (by decide)
 have h2:(UInt8.ofNat (2 ^ b)).toNat=2 ^ b:=by simp;omega
 have h3:((2:Int) ^ b % 256)=((2 ^ b:Nat):Int):=by
  have:((2:Int) ^ b)=((2 ^ b:Nat):Int):=by simp
  rw [this]
  omega
 rw [h3,u8_xor_nat _ _ x.toNat_lt h1,bv,UInt8.toNat_xor,h2]
theorem zKp (x:UInt8) (b:Nat) (hb:b<8):x32 (x ^^^ UInt8.ofNat (2 ^ b))=x32 x ^^^ (1#32 <<< b):=by
 rw [zLy]
 congr 1
 have:∀ j:Fin 8,x32 (UInt8.ofNat (2 ^ j.val))=1#32 <<< j.val:=by decide
 exact this ⟨b,hb⟩
end Go.Proofs.YtoclafdidjpndaaDoor
