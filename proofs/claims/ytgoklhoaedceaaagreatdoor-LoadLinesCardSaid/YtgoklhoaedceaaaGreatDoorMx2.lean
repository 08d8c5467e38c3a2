/- Texts of one proof. -/
import Derived.Laws.Bits64b
import Derived.Laws.Externs
import Derived.Lib.AppendStr
import Derived.Maps.AppendAt
import Derived.OneCell
import Derived.Outline
import Derived.Test.YtgoklhoaedceaaaGreatDoorMx1
set_option maxRecDepth 100000
set_option maxHeartbeats 8000000
namespace Go.Proofs.YtgoklhoaedceaaaGreatDoor
def zLi:List UInt8:=[48,49,50,51,52,53,54,55,56,57,97,98,99,100,101,102]
def hval (c:UInt8):Option Nat :=
 if 48≤c.toNat∧c.toNat≤57 then some (c.toNat - 48) else if 97≤c.toNat∧c.toNat≤102 then some (c.toNat - 87) else none
def dig (m:Nat):UInt8:=if m<10 then UInt8.ofNat (48+m) else UInt8.ofNat (87+m)
theorem zER:∀ m:Fin 16,hval (dig m.val)=some m.val:=by decide
theorem zCD {c:UInt8} {d:Nat} (h:hval c=some d):d<16:=by
 unfold hval at h
 split at h
 ·injection h;omega
 ·split at h
  ·injection h;omega
  ·cases h
theorem zJY {c:UInt8} {d:Nat} (h:hval c=some d):dig d=c:=by
 apply UInt8.toNat_inj.1
 unfold hval at h
 unfold dig
 have hc:=c.toNat_lt
 split at h
 ·have:d=c.toNat - 48:=by injection h;omega
  rw [if_pos (by omega),zGn _ (by omega)];omega
 ·split at h
  ·have:d=c.toNat - 87:=by injection h;omega
   rw [if_neg (by omega),zGn _ (by omega)];omega
  ·cases h
def rd (acc:Nat):List UInt8→Option Nat
 | [] =>some acc
 | c :: l =>match hval c with
  | none =>none
  | some d =>rd (16 * acc+d) l
theorem zCj {acc:Nat} {c:UInt8} {l:List UInt8} (h:hval c=none):rd acc (c :: l)=none:=by rw [rd,h]
theorem zCX {acc d:Nat} {c:UInt8} {l:List UInt8} (h:hval c=some d):rd acc (c :: l)=rd (16 * acc+d) l:=by rw [rd,h]
def hexl (h:Nat):Nat→List UInt8
 | 0 =>[]
 | k+1 =>dig (h / 16 ^ k % 16) :: hexl h k
theorem zAr (h k:Nat):(hexl h k).length=k:=by
 induction k with
 | zero =>rfl
 | succ k ih =>simp [hexl,ih]
theorem zHY (h:Nat):∀ (k acc:Nat),rd acc (hexl h k)=some (acc * 16 ^ k+h % 16 ^ k):=by
 intro k
 induction k with
 | zero =>intro acc;simp [hexl,rd,Nat.mod_one]
 | succ k ih =>
  intro acc
  have hd:hval (dig (h / 16 ^ k % 16))=some (h / 16 ^ k % 16):=zER ⟨h / 16 ^ k % 16,Nat.mod_lt _ (by omega)⟩
  rw [hexl,zCX hd,ih]
  have h1:h % 16 ^ (k+1)=h % 16 ^ k+16 ^ k * (h / 16 ^ k % 16):=by rw [Nat.pow_succ,Nat.mod_mul]
  rw [h1,Nat.pow_succ]
  generalize h / 16 ^ k % 16=q
  generalize h % 16 ^ k=r
  generalize 16 ^ k=P
  have e1:(16 * acc+q) * P=acc * (P * 16)+P * q:=by
   rw [Nat.add_mul,Nat.mul_comm q P,Nat.mul_comm 16 acc,Nat.mul_assoc,Nat.mul_comm 16 P]
  congr 1
  omega
theorem zHR:∀ (s:List UInt8) (acc n:Nat),rd acc s=some n→hexl n s.length=s∧n / 16 ^ s.length=acc:=by
 intro s
 induction s with
 | nil =>
  intro acc n h
  have:acc=n:=by simpa [rd] using h
  exact ⟨rfl,by simp [this]⟩
 | cons c l ih =>
  intro acc n h
  cases hc:hval c with
  | none =>rw [zCj hc] at h;cases h
  | some d =>
   rw [zCX hc] at h
   obtain ⟨h1,h2⟩:=ih _ _ h
   have hd:=zCD hc
   refine ⟨?_,?_⟩
   ·rw [List.length_cons,hexl,h1,h2,show (16 * acc+d) % 16=d by omega,zJY hc]
   ·rw [List.length_cons,Nat.pow_succ,← Nat.div_div_eq_div_mul,h2]
    omega
theorem zLm (s:List UInt8) (n:Nat) (hs:s.length=16) (h:rd 0 s=some n):n<18446744073709551616:=by
 have h2:=(zHR s 0 n h).2
 rw [hs] at h2
 have:=Nat.lt_of_div_eq_zero (show 0<16 ^ 16 by decide) h2
 exact this
def rof:Option Nat→Nat×Bool
 | some n =>(n,true)
 | none =>(0,false)
def rans (s:List UInt8):Nat×Bool:=if s.length=16 then rof (rd 0 s) else (0,false)
theorem zIx {s:List UInt8} {n:Nat} (h:rans s=(n,true)):hexl n 16=s∧n<18446744073709551616:=by
 unfold rans at h
 split at h
 ·rename_i hs
  cases hm:rd 0 s with
  | none =>
   rw [hm] at h
   injection h with _ h
   cases h
  | some m =>
   rw [hm] at h
   injection h with h1 _
   subst h1
   have:=(zHR s 0 m hm).1
   rw [hs] at this
   exact ⟨this,zLm s m hs hm⟩
 ·injection h with _ h;cases h
theorem zLU (h d:Nat) (hd:d<16) (hh:16 * h+16≤18446744073709551616):bits .or .u64 ((h:Int) * 16) (d:Int)=((16 * h+d:Nat):Int):=by
 have e:((h:Int) * 16)=((16 * h:Nat):Int):=by omega
 have h2:16 * h ||| d=16 * h+d:=by
  have:=Nat.two_pow_add_eq_or_of_lt (i:=4) (b:=d) (by omega) h
  simpa using this.symm
 rw [e,u64_or_nat (16 * h) d (by omega) (by omega),h2]
theorem zFS:∀ c:Fin 256,firstIdx (tx zLi) (UInt8.ofNat c.val)=(match hval (UInt8.ofNat c.val) with | some d =>(d:Int) | none =>-1):=by decide +kernel
open Go.RowKit
theorem zIc:(Tryz.prog.info? 5).map (fun i =>(i.zero,i.size,i.bytes))=some (some (.int .u8 0),1,1):=by kernel_rfl
theorem _root_.Go.World.ownsRow.cells_eq {w:World} {base:Nat} {e:TypeId} {size:Nat} {v:Value} {n:Nat} {xs ys:List Value} (h:w.ownsRow base e size v n xs) (he:xs=ys):w.ownsRow base e size v n ys:=he▸h
def zCv (h i:Nat):List UInt8:=List.replicate (16 - i) 0++hexl h i
theorem zIh (h i:Nat) (hi:i≤16):(zCv h i).length=16:=by simp [zCv,zAr];omega
theorem zIi (h i:Nat) (hi:i<16):((zCv h i).map bv).set (15 - i) (bv (dig (h / 16 ^ i % 16)))=(zCv h (i+1)).map bv:=by
 rw [← List.map_set]
 congr 1
 unfold zCv
 rw [show 16 - i=(15 - i)+1 by omega,show 16 - (i+1)=15 - i by omega,List.replicate_succ',List.append_assoc,List.set_append_right _ _ (by simp)]
 simp [hexl]
theorem zIb (m:Nat) (hm:m<16) (hp:m<({ data:=#[48,49,50,51,52,53,54,55,56,57,97,98,99,100,101,102] }:ByteArray).size) :
  Value.int .u8 (((({ data:=#[48,49,50,51,52,53,54,55,56,57,97,98,99,100,101,102] }:ByteArray)[m]'hp).toNat:Nat):Int)=bv (dig m):=by
 have h:∀ k:Fin 16,((({ data:=#[48,49,50,51,52,53,54,55,56,57,97,98,99,100,101,102] }:ByteArray)[k.val]'(by have:=k.isLt;exact this)).toNat:Nat)=(dig k.val).toNat:=by decide
 exact congrArg (fun x:Nat =>Value.int .u8 (x:Int)) (h ⟨m,hm⟩)
theorem zLK (c:Nat) (hc:c<18446744073709551616):bits .and .u64 (c:Int) 15=((c % 16:Nat):Int):=by
 refine (u64_and_nat c 15 hc (by omega)).trans ?_
 congr 1
 exact Nat.and_two_pow_sub_one_eq_mod c 4
def HRel (h:Nat) (w:World) (idx:Value) (wr:World):Prop :=
 ∃ j:Nat,j≤16∧idx=.int .i64 (j:Int)∧wr.ownsRow w.heap.size 5 1 (.slice (some ⟨w.heap.size,0,none⟩) 16 16) 16 ((zCv h j).map bv)∧Below w.heap.size w wr
theorem zFD (h:Q64) (w:World) :
  Calls Tryz.prog 31 #[qv h] w fun e w' =>e=.returned (.string (tx (hexl h.toNat 16)))∧Below w.heap.size w w':=by
 obtain ⟨i0,hi,hz0,hz1,hz2⟩:=info_parts zIc
 unfold qv
 have ha64:=h.isLt
 generalize h.toNat=a at *
 go_enter Tryz.func31,Tryz.ntmps31
 obtain ⟨w1,hrun0,hown,hgrow⟩:=run_make_full (P:=Tryz.prog) w w.heap.size 59 5 i0 (.int .u8 0) 1 Tryz.underlying59 hi hz0 hz1 .i64 .i64 16 (by rw [hz2];omega) (by unfold maxLen;omega) (Nat.le_refl _)
 have hrun:(Instr.makeSlice 59 (.int .i64 16) (.int .i64 16)).run Tryz.prog w=.ok (.slice (some ⟨w.heap.size,0,none⟩) 16 16) w1:=hrun0
 have hb1:Below w.heap.size w w1:=(Below.refl _ w).grown hgrow (Nat.le_refl _) (by simp)
 have HOWN:=yh hown
 have HA:=yh ha64
 clear hrun0 hgrow hown ha64
 go_wp2
 clear hrun
 go_loopw [8] (fun idx wr =>HRel a w idx wr) (fun idx wr =>16 - (intOf idx).toNat)
 case atStart =>exact ⟨0,by omega,rfl,HOWN.out.cells_eq ((toList_madeCells_one _ _).trans rfl),hb1⟩
 case round =>
  obtain ⟨j,hj,rfl,ho,hb⟩:=hrel
  have HO:=yh ho
  by_cases hlt:j<16
  ·have hfz:wr.frozen? ⟨w.heap.size,15 - j,none⟩=false:=ho.frozenAt (15 - j)
   obtain ⟨ho2,hg2⟩:=ho.stored (15 - j) (bv (dig (a / 16 ^ j % 16)))
   have ho3:=ho2.cells_eq (zIi a j hlt)
   have hb2:=hb.grown hg2 (by have:=hb.size;omega) (by intro g hg;injection hg with hg;omega)
   obtain ⟨old,hold⟩:∃ old,((zCv a j).map bv)[15 - j]? = some old:=⟨_,List.getElem?_eq_getElem (by rw [List.length_map,zIh _ _ hj];omega)⟩
   have hcell:wr.cell? ⟨w.heap.size,15 - j,none⟩=some old:=(ho.cellAt (15 - j) (by omega)).trans hold
   have HO3:=yh ho3
   have HB2:=yh hb2
   clear ho ho2 hg2 ho3 hb2 hold
   obtain ⟨q,hq⟩:∃ q,q=a / 16 ^ j:=⟨_,rfl⟩
   obtain ⟨m,hm⟩:∃ m,m=a / 16 ^ j % 16:=⟨_,rfl⟩
   have hm16:m<16:=by omega
   have k1:(a:Int) / 2 ^ (4 * j)=(q:Int):=by
    rw [hq,Int.natCast_ediv,Int.natCast_pow,show (16:Nat)=2 ^ 4 from rfl,Int.natCast_pow,← Int.pow_mul]
    rfl
   have k2:bits .and .u64 (q:Int) 15=(m:Int):=by
    rw [zLK q (by have:=HA.out;have:=Nat.div_le_self a (16 ^ j);omega),hm,hq]
   rw [← hm] at HO3 HB2
   clear hq hm
   go_wp2
   refine ⟨⟨j+1,by omega,by go_num,?_,?_⟩,by simp [intOf];omega⟩
   ·rw [zIb m hm16];exact HO3.out
   ·rw [zIb m hm16];exact HB2.out
  ·obtain rfl:j=16:=by omega
   have hr:=zAE.of_own ho
   have he:zCv a 16=hexl a 16:=rfl
   rw [he] at hr
   have hcv:=zBK (P:=Tryz.prog) (src:=59) (dst:=9) (c:=16) Tryz.underlying59 Tryz.underlying5 Tryz.underlying9 hr
   clear ho hr he
   obtain ⟨s,hs⟩:∃ s,s=tx (hexl a 16):=⟨_,rfl⟩
   rw [← hs] at hcv
   have HS:=yh hs
   clear hs
   go_wp2
   go_ret
   exact ⟨by rw [← HS.out];rfl,hb⟩
theorem zId (m:Nat) (hm:m<16):({ data:=#[48,49,50,51,52,53,54,55,56,57,97,98,99,100,101,102] }:ByteArray).extract m (m+1)=tx [dig m]:=by
 have h:∀ k:Fin 16,({ data:=#[48,49,50,51,52,53,54,55,56,57,97,98,99,100,101,102] }:ByteArray).extract k.val (k.val+1)=tx [dig k.val]:=by decide
 exact h ⟨m,hm⟩
def XRel (a:Nat) (w:World) (n s idx:Value) (wr:World):Prop:=∃ j:Nat,j≤16∧n=.int .u64 ((a / 16 ^ j:Nat):Int)∧s=.string (tx (hexl a j))∧idx=.int .i64 (j:Int)∧w=wr
theorem zBv (a:Nat) (h:a<18446744073709551616):IntKind.u64.wrap (a:Int)=(a:Int):=by
 rw [IntKind.wrap_u64]
 omega
theorem zEt (h:Q64) (w:World) :
  Calls Tryz.prog 49 #[qv h] w fun e w' =>e=.returned (.string (tx (hexl h.toNat 16)))∧w=w':=by
 unfold qv
 have ha64:=h.isLt
 generalize h.toNat=a at *
 have HA:=yh ha64
 have H0:XRel a w (.int .u64 (a:Int)) (.string ⟨#[]⟩) (.int .i64 0) w:=⟨0,by omega,by simp,rfl,rfl,rfl⟩
 clear ha64
 go_enter Tryz.func49,Tryz.ntmps49
 go_wp2
 go_loopw [0,3,4] (fun n s idx wr =>XRel a w n s idx wr) (fun _ _ idx _ =>16 - (intOf idx).toNat)
 case atStart =>exact H0
 case round =>
  obtain ⟨j,hj,rfl,rfl,rfl,rfl⟩:=hrel
  clear H0
  by_cases hlt:j<16
  ·obtain ⟨q,hq⟩:∃ q,q=a / 16 ^ j:=⟨_,rfl⟩
   obtain ⟨m,hm⟩:∃ m,m=a / 16 ^ j % 16:=⟨_,rfl⟩
   have hm16:m<16:=by omega
   have hq64:q<18446744073709551616:=by have:=HA.out;have:=Nat.div_le_self a (16 ^ j);omega
   obtain ⟨q2,hq2⟩:∃ q2,q2=q / 16:=⟨_,rfl⟩
   have hnext:q2=a / 16 ^ (j+1):=by rw [hq2,hq,Nat.pow_succ,Nat.div_div_eq_div_mul]
   have k1:(q:Int) % 16=(m:Int):=by omega
   have k2:(q:Int) / 16=(q2:Int):=by omega
   have k3:=zBv m (by omega)
   have k4:=zBv q2 (by omega)
   have k5:IntKind.u64.wrap ((m:Int)+1)=((m+1:Nat):Int):=zBv (m+1) (by omega)
   obtain ⟨s0,hs0⟩:∃ s0,s0=tx (hexl a j):=⟨_,rfl⟩
   obtain ⟨s1,hs1⟩:∃ s1,s1=tx (hexl a (j+1)):=⟨_,rfl⟩
   have hadd:∀ W:World,(Op.stringOp .add (tx [dig m]) s0).run Tryz.prog W=.ok (.string s1) W:=fun W =>by
    rw [hs0,hs1,hm]
    exact zAc W [dig (a / 16 ^ j % 16)] (hexl a j) (by rw [zAr];simp;omega)
   have hsl:∀ W:World,(Instr.slice 9 (.string { data:=#[48,49,50,51,52,53,54,55,56,57,97,98,99,100,101,102] }) (some (.int .u64 (m:Int))) (some (.int .u64 ((m:Int)+1))) none).run Tryz.prog W=.ok (.string (tx [dig m])) W:=fun W =>by
    have hsz:({ data:=#[48,49,50,51,52,53,54,55,56,57,97,98,99,100,101,102] }:ByteArray).size=16:=rfl
    rw [run_slice_string W 9 _ .u64 .u64 (m:Int) ((m:Int)+1) Tryz.underlying9 (by omega) (by omega) (by rw [hsz];omega)]
    rw [show ((m:Int)+1).toNat=m+1 by omega,show ((m:Int)).toNat=m by omega,zId m hm16]
   rw [← hq,← hs0]
   have HN:=yh hnext
   have HS:=yh hs1
   clear hq hm hq2 hs0 hs1 hnext
   generalize tx [dig m]=d at *
   go_wp2
   exact ⟨⟨j+1,by omega,by rw [← HN.out],by rw [← HS.out],by go_num,rfl⟩,by simp [intOf];omega⟩
  ·obtain rfl:j=16:=by omega
   obtain ⟨s,hs⟩:∃ s,s=tx (hexl a 16):=⟨_,rfl⟩
   rw [← hs]
   have HS:=yh hs
   clear hs
   go_wp2
   go_ret
   exact ⟨by rw [← HS.out];rfl,rfl⟩
def tsv (t:List UInt8):Value:=.string (tx t)
theorem zCA {w:World} {base base' n size:Nat} {e:TypeId} {v:Value} {xs:List Value} (h:w.ownsRow base e size v n xs) (hb:base'≤base):w.ownsRow base' e size v n xs:=by
 rcases h.2 with h2 | ⟨g,cap,cur,h3,h4,h5⟩
 ·exact ⟨h.1,.inl h2⟩
 ·exact ⟨h.1,.inr ⟨g,cap,cur,h3,by omega,h5⟩⟩
theorem zAL {w:World} {base n size:Nat} {e:TypeId} {v:Value} {xs:List Value} (h:w.ownsRow base e size v n xs):∃ A c,v=.slice A n c∧(A=none→c=0):=by
 obtain ⟨h1,⟨rfl,rfl⟩ | ⟨g,cap,cur,rfl,hb,hg,hn,hm,hs,hx⟩⟩:=h
 ·exact ⟨none,0,rfl,fun _ =>rfl⟩
 ·exact ⟨_,_,rfl,fun h =>by cases h⟩
theorem zBS {w:World} {base n size:Nat} {e t:TypeId} {v:Value} {xs:List Value} {b:Nat} {cs:Array Value} {f:Nat×Nat} (h:w.ownsRow base e size v n xs) (hb:w.heap[b]? = some (.cells cs t f)) (hne:e≠t):v.ownBlock≠some b:=by
 rcases h.2 with ⟨rfl,_⟩ | ⟨g,cap,cur,rfl,_,hg,_⟩
 ·simp [Value.ownBlock]
 ·intro e2
  simp only [Value.ownBlock,Option.some.injEq] at e2
  subst e2
  rw [hb] at hg
  injection hg with hg
  injection hg with _ hg
  exact hne hg.symm
theorem zAs {w w':World} {base n size:Nat} {e:TypeId} {v:Value} {xs:List Value} (h:w.ownsRow base e size v n xs) (hk:∀ g,v.ownBlock=some g→w'.heap[g]? = w.heap[g]?):w'.ownsRow base e size v n xs:=by
 refine ⟨h.1,?_⟩
 rcases h.2 with h2 | ⟨g,cap,cur,rfl,hb,hg,r⟩
 ·exact .inl h2
 ·exact .inr ⟨g,cap,cur,rfl,hb,(hk g rfl).trans hg,r⟩
theorem zIt {w:World} {b b' s s' n n':Nat} {e e':TypeId} {v v':Value} {xs xs':List Value} (h:w.ownsRow b e s v n xs) (h':w.ownsRow b' e' s' v' n' xs') (he:e≠e'):zEf v v':=by
 intro g h1 h2
 obtain ⟨_,⟨rfl,_⟩ | ⟨g1,c1,cur1,rfl,_,hg1,_⟩⟩:=h
 ·simp [Value.ownBlock] at h1
 ·obtain ⟨_,⟨rfl,_⟩ | ⟨g2,c2,cur2,rfl,_,hg2,_⟩⟩:=h'
  ·simp [Value.ownBlock] at h2
  ·simp [Value.ownBlock] at h1 h2
   subst h1 h2
   rw [hg1] at hg2
   simp at hg2
   exact he hg2.2
theorem zAI (w:World) (a:Obj):(w.alloc a).heap[w.heap.size]? = some a:=by show (w.heap.push _)[w.heap.size]? = _;exact Array.getElem?_push_size
theorem zDK (w:World) (a b:Obj):((w.alloc a).alloc b).heap[w.heap.size]? = some a∧((w.alloc a).alloc b).heap[w.heap.size+1]? = some b∧((w.alloc a).alloc b).heap.size=w.heap.size+2:=by
 have h0:(w.alloc a).heap.size=w.heap.size+1:=Array.size_push _
 refine ⟨(Below.heap_alloc _ _ _ (by rw [h0];omega)).trans (by show (w.heap.push _)[w.heap.size]? = _;exact Array.getElem?_push_size),?_,by rw [show ((w.alloc a).alloc b).heap.size=(w.alloc a).heap.size+1 from Array.size_push _,h0]⟩
 have h:=@Array.getElem?_push_size _ (w.alloc a).heap b
 rwa [h0] at h
theorem zAM {w w':World} (h:w'.heap=w.heap) (p:Addr):w'.cell? p=w.cell? p:=by unfold World.cell?;rw [h]
theorem zAA {w:World} {b i:Nat} {cs:Array Value} {t:TypeId} {u:Value} (h:w.heap[b]? = some (.cells cs t (0,0))) (hi:cs[i]? = some u):w.cell? ⟨b,i,none⟩=some u:=by
 simp [World.cell?,h,hi]
theorem zAC {w:World} {b i:Nat} {cs:Array Value} {t:TypeId} (h:w.heap[b]? = some (.cells cs t (0,0))):w.frozen? ⟨b,i,none⟩=false:=by
 simp [World.frozen?,h]
theorem zAD {w:World} {b:Nat} {cs:Array Value} {t:TypeId} {f:Nat×Nat} (h:w.heap[b]? = some (.cells cs t f)) (i:Nat) (u:Value):(w.setCell ⟨b,i,none⟩ u).heap[b]? = some (.cells (cs.setIfInBounds i u) t f):=by
 simp [World.setCell,Array.getElem?_modify,h]
theorem zBY {w:World} {b i:Nat} {cs:Array Value} {t:TypeId} {u:Value} (h:w.heap[b]? = some (.cells cs t (0,0))) (hi:cs[i]? = some u):w.cell? ⟨b,i,none⟩=some u:=by
 simp [World.cell?,h,hi]
theorem zBn {w:World} {b i:Nat} {cs:Array Value} {t:TypeId} (h:w.heap[b]? = some (.cells cs t (0,0))):w.frozen? ⟨b,i,none⟩=false:=by
 simp [World.frozen?,h]
theorem zFR {w:World} {g j:Nat} {u:Value} {cs:Array Value} {e:TypeId} {f:Nat×Nat} (h:w.heap[g]? = some (.cells cs e f)):(w.setCell ⟨g,j,none⟩ u).heap[g]? = some (.cells (cs.setIfInBounds j u) e f):=by
 obtain ⟨hlt,hk⟩:=Array.getElem?_eq_some_iff.1 h
 show (w.heap.modify g _)[g]? = _
 rw [Array.getElem?_eq_getElem (by rw [Array.size_modify];exact hlt),Array.getElem_modify_self,hk]
 rfl
theorem zBx (W:World) (e:TypeId) (v:Value):zAE (W.alloc (.cells #[v] e)) (W.heap.size+1) 1 (some ⟨W.heap.size,0,none⟩) 1 [v] :=
 ⟨rfl,fun _ =>⟨_,rfl,by show W.heap.size<_;omega,fun j u hu =>by
  have hj:j=0:=by
   rcases Nat.lt_or_ge j 1 with h | h
   ·omega
   ·rw [List.getElem?_eq_none (by simpa using h)] at hu;cases hu
  subst hj
  exact zAA (i:=0) (zAI W _) (by simpa using hu)⟩⟩
theorem zBp {P:Program} {w:World} {o:Oper} {a:Act} {K:Act→World→Prop} {Q:Exit→Act→World→Prop} (s x:Operand) (t:TypeId)
  (ho:o.op=.call { callee:=.builtin .append,args:=#[s,x],argTypes:=#[t,t] })
  (base:Nat) (e:TypeId) (i:TypeInfo) (z:Value) (size bytes:Nat) (ht:P.underlying t=some (.slice e)) (hi:P.info? e=some i) (hz:i.zero=some z)
  (hsize:i.size=size) (hby:i.bytes=bytes) (hzs:z.cells.size=size) (hsz:0<size)
  (v:Value) (n:Nat) (xs:List Value) (hs:a.eval s=v) (hown:w.ownsRow base e size v n xs)
  (A:Option Addr) (m c B:Nat) (news:List Value) (hx:a.eval x=.slice A m c) (hA:A=none→c=0) (hr:zAE w B size A m news) (h1:∀ u ∈ news,u.oneCell'=true)
  (h63:n+m≤maxLen) (hbytes:(n+m) * bytes≤140737488355328) (hbase:base≤w.heap.size)
  (h:∀ v' w',w'.ownsRow base e size v' (n+m) (xs++news)→w.grownBy w' v.ownBlock→(v'.ownBlock=v.ownBlock∨v'.ownBlock=some w.heap.size)→K (a.put o.dst v') w'):o.wp P a w K Q:=by
 cases A with
 | none =>
  have hm:m=0:=by
   rcases Nat.eq_zero_or_pos m with h0 | h0
   ·exact h0
   ·obtain ⟨ad,e,_⟩:=hr.2 h0
    cases e
  subst hm
  have hc:=hA rfl
  subst hc
  have hnews:news=[]:=List.eq_nil_of_length_eq_zero (by have:=hr.1;simpa using this)
  subst hnews
  have hrun:=run_append_owned_none (P:=P) (w:=w) base t o.type e i size ht hi v n xs hown
  unfold Oper.wp
  simp [execOp,ho,resolve,invoke,builtin,hs,hx,hrun,Result.andThen]
  exact h v w (by simpa using hown) (World.grownBy.refl w _) (.inl rfl)
 | some ad =>
  obtain ⟨v',w',hr',h2,h3,_,h5⟩:=run_append_own_at (P:=P) w base t o.type e i z size bytes ht hi hz hsize hby hzs hsz v n xs hown ad m c news hr.1 (by
   intro j u hu
   by_cases h0:0<m
   ·obtain ⟨ad',e,_,hc⟩:=hr.2 h0
    cases e
    exact hc j u hu
   ·have hl:=hr.1
    have:=(List.getElem?_eq_some_iff.1 hu).1
    have h00:m=0:=by omega
    subst h00
    omega) h1 h63 hbytes hbase
  unfold Oper.wp execOp
  simp only [ho,resolve,invoke,builtin,Sem.run_bind,Sem.run_pure,Result.andThen_ok,List.map_toArray,List.map_cons,List.map_nil,hs,hx,hr']
  exact h v' w' h2 h3 h5
theorem zAQ {P:Program} (w:World) {ops:Array Oper} {rest:List Oper} {o:Oper} {a:Act} {Q:Exit→Act→World→Prop} (hgd:o.guard=none) (s x:Operand) (t:TypeId)
  (ho:o.op=.call { callee:=.builtin .append,args:=#[s,x],argTypes:=#[t,t] })
  (base:Nat) (e:TypeId) (i:TypeInfo) (z:Value) (size bytes:Nat) (ht:P.underlying t=some (.slice e)) (hi:P.info? e=some i) (hz:i.zero=some z)
  (hsize:i.size=size) (hby:i.bytes=bytes) (hzs:z.cells.size=size) (hsz:0<size)
  (v:Value) (n:Nat) (xs:List Value) (hs:a.eval s=v) (hown:w.ownsRow base e size v n xs)
  (A:Option Addr) (m c B:Nat) (news:List Value) (hx:a.eval x=.slice A m c) (hA:A=none→c=0) (hr:zAE w B size A m news) (h1:∀ u ∈ news,u.oneCell'=true)
  (h63:n+m≤maxLen) (hbytes:(n+m) * bytes≤140737488355328) (hbase:base≤w.heap.size)
  (h:∀ v' w',w'.ownsRow base e size v' (n+m) (xs++news)→w.grownBy w' v.ownBlock→wpList P ops Q rest (a.put o.dst v') w'):wpList P ops Q (o :: rest) a w:=by
 cases A with
 | none =>
  have hm:m=0:=by
   rcases Nat.eq_zero_or_pos m with h0 | h0
   ·exact h0
   ·obtain ⟨ad,e,_⟩:=hr.2 h0
    cases e
  subst hm
  have hc:=hA rfl
  subst hc
  have hnews:news=[]:=List.eq_nil_of_length_eq_zero (by have:=hr.1;simpa using this)
  subst hnews
  exact wpList_append_own_none hgd s x t ho base e i size ht hi v n xs hs hown hx (h v w (by simpa using hown) (World.grownBy.refl w _))
 | some ad =>
  refine wpList_append_own w hgd s x t ho base e i z size bytes ht hi hz hsize hby hzs hsz v n xs hs hown ad m c news hx hr.1 ?_ h1 h63 hbytes hbase (fun v' w' a b _ =>h v' w' a b)
  intro j u hu
  by_cases h0:0<m
  ·obtain ⟨ad',e,_,hc⟩:=hr.2 h0
   cases e
   exact hc j u hu
  ·have hl:=hr.1
   have:=(List.getElem?_eq_some_iff.1 hu).1
   have h00:m=0:=by omega
   subst h00
   omega
theorem zBI {P:Program} (w:World) {ops:Array Oper} {rest:List Oper} {o:Oper} {a:Act} {Q:Exit→Act→World→Prop} (hgd:o.guard=none) (s x:Operand) (t:TypeId)
  (ho:o.op=.call { callee:=.builtin .append,args:=#[s,x],argTypes:=#[t,t] })
  (base:Nat) (e:TypeId) (i:TypeInfo) (z:Value) (size bytes:Nat) (ht:P.underlying t=some (.slice e)) (hi:P.info? e=some i) (hz:i.zero=some z)
  (hsize:i.size=size) (hby:i.bytes=bytes) (hzs:z.cells.size=size) (hsz:0<size)
  (v:Value) (n:Nat) (xs:List Value) (hs:a.eval s=v) (hown:w.ownsRow base e size v n xs)
  (A:Option Addr) (m c B:Nat) (news:List Value) (hx:a.eval x=.slice A m c) (hA:A=none→c=0) (hr:zAE w B size A m news) (h1:∀ u ∈ news,u.oneCell'=true)
  (h63:n+m≤maxLen) (hbytes:(n+m) * bytes≤140737488355328) (hbase:base≤w.heap.size)
  (h:∀ v' w',w'.ownsRow base e size v' (n+m) (xs++news)→w.grownBy w' v.ownBlock→(v'.ownBlock=v.ownBlock∨v'.ownBlock=some w.heap.size)→wpList P ops Q rest (a.put o.dst v') w'):wpList P ops Q (o :: rest) a w:=by
 refine wpList_plain hgd fun K hK =>?_
 exact zBp s x t ho base e i z size bytes ht hi hz hsize hby hzs hsz v n xs hs hown A m c B news hx hA hr h1 h63 hbytes hbase (fun v' w' a b c =>hK _ _ (h v' w' a b c))
def Turn (S:Nat→Prop) (w w':World):Prop:=w'.os=w.os∧w'.tape=w.tape∧w'.output=w.output∧w.heap.size≤w'.heap.size∧∀ k,k<w.heap.size→¬ S k→w'.heap[k]? = w.heap[k]?
theorem Turn.refl (S:Nat→Prop) (w:World):Turn S w w:=⟨rfl,rfl,rfl,Nat.le_refl _,fun _ _ _ =>rfl⟩
theorem Turn.trans {S S2:Nat→Prop} {a b c:World} (h:Turn S a b) (k:Turn S2 b c) (hs:∀ i,i<a.heap.size→S2 i→S i):Turn S a c :=
 ⟨k.1.trans h.1,k.2.1.trans h.2.1,k.2.2.1.trans h.2.2.1,Nat.le_trans h.2.2.2.1 k.2.2.2.1,fun i hi hn =>(k.2.2.2.2 i (Nat.lt_of_lt_of_le hi h.2.2.2.1) (fun h2 =>hn (hs i hi h2))).trans (h.2.2.2.2 i hi hn)⟩
theorem Turn.grown {S:Nat→Prop} {a b c:World} {row:Option Nat} (h:Turn S a b) (hg:b.grownBy c row) (hs:∀ i,row=some i→i<a.heap.size→S i):Turn S a c :=
 ⟨hg.os.trans h.1,hg.tape.trans h.2.1,hg.output.trans h.2.2.1,Nat.le_trans h.2.2.2.1 hg.size,fun i hi hn =>(hg.block i (Nat.lt_of_lt_of_le hi h.2.2.2.1) (fun e =>hn (hs i e.symm hi))).trans (h.2.2.2.2 i hi hn)⟩
theorem Turn.setCell {S:Nat→Prop} {a b:World} (h:Turn S a b) (g i:Nat) (u:Value) (hs:S g):Turn S a (b.setCell ⟨g,i,none⟩ u) :=
 ⟨h.1,h.2.1,h.2.2.1,by simpa using h.2.2.2.1,fun k hk hn =>(Below.heap_setCell _ _ _ k (fun e =>hn (by rw [show k=g from e];exact hs))).trans (h.2.2.2.2 k hk hn)⟩
theorem Turn.of_below {S:Nat→Prop} {a b:World} (h:Below a.heap.size a b):Turn S a b:=⟨h.os,h.tape,h.output,h.size,fun k hk _ =>h.block k hk⟩
theorem Turn.below {S:Nat→Prop} {a b:World} {n0:Nat} (h:Turn S a b) (hs:∀ i,S i→n0≤i) (hn:n0≤a.heap.size):Below n0 a b :=
 ⟨h.1,h.2.1,h.2.2.1,h.2.2.2.1,fun k hk =>h.2.2.2.2 k (Nat.lt_of_lt_of_le hk hn) (fun h2 =>by have:=hs k h2;omega)⟩
theorem zBs (B:Nat) (w:World) (n:Nat):Below B w (w.drewN n):=⟨rfl,rfl,rfl,Nat.le_refl _,fun _ _ =>rfl⟩
abbrev W32:=BitVec 32
def poly:W32:=0xedb88320#32
def st (s:W32):W32:=if s.getLsbD 0 then (s >>> 1) ^^^ poly else s >>> 1
def stn:Nat→W32→W32
 | 0,s =>s
 | k+1,s =>stn k (st s)
theorem zKz (a b:Nat) (s:W32):stn (a+b) s=stn b (stn a s):=by
 induction a generalizing s with
 | zero =>simp [stn]
 | succ a ih =>rw [Nat.succ_add];exact ih (st s)
theorem zLV (a b:W32):st (a ^^^ b)=st a ^^^ st b:=by
 unfold st
 rw [BitVec.getLsbD_xor,BitVec.ushiftRight_xor_distrib]
 cases a.getLsbD 0 <;> cases b.getLsbD 0 <;> simp
 ·ac_rfl
 ·ac_rfl
 ·have:(a >>> 1 ^^^ poly ^^^ (b >>> 1 ^^^ poly))=a >>> 1 ^^^ b >>> 1 ^^^ (poly ^^^ poly):=by ac_rfl
  rw [this];simp
theorem zLB (k:Nat) (a b:W32):stn k (a ^^^ b)=stn k a ^^^ stn k b:=by
 induction k generalizing a b with
 | zero =>rfl
 | succ k ih =>rw [stn,zLV,ih];rfl
theorem zKB (k:Nat):stn k 0#32=0#32:=by
 induction k with
 | zero =>rfl
 | succ k ih =>rw [stn,show st 0#32=0#32 by decide,ih]
theorem zLA (k:Nat) (a:W32) (hk:k≤32) (h:a.toNat<2 ^ (32 - k)):stn k (a <<< k)=a:=by
 induction k with
 | zero =>simp [stn]
 | succ k ih =>
  have e:a <<< (k+1)=(a <<< k) <<< 1:=BitVec.shiftLeft_add a k 1
  have hb:(a <<< k).getLsbD 31=false:=by
   rw [BitVec.getLsbD_shiftLeft]
   have:a.getLsbD (31 - k)=false:=by
    rw [BitVec.getLsbD,Nat.testBit_lt_two_pow]
    exact Nat.lt_of_lt_of_le h (Nat.pow_le_pow_right (by omega) (by omega))
   simp [this]
  have e2:st ((a <<< k) <<< 1)=a <<< k:=by
   unfold st
   have h0:((a <<< k) <<< 1).getLsbD 0=false:=by rw [BitVec.getLsbD_shiftLeft];simp
   rw [if_neg (by rw [h0];decide)]
   generalize a <<< k=b at hb
   apply BitVec.eq_of_getLsbD_eq
   intro i hi
   rw [BitVec.getLsbD_ushiftRight,BitVec.getLsbD_shiftLeft]
   by_cases h31:i=31
   ·subst h31;rw [hb];rfl
   ·have:1+i<32:=by omega
    simp [this,show 1+i - 1=i by omega]
  rw [e,stn,e2]
  exact ih (by omega) (Nat.lt_of_lt_of_le h (Nat.pow_le_pow_right (by omega) (by omega)))
def x32 (x:UInt8):W32:=BitVec.ofNat 32 x.toNat
theorem zEB (x:UInt8):(x32 x).toNat=x.toNat:=by
 simp [x32]
def up (s:W32) (x:UInt8):W32:=stn 8 (s ^^^ x32 x)
def ups (s:W32) (bs:List UInt8):W32:=bs.foldl up s
def ones:W32:=0xffffffff#32
def crc (bs:List UInt8):W32 := ~~~ (ups ones bs)
theorem zDh (s:W32) (a b:List UInt8):ups s (a++b)=ups (ups s a) b:=by simp [ups]
def tab:List Nat:=[0,498536548,997073096,651767980,1994146192,1802195444,1303535960,1342533948,3988292384,4027552580,3604390888,3412177804,2607071920,2262029012,2685067896,3183342108]
def tabN (i:Nat):Nat:=tab.getD i 0
def half (s:W32):W32:=(s >>> 4) ^^^ BitVec.ofNat 32 (tabN (s.toNat % 16))
theorem zLX:∀ j:Fin 16,stn 4 (BitVec.ofNat 32 j.val)=BitVec.ofNat 32 (tabN j.val):=by decide +kernel
theorem zHQ (s:W32):half s=stn 4 s:=by
 have hj:s.toNat % 16<16:=Nat.mod_lt _ (by omega)
 have e:s=((s >>> 4) <<< 4) ^^^ BitVec.ofNat 32 (s.toNat % 16):=by
  apply BitVec.eq_of_getLsbD_eq
  intro i hi
  rw [BitVec.getLsbD_xor,BitVec.getLsbD_shiftLeft,BitVec.getLsbD_ushiftRight,BitVec.getLsbD_ofNat]
  have:(s.toNat % 16).testBit i=(decide (i<4) && s.getLsbD i):=by
   rw [show (16:Nat)=2 ^ 4 by rfl,Nat.testBit_mod_two_pow];rfl
  rw [this]
  by_cases h4:i<4
  ·simp [hi,h4]
  ·simp [hi,h4,show 4+(i - 4)=i by omega]
 have e2:stn 4 ((s >>> 4) <<< 4)=s >>> 4:=zLA 4 _ (by omega) (by
  rw [BitVec.toNat_ushiftRight,Nat.shiftRight_eq_div_pow]
  have:=s.isLt
  omega)
 have e3:=zLX ⟨s.toNat % 16,hj⟩
 unfold half
 conv =>rhs;rw [e,zLB,e2]
 rw [← e3]
theorem zJQ (s:W32) (x:UInt8):half (half (s ^^^ x32 x))=up s x:=by
 rw [zHQ,zHQ,← zKz];rfl
def zDk (c0 c:List UInt8) (first k m:Nat):Prop:=c.length=c0.length∧m<2 ^ k∧ups ones c=ups ones c0 ^^^ stn (8 * c0.length - first) (BitVec.ofNat 32 m)
theorem zDk.start (c0:List UInt8) (first:Nat):zDk c0 c0 first 0 0:=⟨rfl,by omega,by rw [zKB];simp⟩
theorem zDk.keep {c0 c:List UInt8} {first k m:Nat} (h:zDk c0 c first k m):zDk c0 c first (k+1) m:=⟨h.1,by have:=h.2.1;rw [Nat.pow_succ];omega,h.2.2⟩
def wv (s:W32):Value:=.int .u32 (s.toNat:Int)
def Laid (w:World):Prop:=∀ i,i<16→w.cell? ⟨0,i,none⟩=some (.int .u32 (tabN i:Int))
theorem zGH (s:W32) (c d i r:Nat) (hc:c=s.toNat) (hd:d=c / 16) (hi:i=c % 16) (hr:r=(half s).toNat) :
  bits .xor .u32 (d:Int) (tabN i:Int)=(r:Int):=by
 have hs:=s.isLt
 have ht:tabN i<4294967296:=by
  have:∀ j:Fin 16,tabN j.val<4294967296:=by decide
  exact this ⟨i,by omega⟩
 rw [u32_xor_nat d (tabN i) (by omega) ht,hr,half,BitVec.toNat_xor,BitVec.toNat_ushiftRight,BitVec.toNat_ofNat,Nat.shiftRight_eq_div_pow,hd,hc,hi,hc]
 rw [hi,hc] at ht
 rw [Nat.mod_eq_of_lt (a:=tabN (s.toNat % 16)) ht]
theorem zKQ (c:Nat) (hc:c<4294967296):bits .and .u32 (c:Int) 15=((c % 16:Nat):Int):=by
 refine (u32_and_nat c 15 hc (by omega)).trans ?_
 congr 1
 exact Nat.and_two_pow_sub_one_eq_mod c 4
theorem zKI (s:W32):bits .xor .u32 IntKind.u32.max ((s.toNat:Nat):Int)=(((~~~ s).toNat:Nat):Int):=by
 refine (u32_xor_nat 4294967295 s.toNat (by omega) s.isLt).trans ?_
 have:(BitVec.allOnes 32 ^^^ s).toNat=4294967295 ^^^ s.toNat:=by rw [BitVec.toNat_xor];rfl
 rw [← this,BitVec.allOnes_xor]
def PRow (w:World) (B:Nat) (v:Value) (bs:List UInt8):Prop:=∃ A n c,v=.slice A n c∧n≤c∧n≤1073741824∧zAE w B 1 A n (bs.map bv)
def zDM (w:World) (B:Nat) (vs:List Value) (ps:List (List UInt8)):Prop:=vs.length=ps.length∧∀ (i:Nat) (v:Value),vs[i]? = some v→∃ bs:List UInt8,ps[i]? = some bs∧PRow w B v bs
def IRel (s:W32) (bs:List UInt8) (w:World) (v idx:Value) (wr:World):Prop:=∃ j,j≤bs.length∧idx=.int .i64 (j:Int)∧v=wv (ups s (bs.take j))∧w=wr
def ORel (ps:List (List UInt8)) (w:World) (v idx:Value) (wr:World):Prop:=∃ j,j≤ps.length∧idx=.int .i64 (j:Int)∧v=wv (ups ones (ps.take j).flatten)∧w=wr
theorem zLg {bs:List UInt8} {i:Nat} {u:Value} (h:(bs.map bv)[i]? = some u):∃ x,u=.int .u8 (x.toNat:Int)∧bs[i]? = some x:=by
 rw [List.getElem?_map] at h
 obtain ⟨x,hx,rfl⟩:=Option.map_eq_some_iff.1 h
 exact ⟨x,rfl,hx⟩
theorem zLC (L:Option Addr) (m d:Nat) (vs:List Value) (ps:List (List UInt8)) (hm:m≤1073741824) (w:World) (hl:Laid w) (hr:zAE w w.heap.size 1 L m vs) (hp:zDM w w.heap.size vs ps) :
  Calls Tryz.prog 32 #[.slice L m d] w fun e w' =>e=.returned (wv (crc ps.flatten))∧w=w':=by
 have hml:ps.length=m:=by have:=hr.1;have:=hp.1;omega
 have HML:=yh hml
 have HP:=yh hp
 have HL:=yh hl
 clear hml hp hl
 go_enter Tryz.func32,Tryz.ntmps32
 go_wp2
 go_loopw [3,10] (fun v idx wr =>ORel ps w v idx wr) (fun v idx wr =>m - (intOf idx).toNat)
 case atStart =>exact ⟨0,by omega,rfl,rfl,rfl⟩
 case round =>
  obtain ⟨i,hi,rfl,rfl,rfl⟩:=hrel
  rw [HML.out] at hi
  by_cases hlt:i<m
  ·obtain ⟨ad,u,rfl,hadb,hx,hcell⟩:=hr.at_ hlt
   obtain ⟨bs,hbs,A,n,c,rfl,hnc,hnb,hrb⟩:=HP.out.2 i u hx
   have hbn:bs.length=n:=by have:=hrb.1;simpa using this
   have HBS:=yh hbs
   have HX:=yh hx
   clear hbs hx
   go_wp2
   obtain ⟨s0,hs0⟩:∃ s0,s0=ups ones (ps.take i).flatten:=⟨_,rfl⟩
   rw [← hs0]
   have HS0:=yh hs0
   clear hs0
   go_loopw [3,16] (fun v idx wr =>IRel s0 bs w v idx wr) (fun v idx wr =>n - (intOf idx).toNat)
   case atStart =>exact ⟨0,by omega,rfl,rfl,rfl⟩
   case round =>
    obtain ⟨j,hj,rfl,rfl,rfl⟩:=hrel
    by_cases hjn:j<n
    ·obtain ⟨adx,u,rfl,hadx,hy,hcx⟩:=hrb.at_ hjn
     obtain ⟨x,rfl,hxj⟩:=zLg hy
     obtain ⟨s1,hs1⟩:∃ s1,s1=ups s0 (bs.take j):=⟨_,rfl⟩
     have e1:up s1 x=ups s0 (bs.take (j+1)):=by rw [hs1,List.take_add_one,hxj,zDh];rfl
     rw [← hs1]
     have E1:=yh e1
     clear hs1 hxj hy e1
     obtain ⟨a,ha⟩:∃ a,a=s1.toNat:=⟨_,rfl⟩
     obtain ⟨c1,hc1⟩:∃ c1,c1=(s1 ^^^ x32 x).toNat:=⟨_,rfl⟩
     obtain ⟨c2,hc2⟩:∃ c2,c2=(half (s1 ^^^ x32 x)).toNat:=⟨_,rfl⟩
     obtain ⟨c3,hc3⟩:∃ c3,c3=(half (half (s1 ^^^ x32 x))).toNat:=⟨_,rfl⟩
     obtain ⟨b,hb⟩:∃ b,b=x.toNat:=⟨_,rfl⟩
     have hb256:b<256:=by rw [hb];exact x.toNat_lt
     have ha32:a<4294967296:=by rw [ha];exact s1.isLt
     have hc132:c1<4294967296:=by rw [hc1];exact (s1 ^^^ x32 x).isLt
     have hc232:c2<4294967296:=by rw [hc2];exact (half (s1 ^^^ x32 x)).isLt
     have k1:IntKind.u32.wrap (b:Int)=(b:Int):=by rw [IntKind.wrap_u32'];omega
     have k2:bits .xor .u32 (a:Int) (b:Int)=(c1:Int):=by rw [u32_xor_nat a b ha32 (by omega),hc1,BitVec.toNat_xor,zEB,ha,hb]
     obtain ⟨d1,hd1⟩:∃ d1,d1=c1 / 16:=⟨_,rfl⟩
     obtain ⟨i1,hi1⟩:∃ i1,i1=c1 % 16:=⟨_,rfl⟩
     obtain ⟨d2,hd2⟩:∃ d2,d2=c2 / 16:=⟨_,rfl⟩
     obtain ⟨i2,hi2⟩:∃ i2,i2=c2 % 16:=⟨_,rfl⟩
     have k3:(c1:Int) / 16=(d1:Int):=by omega
     have k4:bits .and .u32 (c1:Int) 15=(i1:Int):=by rw [zKQ c1 hc132,hi1]
     have k5:bits .xor .u32 (d1:Int) (tabN i1:Int)=(c2:Int):=zGH _ c1 d1 i1 c2 hc1 hd1 hi1 hc2
     have k6:(c2:Int) / 16=(d2:Int):=by omega
     have k7:bits .and .u32 (c2:Int) 15=(i2:Int):=by rw [zKQ c2 hc232,hi2]
     have k8:bits .xor .u32 (d2:Int) (tabN i2:Int)=(c3:Int):=zGH _ c2 d2 i2 c3 hc2 hd2 hi2 hc3
     have l1:=HL.out i1 (by omega)
     have l2:=HL.out i2 (by omega)
     have hi116:i1<16:=by omega
     have hi216:i2<16:=by omega
     have hv:wv s1=.int .u32 (a:Int):=by rw [wv,ha]
     have hv3:wv (up s1 x)=.int .u32 (c3:Int):=by rw [wv,← zJQ,hc3]
     rw [hv]
     have HV3:=yh hv3
     rw [← hb] at hcx
     clear hv hv3 ha hc1 hc2 hc3 hb hd1 hd2 hi1 hi2 ha32 hc132 hc232
     generalize tabN i1=t1 at k5 l1
     generalize tabN i2=t2 at k8 l2
     go_wp2
     clear k1 k2 k3 k4 k5 k6 k7 k8 l1 l2
     exact ⟨⟨j+1,by omega,by go_num,by rw [← E1.out,HV3.out],rfl⟩,by simp [intOf];omega⟩
    ·obtain rfl:j=n:=by omega
     have hall:bs.take j=bs:=List.take_of_length_le (by omega)
     have e1:ups s0 (bs.take j)=ups ones (ps.take (i+1)).flatten:=by
      rw [hall,HS0.out,← zDh,List.take_add_one,HBS.out]
      simp
     rw [e1]
     have HN:=yh hbn
     clear e1 hall hbn
     generalize hq:wv (ups ones (ps.take (i+1)).flatten)=q
     have HQ:=yh hq
     clear hq
     go_wp2
     exact ⟨⟨i+1,by rw [HML.out];omega,by go_num,HQ.out.symm,rfl⟩,by simp [intOf];omega⟩
  ·obtain rfl:i=m:=by omega
   have hall:ps.take i=ps:=List.take_of_length_le (by rw [HML.out];omega)
   rw [hall]
   have hf:bits .xor .u32 IntKind.u32.max ((ups ones ps.flatten).toNat:Int)=((crc ps.flatten).toNat:Int):=zKI _
   clear hall
   obtain ⟨a,ha⟩:∃ a,a=(ups ones ps.flatten).toNat:=⟨_,rfl⟩
   rw [← ha] at hf
   have hv:wv (ups ones ps.flatten)=.int .u32 (a:Int):=by rw [wv,ha]
   rw [hv]
   have HV:Hid (wv (crc ps.flatten)=.int .u32 ((crc ps.flatten).toNat:Int)):=yh rfl
   obtain ⟨z,hz⟩:∃ z,z=(crc ps.flatten).toNat:=⟨_,rfl⟩
   rw [← hz] at hf HV
   clear hv ha hz
   go_wp2
   go_ret
   exact ⟨HV.out.symm▸rfl,rfl⟩
end Go.Proofs.YtgoklhoaedceaaaGreatDoor
