/- Texts of one proof. -/
import Derived.Lib.AppendZerosOnto
import Derived.Test.YtekchkfjgofnkaaGreatDoorMy22
set_option maxRecDepth 100000
set_option maxHeartbeats 8000000
namespace Go.Proofs.YtekchkfjgofnkaaGreatDoor
open Go.RowKit
theorem zLg (a x k:Nat) (ha:a<2 ^ k):a ||| (x * 2 ^ k)=a+x * 2 ^ k:=by
 have:=Nat.two_pow_add_eq_or_of_lt ha x
 rw [Nat.or_comm,Nat.mul_comm,← this,Nat.add_comm]
theorem zJc (x:UInt8):∀ q:List UInt8,q.length≤3→(le4 (q++[x])).toNat=(le4 q).toNat+x.toNat * 2 ^ (8 * q.length)
 | [],_ =>by
  rw [List.nil_append,zBn _ _ (by simp)]
  simp [le4]
 | y :: q,h =>by
  simp only [List.length_cons] at h
  rw [List.cons_append,zBn _ _ (by simp;omega),zBn _ _ (by omega),zJc x q (by omega),List.length_cons,show 8 * (q.length+1)=8 * q.length+8 by omega,Nat.pow_add,← Nat.mul_assoc,Nat.add_mul]
  omega
theorem zSN (x:UInt8) (q:List UInt8) (h:q.length≤3):bits .or .u32 ((le4 q).toNat:Int) ((x.toNat * 2 ^ (8 * q.length):Nat):Int)=((le4 (q++[x])).toNat:Int):=by
 have h1:=zJb q (by omega)
 have hx:=x.toNat_lt
 have h3:x.toNat * 2 ^ (8 * q.length)<4294967296:=by
  have h4:2 ^ (8 * q.length)≤2 ^ 24:=Nat.pow_le_pow_right (by omega) (by omega)
  have h5:x.toNat * 2 ^ (8 * q.length)≤255 * 2 ^ 24:=Nat.mul_le_mul (by omega) h4
  omega
 rw [u32_or_nat _ _ (le4 q).isLt h3,zLg _ _ _ h1,zJc x q h]
def zHR (s:W32) (j:Nat):List UInt8:=(List.range 4).map (fun i =>if i<j then nth s i else 0)
theorem zNS (s:W32) (j:Nat) (h:j<4):((zHR s j).map bv).set j (bv (nth s j))=(zHR s (j+1)).map bv:=by
 obtain rfl | rfl | rfl | rfl:j=0∨j=1∨j=2∨j=3:=by omega
 all_goals rfl
theorem zRJ (s:W32) (j:Nat):bv (nth s j)=.int .u8 ((s.toNat / 2 ^ (8 * j) % 256:Nat):Int):=zJH (Nat.mod_lt _ (by omega))
theorem zCX:(Tryz.prog.info? 5).map (fun i =>(i.zero,i.size,i.bytes))=some (some (.int .u8 0),1,1):=by kernel_rfl
theorem _root_.Go.World.ownsRow.cells_eq {w:World} {base:Nat} {e:TypeId} {size:Nat} {v:Value} {n:Nat} {xs ys:List Value} (h:w.ownsRow base e size v n xs) (he:xs=ys):w.ownsRow base e size v n ys:=he▸h
def BRel (s:W32) (w:World) (idx:Value) (wr:World):Prop :=
 ∃ j:Nat,j≤4∧idx=.int .i64 (j:Int)∧wr.ownsRow w.heap.size 5 1 (.slice (some ⟨w.heap.size,0,none⟩) 4 4) 4 ((zHR s j).map bv)∧Below w.heap.size w wr
theorem zMd (s:W32) (w:World) :
  Calls Tryz.prog 136 #[wv s] w fun e w' =>∃ v,e=.returned v∧w'.ownsRow w.heap.size 5 1 v 4 ((lb s).map bv)∧Below w.heap.size w w':=by
 obtain ⟨i0,hi,hz0,hz1,hz2⟩:=info_parts zCX
 have hv:wv s=.int .u32 (s.toNat:Int):=rfl
 obtain ⟨a,ha⟩:∃ a,a=s.toNat:=⟨_,rfl⟩
 rw [hv,← ha]
 have HA:=yh ha
 clear hv ha
 go_enter Tryz.func136,Tryz.ntmps136
 obtain ⟨w1,hrun0,hown,hgrow⟩:=run_make_full (P:=Tryz.prog) w w.heap.size 59 5 i0 (.int .u8 0) 1 Tryz.underlying59 hi hz0 hz1 .i64 .i64 4 (by rw [hz2];omega) (by unfold maxLen;omega) (Nat.le_refl _)
 have hrun:(Instr.makeSlice 59 (.int .i64 4) (.int .i64 4)).run Tryz.prog w=.ok (.slice (some ⟨w.heap.size,0,none⟩) 4 4) w1:=hrun0
 have hb1:Below w.heap.size w w1:=(Below.refl _ w).grown hgrow (Nat.le_refl _) (by simp)
 have HOWN:=yh hown
 clear hrun0 hgrow hown
 go_wp2
 clear hrun
 go_loopw [8] (fun idx wr =>BRel s w idx wr) (fun idx wr =>4 - (intOf idx).toNat)
 case atStart =>exact ⟨0,by omega,rfl,HOWN.out.cells_eq ((toList_madeCells_one _ _).trans rfl),hb1⟩
 case round =>
  obtain ⟨j,hj,rfl,ho,hb⟩:=hrel
  have ha32:a<4294967296:=by rw [HA.out];exact s.isLt
  have HO:=yh ho
  have hfz:wr.frozen? ⟨w.heap.size,j,none⟩=false:=ho.frozenAt j
  by_cases hlt:j<4
  ·obtain ⟨ho2,hg2⟩:=ho.stored j (bv (nth s j))
   have ho3:=ho2.cells_eq (zNS s j hlt)
   have hb2:=hb.grown hg2 (by have:=hb.size;omega) (by intro g hg;injection hg with hg;omega)
   rw [zRJ,← HA.out] at ho3 hb2
   obtain ⟨old,hold⟩:∃ old,((zHR s j).map bv)[j]? = some old:=⟨_,List.getElem?_eq_getElem (by simp [zHR];omega)⟩
   have hcell:wr.cell? ⟨w.heap.size,j,none⟩=some old:=(ho.cellAt j (by omega)).trans hold
   have HO3:=yh ho3
   have HB2:=yh hb2
   clear ho ho2 hg2 ho3 hb2 hold
   obtain rfl | hlt:j=0∨0<j:=by omega
   ·have k1:IntKind.u8.wrap ((a:Int))=((a / 2 ^ (8 * 0) % 256:Nat):Int):=by rw [IntKind.wrap_u8'];omega
    obtain ⟨b,hbb⟩:∃ b,b=a / 2 ^ (8 * 0) % 256:=⟨_,rfl⟩
    rw [← hbb] at k1 HO3 HB2
    clear hbb ha32
    go_wp2
    exact ⟨⟨1,by omega,rfl,HO3.out,HB2.out⟩,by simp [intOf]⟩
   obtain rfl | hlt:j=1∨1<j:=by omega
   ·have k1:IntKind.u8.wrap ((a:Int) / 256)=((a / 2 ^ (8 * 1) % 256:Nat):Int):=by rw [IntKind.wrap_u8'];omega
    obtain ⟨b,hbb⟩:∃ b,b=a / 2 ^ (8 * 1) % 256:=⟨_,rfl⟩
    rw [← hbb] at k1 HO3 HB2
    clear hbb ha32
    go_wp2
    exact ⟨⟨2,by omega,rfl,HO3.out,HB2.out⟩,by simp [intOf]⟩
   obtain rfl | hlt:j=2∨2<j:=by omega
   ·have k1:IntKind.u8.wrap ((a:Int) / 65536)=((a / 2 ^ (8 * 2) % 256:Nat):Int):=by rw [IntKind.wrap_u8'];omega
    obtain ⟨b,hbb⟩:∃ b,b=a / 2 ^ (8 * 2) % 256:=⟨_,rfl⟩
    rw [← hbb] at k1 HO3 HB2
    clear hbb ha32
    go_wp2
    exact ⟨⟨3,by omega,rfl,HO3.out,HB2.out⟩,by simp [intOf]⟩
   obtain rfl:j=3:=by omega
   ·have k1:IntKind.u8.wrap ((a:Int) / 16777216)=((a / 2 ^ (8 * 3) % 256:Nat):Int):=by rw [IntKind.wrap_u8'];omega
    obtain ⟨b,hbb⟩:∃ b,b=a / 2 ^ (8 * 3) % 256:=⟨_,rfl⟩
    rw [← hbb] at k1 HO3 HB2
    clear hbb ha32
    go_wp2
    exact ⟨⟨4,by omega,rfl,HO3.out,HB2.out⟩,by simp [intOf]⟩
  ·obtain rfl:j=4:=by omega
   clear hfz ho
   go_wp2
   go_ret
   exact ⟨_,rfl,HO.out,hb⟩
theorem zMe (s:W32) (w:World):Calls Tryz.prog 136 #[wv s] w fun e w' =>∃ A c,e=.returned (.slice A 4 c)∧4≤c∧zAD w' w'.heap.size 1 A 4 ((lb s).map bv)∧Below w.heap.size w w':=by
 refine (zMd s w).mono ?_
 rintro e w' ⟨v,rfl,ho,hb⟩
 obtain ⟨A,c,rfl,hc,hr⟩:=zBF ho
 exact ⟨A,c,rfl,hc,hr,hb⟩
theorem zPj (A:Option Addr) (n c:Nat) (at_:Int) (hn:n≤1073741824) (h:at_<0∨(n:Int) - 4<at_) (w:World) :
  Calls Tryz.prog 98 #[.slice A n c,.int .i64 at_] w fun e w' =>e=.returned (.tuple #[.int .u32 0,.bool false])∧w=w':=by
 by_cases h0:at_<0
 ·clear h
  go_enter Tryz.func98,Tryz.ntmps98
  go_wp2
  go_ret2
  exact ⟨rfl,rfl⟩
 ·have h1:(n:Int) - 4<at_:=by omega
  clear h
  go_enter Tryz.func98,Tryz.ntmps98
  go_wp2
  go_ret2
  exact ⟨rfl,rfl⟩
def RRel (q:List UInt8) (w:World) (v idx:Value) (wr:World):Prop:=∃ j:Nat,j≤4∧idx=.int .i64 (j:Int)∧v=wv (le4 (q.take j))∧w=wr
theorem zLI (A:Option Addr) (n c k:Nat) (bs:List UInt8) (hn:n≤1073741824) (hc:n≤c) (hk:k+4≤n) (w:World) (hr:zAD w w.heap.size 1 A n (bs.map bv)) :
  Calls Tryz.prog 98 #[.slice A n c,.int .i64 (k:Int)] w fun e w' =>e=.returned (.tuple #[wv (le4 ((bs.drop k).take 4)),.bool true])∧w=w':=by
 have hne:¬ c=k:=by omega
 have hrc:=(hr.cut (cap:=c) (k:=k) (by omega) hc)
 rw [if_neg hne,Nat.mul_one,← List.map_drop] at hrc
 have hr4:=hrc.take (k:=4) (by omega)
 rw [← List.map_take] at hr4
 obtain ⟨q,hq⟩:∃ q,q=(bs.drop k).take 4:=⟨_,rfl⟩
 rw [← hq] at hr4 ⊢
 have hql:q.length=4:=by have:=hr4.1;simpa using this
 obtain ⟨ad,rfl⟩:∃ ad,A=some ad:=by
  obtain ⟨ad,h,_⟩:=hr.2 (by omega)
  exact ⟨ad,h⟩
 have HR4:=yh hr4
 have HQL:=yh hql
 clear hr4 hql hrc hr hq
 go_enter Tryz.func98,Tryz.ntmps98
 go_wp2
 go_loopw [6,24] (fun v idx wr =>RRel q w v idx wr) (fun _ idx wr =>4 - (intOf idx).toNat)
 case atStart =>exact ⟨0,by omega,rfl,rfl,rfl⟩
 case round =>
  obtain ⟨j,hj,rfl,rfl,rfl⟩:=hrel
  by_cases hlt:j<4
  ·obtain ⟨ad1,u,hA,_,hx,hcell⟩:=HR4.out.at_ hlt
   obtain ⟨x,rfl,hxj⟩:=zQS hx
   obtain rfl:ad1=ad.add k:=by injection hA with hA;exact hA.symm
   have e1:q.take (j+1)=q.take j++[x]:=by rw [List.take_add_one,hxj];rfl
   have hl:(q.take j).length=j:=by rw [List.length_take,HQL.out];omega
   have hor:=zSN x (q.take j) (by omega)
   rw [hl,← e1] at hor
   obtain ⟨a,ha⟩:∃ a,a=(le4 (q.take j)).toNat:=⟨_,rfl⟩
   obtain ⟨b,hb⟩:∃ b,b=x.toNat:=⟨_,rfl⟩
   obtain ⟨r,hr⟩:∃ r,r=(le4 (q.take (j+1))).toNat:=⟨_,rfl⟩
   have hb256:b<256:=by rw [hb];exact x.toNat_lt
   have hv:wv (le4 (q.take j))=.int .u32 (a:Int):=by rw [wv,ha]
   have hv2:.int .u32 (r:Int)=wv (le4 (q.take (j+1))):=by rw [wv,hr]
   rw [hv]
   rw [← ha,← hb,← hr] at hor
   rw [← hb] at hcell
   have HV2:=yh hv2
   have k0:IntKind.u32.wrap (b:Int)=(b:Int):=by rw [IntKind.wrap_u32'];omega
   clear hv hv2 ha hb hr hx hA hxj e1 hl
   obtain rfl | hlt:j=0∨0<j:=by omega
   ·obtain ⟨z,hz⟩:∃ z,z=b * 2 ^ (8 * 0):=⟨_,rfl⟩
    have k1:(b:Int)=(z:Int):=by omega
    have hcell2:w.cell? (ad.add k)=some (.int .u8 (b:Int)):=hcell
    rw [← hz] at hor
    clear hz hcell
    go_wp2
    exact ⟨⟨1,by omega,rfl,HV2.out,rfl⟩,by simp [intOf]⟩
   obtain rfl | hlt:j=1∨1<j:=by omega
   ·obtain ⟨z,hz⟩:∃ z,z=b * 2 ^ (8 * 1):=⟨_,rfl⟩
    have k1:IntKind.u32.wrap ((b:Int) * 256)=(z:Int):=by rw [IntKind.wrap_u32'];omega
    have hcell2:w.cell? ⟨(ad.add k).block,(ad.add k).off+1,none⟩=some (.int .u8 (b:Int)):=hcell
    rw [← hz] at hor
    clear hz hcell
    go_wp2
    exact ⟨⟨2,by omega,rfl,HV2.out,rfl⟩,by simp [intOf]⟩
   obtain rfl | hlt:j=2∨2<j:=by omega
   ·obtain ⟨z,hz⟩:∃ z,z=b * 2 ^ (8 * 2):=⟨_,rfl⟩
    have k1:IntKind.u32.wrap ((b:Int) * 65536)=(z:Int):=by rw [IntKind.wrap_u32'];omega
    have hcell2:w.cell? ⟨(ad.add k).block,(ad.add k).off+2,none⟩=some (.int .u8 (b:Int)):=hcell
    rw [← hz] at hor
    clear hz hcell
    go_wp2
    exact ⟨⟨3,by omega,rfl,HV2.out,rfl⟩,by simp [intOf]⟩
   obtain rfl:j=3:=by omega
   ·obtain ⟨z,hz⟩:∃ z,z=b * 2 ^ (8 * 3):=⟨_,rfl⟩
    have k1:IntKind.u32.wrap ((b:Int) * 16777216)=(z:Int):=by rw [IntKind.wrap_u32'];omega
    have hcell2:w.cell? ⟨(ad.add k).block,(ad.add k).off+3,none⟩=some (.int .u8 (b:Int)):=hcell
    rw [← hz] at hor
    clear hz hcell
    go_wp2
    exact ⟨⟨4,by omega,rfl,HV2.out,rfl⟩,by simp [intOf]⟩
  ·obtain rfl:j=4:=by omega
   have hall:q.take 4=q:=List.take_of_length_le (by rw [HQL.out];omega)
   rw [hall]
   generalize hv:wv (le4 q)=v
   have HV:=yh hv
   clear hall hv
   go_wp2
   go_ret2
   exact ⟨by rw [HV.out];rfl,rfl⟩
open Go.RowKit Go.Shelf
def ver (v:Int):Bool:=decide (1≤v) && decide (v≤3)
theorem zKI {v:Int} (h:¬ 1≤v ∨ ¬ v≤3):ver v=false:=by
 unfold ver
 rcases h with h | h
 ·rw [decide_eq_false h,Bool.false_and]
 ·rw [decide_eq_false h,Bool.and_false]
theorem zID {v:Int} (h:1≤v∧v≤3):ver v=true:=by
 unfold ver
 rw [decide_eq_true h.1,decide_eq_true h.2];rfl
theorem zGJ (v:Int) (w:World):Calls Tryz.prog 100 #[.int .i64 v] w fun e w' =>e=.returned (.bool (ver v))∧w=w':=by
 by_cases h1:1≤v
 ·by_cases h2:v≤3
  ·rw [zID ⟨h1,h2⟩]
   go_enter Tryz.func100,Tryz.ntmps100
   go_wp2
   go_ret
   simp
  ·rw [zKI (.inr h2)]
   go_enter Tryz.func100,Tryz.ntmps100
   go_wp2
   go_ret
   simp
 ·rw [zKI (.inl h1)]
  go_enter Tryz.func100,Tryz.ntmps100
  go_wp2
  go_ret
  simp
theorem zKK (B:Nat) (v:Value) (n:Nat) (bs:List UInt8) (hn:n+4≤1073741824) (w:World) (hB:B≤w.heap.size) (hl:Laid w) (ho:w.ownsRow B 5 1 v n (bs.map bv)) :
  Calls Tryz.prog 112 #[v] w fun e w' =>∃ v',e=.returned v'∧w'.ownsRow B 5 1 v' (n+4) ((bs++lb (crc bs)).map bv)∧Below B w w':=by
 obtain ⟨i0,hi,hz0,hz1,hz2⟩:=info_parts zCX
 obtain ⟨A,c,rfl,hnc,hr⟩:=zBF ho
 have HS:=yh (zIB w (.slice A n c) bs hl ⟨A,n,c,rfl,hnc,by omega,hr⟩)
 have HO:=yh ho
 have hB2:=zAG ho
 have HB2:=yh hB2
 obtain ⟨s,hs⟩:∃ s,s=crc bs:=⟨_,rfl⟩
 rw [← hs] at HS ⊢
 clear hs hr ho hl hnc hB2
 go_enter Tryz.func112,Tryz.ntmps112
 go_wp2_with (first
  | (go_at_call 99;refine HS.out.mono ?_;rintro e w1 ⟨rfl,rfl⟩)
  | (go_at_call 136;refine (zMe s _).mono ?_;rintro e w2 ⟨A2,c2,rfl,hc2,hr2,hb2⟩)
  | (at_builtin;refine zBT _ rfl (.tmp 3) (.tmp 7) 59 rfl B 5 i0 (.int .u8 0) 1 Tryz.underlying59 hi hz0 hz1 hz2 rfl _ n (bs.map bv) rfl (zAK (HO.out.alloc _) hb2) A2 4 c2 _ _ rfl (fun e =>absurd (by rw [e] at hr2;exact hr2.2 (by omega)) (by simp)) hr2 (zCW _) (by unfold maxLen;omega) (by omega) (by have:=hb2.size;simp at this;omega) ?_;intro v3 w3 ho3 hgrow3))
 go_ret
 refine ⟨_,rfl,by simpa using ho3,?_⟩
 exact (((Below.refl B w).alloc hB _).trans (hb2.mono (by simp;omega))).grown hgrow3 (by have:=hb2.size;simp at this;omega) HB2.out
theorem zPE (k:Nat) (hk:k≤1073741824) (w:World) :
  Calls Tryz.prog 161 #[.slice none 0 0,.int .i64 (k:Int)] w fun e w' =>∃ v,e=.returned v∧w'.ownsRow w.heap.size 5 1 v 0 []∧Below w.heap.size w w':=by
 obtain ⟨i0,hi,hz0,hz1,hz2⟩:=info_parts zCX
 rcases Nat.eq_zero_or_pos k with rfl | h0
 ·go_enter Tryz.func161,Tryz.ntmps161
  go_wp2
  go_ret
  exact ⟨_,rfl,World.ownsRow_nil _ _ _ _,Below.refl _ _⟩
 ·have h1:¬ ((k:Int)<0):=by omega
  have h2:wrap64 ((0:Int) - 0)=0:=by unfold wrap64;omega
  have h3:wrap64 ((k:Int) - 0)=(k:Int):=by unfold wrap64;omega
  have h4:(k:Int) > 0:=by omega
  have hold:(Builtin.firstCells i0.size 0 (.slice none 0 0)).run Tryz.prog w.drew=.ok ([]:List Value).toArray w.drew:=run_firstCells_none w.drew i0.size 0 0 0
  have hrz:∀ ty,(Builtin.append_ #[59,3] ty #[.slice none 0 0,.int .i64 (k:Int)]).run Tryz.prog w =
   .ok (.slice (some ⟨w.heap.size,0,none⟩) (0+k) (grownCap w (0+k) 0 5)) (w.drew.alloc (.cells (([]:List Value).toArray++Builtin.zeroCells (Value.int .u8 0).cells k++Builtin.zeroCells (Value.int .u8 0).cells (grownCap w (0+k) 0 5 - (0+k))) 5)):=fun ty =>by
   exact Lib.run_append_grow_zeros w 59 3 ty 5 i0 (.int .u8 0) .i64 .i64 Tryz.underlying59 Tryz.underlying3 hi hz0 none 0 0 [] hold k h0 (by omega) (by omega) (by omega) (by rw [hz2];omega)
    (growslice_fits (by omega) (by rw [hz2];omega))
  have hGn:0+k≤grownCap w (0+k) 0 5:=grownCap_ge w _ _ _
  have hG63:=grownCap_le_maxLen w (0+k) 0 5 (by unfold maxLen;omega)
  obtain ⟨G,hG⟩:∃ G,G=grownCap w (0+k) 0 5:=⟨_,rfl⟩
  rw [← hG] at hrz hGn hG63
  obtain ⟨cs,hcs⟩:∃ cs:Array Value,cs=(([]:List Value).toArray++Builtin.zeroCells (Value.int .u8 0).cells k++Builtin.zeroCells (Value.int .u8 0).cells (G - (0+k))):=⟨_,rfl⟩
  have hcl:cs.size=G:=by rw [hcs];simp [Builtin.zeroCells,Value.cells];omega
  rw [← hcs] at hrz
  have HCL:=yh hcl
  have HG63:=yh hG63
  have hG':G≤9223372036854775807:=by unfold maxLen at hG63;omega
  clear hold hG hcs hcl hG63
  go_enter Tryz.func161,Tryz.ntmps161
  go_wp2_with (at_builtin;refine Lib.wpList_append_run _ rfl _ _ _ _ rfl _ _ rfl rfl _ _ (hrz _) ?_)
  go_ret
  refine ⟨_,rfl,?_,((Below.refl _ w).drew).alloc (Nat.le_refl _) _⟩
  exact zBO (cs:=cs.toList) (Nat.le_refl _) (by show (w.heap.push _)[w.heap.size]? = _;simp) (Nat.zero_le _) HG63.out (by simpa using HCL.out) (by simp)
def ARow (w:World) (B:Nat) (v:Value) (bs:List UInt8):Prop:=∃ A n c,v=.slice A n c∧n≤c∧n≤1073741824∧(A=none→c=0)∧zAD w B 1 A n (bs.map bv)
def zSe (w:World) (B:Nat) (vs:List Value) (ps:List (List UInt8)):Prop:=vs.length=ps.length∧∀ (i:Nat) (v:Value),vs[i]? = some v→∃ bs:List UInt8,ps[i]? = some bs∧ARow w B v bs
theorem ARow.below {w w':World} {B:Nat} {v:Value} {bs:List UInt8} (h:ARow w B v bs) (hb:Below B w w'):ARow w' B v bs:=by
 obtain ⟨A,n,c,h1,h2,h3,h4,h5⟩:=h
 exact ⟨A,n,c,h1,h2,h3,h4,h5.below hb⟩
theorem ARow.more {w:World} {B B':Nat} {v:Value} {bs:List UInt8} (h:ARow w B v bs) (hB:B≤B'):ARow w B' v bs:=by
 obtain ⟨A,n,c,h1,h2,h3,h4,h5⟩:=h
 exact ⟨A,n,c,h1,h2,h3,h4,h5.more hB⟩
def SRel (ps:List (List UInt8)) (w:World) (v idx:Value) (wr:World):Prop:=∃ j,j≤ps.length∧idx=.int .i64 (j:Int)∧v=.int .i64 ((ps.take j).flatten.length:Int)∧w=wr
def CRel (ps:List (List UInt8)) (w:World) (v idx:Value) (wr:World):Prop:=∃ j,j≤ps.length∧idx=.int .i64 (j:Int)∧wr.ownsRow w.heap.size 5 1 v (ps.take j).flatten.length ((ps.take j).flatten.map bv)∧Below w.heap.size w wr
theorem zLf (L:Option Addr) (m d:Nat) (vs:List Value) (ps:List (List UInt8)) (hm:m≤1073741824) (hbig:ps.flatten.length≤1073741824) (w:World) (B:Nat) (hB:B≤w.heap.size) (hr:zAD w B 1 L m vs) (hp:zSe w B vs ps) :
  Calls Tryz.prog 134 #[.slice L m d] w fun e w' =>∃ v,e=.returned v∧w'.ownsRow w.heap.size 5 1 v ps.flatten.length (ps.flatten.map bv)∧Below w.heap.size w w':=by
 obtain ⟨i0,hi0,hz0,hz1,hz2⟩:=info_parts zCX
 have hml:ps.length=m:=by have:=hr.1;have:=hp.1;omega
 have hstep:∀ i,i<m→∃ p,ps[i]? = some p∧(ps.take (i+1)).flatten=(ps.take i).flatten++p∧(ps.take (i+1)).flatten.length≤ps.flatten.length:=by
  intro i h
  obtain ⟨p,hpi⟩:∃ p,ps[i]? = some p:=⟨_,List.getElem?_eq_getElem (by omega)⟩
  refine ⟨p,hpi,by rw [List.take_add_one,hpi];simp,?_⟩
  have e:ps=ps.take (i+1)++ps.drop (i+1):=(List.take_append_drop _ _).symm
  have:ps.flatten.length=(ps.take (i+1)).flatten.length+(ps.drop (i+1)).flatten.length:=by
   conv =>lhs;rw [e]
   rw [List.flatten_append,List.length_append]
  omega
 have HSTEP:=yh hstep
 have HML:=yh hml
 have HP:=yh hp
 have HBIG:=yh hbig
 clear hml hp hbig hstep
 go_enter Tryz.func134,Tryz.ntmps134
 go_wp2
 go_loopw [3,11] (fun v idx wr =>SRel ps w v idx wr) (fun v idx wr =>m - (intOf idx).toNat)
 case atStart =>exact ⟨0,by omega,rfl,rfl,rfl⟩
 case round =>
  obtain ⟨i,hi,rfl,rfl,rfl⟩:=hrel
  rw [HML.out] at hi
  by_cases hlt:i<m
  ·obtain ⟨ad,u,rfl,hadb,hx,hcell⟩:=hr.at_ hlt
   obtain ⟨bs,hbs,A,n,c,rfl,hnc,hnb,hA,hrb⟩:=HP.out.2 i u hx
   have hbn:bs.length=n:=by have:=hrb.1;simpa using this
   obtain ⟨p,hpi,hpf,hpl⟩:=HSTEP.out i hlt
   obtain rfl:bs=p:=by rw [hbs] at hpi;injection hpi
   have hsum:(ps.take (i+1)).flatten.length=(ps.take i).flatten.length+n:=by rw [hpf,List.length_append,hbn]
   obtain ⟨s,hs⟩:∃ s,s=(ps.take i).flatten.length:=⟨_,rfl⟩
   rw [← hs] at hsum ⊢
   have hs0:s+n≤1073741824:=by have:=HBIG.out;omega
   have HSUM:=yh hsum
   clear hs hsum hpf hpl hpi hbs hx hbn hrb hA
   have hnot:¬ ((s:Int)+(n:Int)<0):=by omega
   go_wp2
   exact ⟨⟨i+1,by rw [HML.out];omega,by go_num,by rw [HSUM.out];go_num,rfl⟩,by simp [intOf];omega⟩
  ·obtain rfl:i=m:=by omega
   have hall:ps.take i=ps:=List.take_of_length_le (by rw [HML.out];omega)
   rw [hall]
   obtain ⟨s,hs⟩:∃ s,s=ps.flatten.length:=⟨_,rfl⟩
   rw [← hs]
   have hsb:s≤1073741824:=by have:=HBIG.out;omega
   clear hs hall
   go_wp2_with (go_at_call 161;refine (zPE s hsb _).mono ?_;rintro e w1 ⟨v1,rfl,ho1,hb1⟩)
   go_loopw [6,27] (fun v idx wr =>CRel ps w v idx wr) (fun v idx wr =>i - (intOf idx).toNat)
   case atStart =>exact ⟨0,by omega,rfl,by simpa using ho1,hb1⟩
   case round =>
    obtain ⟨j,hj,rfl,ho,hb⟩:=hrel
    rw [HML.out] at hj
    by_cases hjt:j<i
    ·obtain ⟨ad,u,rfl,hadb,hx,hcell0⟩:=hr.at_ hjt
     obtain ⟨bs,hbs,A,n,c,rfl,hnc,hnb,hA,hrb0⟩:=HP.out.2 j u hx
     have hcell:=(hb.cell (p:=ad.add j) (by rw [zAQ];omega)).trans hcell0
     have hrb:=(hrb0.more hB).below hb
     have hbn:bs.length=n:=by have:=hrb.1;simpa using this
     obtain ⟨p,hpi,hpf,hpl⟩:=HSTEP.out j hjt
     obtain rfl:bs=p:=by rw [hbs] at hpi;injection hpi
     have hsum:(ps.take (j+1)).flatten.length=(ps.take j).flatten.length+n:=by rw [hpf,List.length_append,hbn]
     have hmap:(ps.take (j+1)).flatten.map bv=(ps.take j).flatten.map bv++bs.map bv:=by rw [hpf,List.map_append]
     have hs0:(ps.take j).flatten.length+n≤1073741824:=by have:=HBIG.out;omega
     have HSUM:=yh hsum
     have HMAP:=yh hmap
     have HRB:=yh hrb
     clear hsum hmap hpf hpl hpi hbs hx hbn hcell0 hrb0 hrb
     go_wp2_with (at_builtin;refine zBT _ rfl (.tmp 31) (.tmp 32) 59 rfl w.heap.size 5 i0 (.int .u8 0) 1 Tryz.underlying59 hi0 hz0 hz1 hz2 rfl _ _ _ rfl ho A n c _ _ rfl hA HRB.out (zCW _) (by unfold maxLen;omega) (by omega) hb.size ?_;intro v3 w3 ho3 hgrow3)
     refine ⟨⟨j+1,by rw [HML.out];omega,by go_num,by rw [HSUM.out,HMAP.out];exact ho3,hb.grown hgrow3 hb.size (zAG ho)⟩,by simp [intOf];omega⟩
    ·obtain rfl:j=i:=by omega
     have hall:ps.take j=ps:=List.take_of_length_le (by rw [HML.out];omega)
     rw [hall] at ho
     go_wp2
     go_ret
     exact ⟨_,rfl,ho,hb⟩
def fr (p:List UInt8):List UInt8:=blob p++lb (crc (blob p))
def frs:List (List UInt8)→List UInt8
 | [] =>[]
 | p :: l =>fr p++frs l
theorem zHI (p:List UInt8):(fr p).length=(blob p).length+4:=by simp [fr,zEM]
theorem zDH (a b:List (List UInt8)):frs (a++b)=frs a++frs b:=by
 induction a with
 | nil =>rfl
 | cons p a ih =>simp [frs,ih]
theorem zEK {ps:List (List UInt8)} {i:Nat} {p:List UInt8} (h:ps[i]? = some p):frs (ps.take (i+1))=frs (ps.take i)++fr p:=by
 rw [List.take_add_one,h,zDH]
 simp [frs]
def pay (p:List UInt8):Prop:=1≤p.length∧p.length≤2048
def fg (at_:Nat) (bs:List UInt8):List UInt8×Nat×Nat :=
 if at_=bs.length then ([],0,6)
 else if (bg 2048 at_ bs).2.2≠0 then ([],0,(bg 2048 at_ bs).2.2)
 else if (bg 2048 at_ bs).1=[] then ([],0,3)
 else if bs.length<(bg 2048 at_ bs).2.1+4 then ([],0,2)
 else if lb (crc ((bs.drop at_).take ((bg 2048 at_ bs).2.1 - at_)))≠(bs.drop (bg 2048 at_ bs).2.1).take 4 then ([],0,4)
 else ((bg 2048 at_ bs).1,(bg 2048 at_ bs).2.1+4,0)
theorem zHG (bs:List UInt8):fg bs.length bs=([],0,6):=by rw [fg,if_pos rfl]
theorem zFe {at_ e:Nat} {bs:List UInt8} (h0:at_≠bs.length) (h:bg 2048 at_ bs=([],0,e)) (he:e≠0):fg at_ bs=([],0,e):=by
 rw [fg,if_neg h0,h,if_pos he]
theorem zKw {at_ nx:Nat} {bs:List UInt8} (h0:at_≠bs.length) (h:bg 2048 at_ bs=([],nx,0)):fg at_ bs=([],0,3):=by
 rw [fg,if_neg h0,h,if_neg (by simp),if_pos rfl]
theorem zGb {at_ nx:Nat} {p bs:List UInt8} (h0:at_≠bs.length) (h:bg 2048 at_ bs=(p,nx,0)) (hp:p≠[]) (hs:bs.length<nx+4):fg at_ bs=([],0,2):=by
 rw [fg,if_neg h0,h,if_neg (by simp),if_neg hp,if_pos hs]
theorem zMm {at_ nx:Nat} {p bs:List UInt8} (h0:at_≠bs.length) (h:bg 2048 at_ bs=(p,nx,0)) (hp:p≠[]) (hs:¬ bs.length<nx+4) (hc:lb (crc ((bs.drop at_).take (nx - at_)))≠(bs.drop nx).take 4):fg at_ bs=([],0,4):=by
 rw [fg,if_neg h0,h,if_neg (by simp),if_neg hp,if_neg hs,if_pos hc]
theorem zLj {at_ nx:Nat} {p bs:List UInt8} (h0:at_≠bs.length) (h:bg 2048 at_ bs=(p,nx,0)) (hp:p≠[]) (hs:¬ bs.length<nx+4) (hc:lb (crc ((bs.drop at_).take (nx - at_)))=(bs.drop nx).take 4):fg at_ bs=(p,nx+4,0):=by
 rw [fg,if_neg h0,h,if_neg (by simp),if_neg hp,if_neg hs,if_neg (by simpa using hc)]
theorem zKs {at_ nx:Nat} {p bs:List UInt8} (h:bg 2048 at_ bs=(p,nx,0)):p.length≤2048:=by
 rcases zDW (bs.drop at_) 0 0 with hg | hg | ⟨n,k,hg⟩
 ·rw [zDl hg (by omega)] at h;simp at h
 ·rw [zDl hg (by omega)] at h;simp at h
 ·by_cases hl:max (2048:Int) 0<(n:Int)
  ·rw [zEu hg hl] at h;simp at h
  ·by_cases hs:bs.length - (at_+k)<n
   ·rw [zEH hg hl hs] at h;simp at h
   ·rw [zGz hg hl hs] at h
    simp only [Prod.mk.injEq,and_true] at h
    rw [← h.1,List.length_take]
    omega
theorem zQU {at_ nx:Nat} {p bs:List UInt8} (h:fg at_ bs=(p,nx,0)):at_<nx∧nx≤bs.length∧pay p∧fr p=(bs.drop at_).take (nx - at_):=by
 by_cases h0:at_=bs.length
 ·rw [h0,zHG] at h
  simp at h
 rcases zHk (most:=2048) (at_:=at_) (bs:=bs) with hg | hg | hg | ⟨s,k,hg⟩
 ·rw [zFe h0 hg (by omega)] at h;simp at h
 ·rw [zFe h0 hg (by omega)] at h;simp at h
 ·rw [zFe h0 hg (by omega)] at h;simp at h
 ·by_cases hp:s=[]
  ·subst hp
   rw [zKw h0 hg] at h;simp at h
  ·by_cases hs:bs.length<k+4
   ·rw [zGb h0 hg hp hs] at h;simp at h
   ·by_cases hc:lb (crc ((bs.drop at_).take (k - at_)))=(bs.drop k).take 4
    ·rw [zLj h0 hg hp hs hc] at h
     simp only [Prod.mk.injEq,and_true] at h
     obtain ⟨rfl,rfl⟩:=h
     obtain ⟨h1,h2,h3⟩:=zJB hg
     refine ⟨by omega,by omega,⟨?_,?_⟩,?_⟩
     ·rcases Nat.eq_zero_or_pos s.length with h4 | h4
      ·exact absurd (List.eq_nil_of_length_eq_zero h4) hp
      ·exact h4
     ·exact zKs hg
     ·rw [fr,h3,hc,show k+4 - at_=(k - at_)+4 by omega,List.take_add,List.drop_drop,show at_+(k - at_)=k by omega]
    ·rw [zMm h0 hg hp hs hc] at h;simp at h
theorem zNe {p:List UInt8} (h:pay p):p≠[]:=fun e =>by rw [e] at h;exact absurd h.1 (by simp)
theorem zEE {p:List UInt8} (h:pay p):p.length<top∧(p.length:Int)≤max 2048 0:=by
 have:=h.2
 unfold top
 omega
theorem zSC (p:List UInt8):0<(fr p).length:=by rw [zHI];omega
theorem zQq (pre tail p:List UInt8) (h:pay p):fg pre.length (pre++(fr p++tail))=(p,(pre++fr p).length,0):=by
 have hb:=zHl 2048 pre p (lb (crc (blob p))++tail) (zEE h).1 (zEE h).2
 have e:pre++(fr p++tail)=pre++(blob p++(lb (crc (blob p))++tail)):=by simp [fr]
 have h1:pre.length≠(pre++(blob p++(lb (crc (blob p))++tail))).length:=by simp [zEM]
 have h2:¬ (pre++(blob p++(lb (crc (blob p))++tail))).length<pre.length+(blob p).length+4:=by simp [zEM];omega
 have h3:lb (crc (((pre++(blob p++(lb (crc (blob p))++tail))).drop pre.length).take (pre.length+(blob p).length - pre.length)))=((pre++(blob p++(lb (crc (blob p))++tail))).drop (pre.length+(blob p).length)).take 4:=by
  have e2:(pre++(blob p++(lb (crc (blob p))++tail))).drop (pre.length+(blob p).length)=lb (crc (blob p))++tail:=by
   rw [← List.drop_drop,List.drop_left,List.drop_left]
  rw [e2,List.drop_left,show pre.length+(blob p).length - pre.length=(blob p).length by omega,List.take_left]
  exact (List.take_left (l₁:=lb (crc (blob p))) (l₂:=tail)).symm
 rw [e,zLj h1 hb (zNe h) h2 h3,List.length_append,zHI,Nat.add_assoc]
theorem zRz (pre p:List UInt8) (j:Nat) (h:pay p) (hj:j<(fr p).length):(fg pre.length (pre++(fr p).take j)).2.2≠0:=by
 by_cases h0:j=0
 ·subst h0
  have:fg pre.length (pre++(fr p).take 0)=([],0,6):=by
   rw [List.take_zero,List.append_nil];exact zHG pre
  rw [this];simp
 have hne:pre.length≠(pre++(fr p).take j).length:=by
  rw [List.length_append,List.length_take];omega
 by_cases hb:j<(blob p).length
 ·have e:(fr p).take j=(blob p).take j:=by rw [fr,List.take_append_of_le_length (by omega)]
  rw [e] at hne ⊢
  rw [zFe hne (zRw 2048 pre p j (zEE h).1 (zEE h).2 hb) (by omega)]
  simp
 ·have e:(fr p).take j=blob p++(lb (crc (blob p))).take (j - (blob p).length):=by
   rw [fr,List.take_append,List.take_of_length_le (by omega)]
  rw [e] at hne ⊢
  have hg:=zHl 2048 pre p ((lb (crc (blob p))).take (j - (blob p).length)) (zEE h).1 (zEE h).2
  rw [zGb hne hg (zNe h) (by
   rw [zHI] at hj
   simp only [List.length_append,List.length_take,zEM]
   omega)]
  simp
def frun:Nat→Nat→List UInt8→List (List UInt8×Nat)
 | 0,_,_ =>[]
 | k+1,at_,bs =>if (fg at_ bs).2.2=0 then ((fg at_ bs).1,(fg at_ bs).2.1) :: frun k (fg at_ bs).2.1 bs else []
def told (n:Nat):List (List UInt8)→List (List UInt8×Nat)
 | [] =>[]
 | p :: l =>(p,n+(fr p).length) :: told (n+(fr p).length) l
theorem zQH (n:Nat) (ps:List (List UInt8)):(told n ps).length=ps.length:=by
 induction ps generalizing n with
 | nil =>rfl
 | cons p l ih =>simp [told,ih]
theorem zIR:∀ (ps:List (List UInt8)) (pre tail:List UInt8) (k:Nat),(∀ p ∈ ps,pay p)→frun (ps.length+k) pre.length (pre++(frs ps++tail))=told pre.length ps++frun k (pre++frs ps).length (pre++(frs ps++tail))
 | [],pre,tail,k,_ =>by simp [frs,told]
 | p :: l,pre,tail,k,h =>by
  have h1:=zQq pre (frs l++tail) p (h p (by simp))
  have e:pre++(frs (p :: l)++tail)=pre++(fr p++(frs l++tail)):=by simp [frs]
  have e2:pre++(fr p++(frs l++tail))=(pre++fr p)++(frs l++tail):=by simp
  have h2:=zIR l (pre++fr p) tail k (fun q hq =>h q (by simp [hq]))
  rw [e,show (p :: l).length+k=(l.length+k)+1 by simp;omega,frun,h1,if_pos rfl]
  simp only
  rw [e2,h2,told,List.length_append]
  simp [frs]
theorem zIT {k at_:Nat} {bs:List UInt8} (h:(fg at_ bs).2.2≠0):frun k at_ bs=[]:=by
 cases k with
 | zero =>rfl
 | succ k =>rw [frun,if_neg h]
theorem zIS:∀ (k j at_:Nat) (bs:List UInt8),at_≤bs.length→bs.length - at_<k→frun (k+j) at_ bs=frun k at_ bs
 | 0,_,_,_,_,h =>by omega
 | k+1,j,at_,bs,hat,h =>by
  rw [show k+1+j=(k+j)+1 by omega,frun,frun]
  by_cases h0:(fg at_ bs).2.2=0
  ·obtain ⟨p,nx,hg⟩:∃ p nx,fg at_ bs=(p,nx,0):=⟨_,_,by rw [← h0]⟩
   obtain ⟨h1,h2,_,_⟩:=zQU hg
   rw [if_pos h0,if_pos h0,hg]
   simp only
   rw [zIS k j nx bs h2 (by omega)]
  ·rw [if_neg h0,if_neg h0]
end Go.Proofs.YtekchkfjgofnkaaGreatDoor
