/- Texts of one proof. -/
import Derived.LoopIn
import Derived.LoopNIn
import Derived.OneCell
import Derived.RangeFuncBound
import Derived.RangeFuncBox
import Derived.RangeFuncCalls
import Derived.RangeFuncLeaves
import Derived.RangeFuncNested
import Derived.Shelf.RegionOpen
import Derived.TacticsInMore
import Derived.Test.YtekchkfjgofnkaaGreatDoorMy1
set_option maxRecDepth 100000
set_option maxHeartbeats 8000000
namespace Go.Proofs.YtekchkfjgofnkaaGreatDoor
open Go.RowKit Go.Shelf
attribute [local go_sem] Oper.semAt_some
theorem zRH (F:Fence) (n:Nat) (h13:F.fn 184) (hro:F.round=none) (k:Int) (w:World) :
  CallsIn F n Tryz.prog 184 #[.int .u64 k] w fun e w' =>e=.returned (.func (.func 188) #[] #[.pointer (some ⟨w.heap.size,0,none⟩)])∧w'=w.alloc (.cells #[.int .u64 k] 38):=by
 refine callsIn_of_wp Tryz.func184 rfl h13 ?_ hro
 simp only [Tryz.ntmps184,List.size_toArray,List.length_cons,List.length_nil,Nat.reduceAdd,Nat.reduceSub,Array.replicate_succ,Array.replicate_zero,List.push_toArray,List.append_toArray,List.nil_append,List.cons_append]
 gi_wp2
 go_ret
 exact ⟨rfl,rfl⟩
theorem zSw:∀ x:Fin 256,bits BinOp.or IntKind.u8 ((x:Nat):Int) 128=(((x:Nat) % 128+128:Nat):Int):=by decide +kernel
theorem zSP (m:Nat):bits BinOp.or IntKind.u8 ((m:Int) % 256) 128=(((UInt8.ofNat (m % 128+128)).toNat:Nat):Int):=by
 have h:=zSw ⟨m % 256,Nat.mod_lt _ (by omega)⟩
 rw [zRp]
 have e:((m:Int) % 256)=((m % 256:Nat):Int):=by omega
 rw [e,h]
 have:m % 256 % 128=m % 128:=by omega
 show ((m % 256 % 128+128:Nat):Int)=_
 rw [this]
theorem zSt (F:Fence) (n:Nat) (h15:F.fn 188) (hro:F.round=none) (hn:1≤n) (l Bn:Nat) (k:Nat) (Kp:World→World→Prop) (J Jx:List UInt8→World→Prop)
  (hY:∀ pre x W,J pre W→pre.length<(vb k).length→YieldAt F (n - 1) Tryz.prog l #[.int .u8 ((x:UInt8).toNat:Int)] W fun e W' =>
   (e=.returned (.bool true)∧J (pre++[x]) W'∧Kp W W')∨(e=.returned (.bool false)∧Jx (pre++[x]) W'))
  (W:World) (hBn:W.cell? ⟨Bn,0,none⟩=some (.int .u64 (k:Int))) (h0:J [] W) :
  CallsIn F n Tryz.prog 188 #[.func (.yield l) #[] #[],.pointer (some ⟨Bn,0,none⟩)] W fun e W' =>(∃ v,e=.returned v) ∧
   ((∃ ys,ys=vb k∧J ys W')∨(∃ pre,pre <+: vb k∧Jx pre W')):=by
 refine callsIn_of_wp Tryz.func188 rfl h15 ?_ hro
 simp only [Tryz.ntmps188,List.size_toArray,List.length_cons,List.length_nil,Nat.reduceAdd,Nat.reduceSub,Array.replicate_succ,Array.replicate_zero,List.push_toArray,List.append_toArray,List.nil_append,List.cons_append]
 obtain ⟨L,hL⟩:∃ L,L=vb k:=⟨_,rfl⟩
 rw [← hL] at hY ⊢
 have HL:=yh hL
 clear hL
 gi_wp2
 gi_loopw [3] (fun p wr =>∃ (pre:List UInt8) (m:Nat),p=.int .u64 (m:Int)∧Hid (L=pre++vb m)∧J pre wr)
  (fun p wr =>(intOf p).toNat)
 case atStart =>
  exact ⟨[],k,rfl,HL.out,h0⟩
 case round =>
  obtain ⟨pre,m,rfl,hx,hJs⟩:=hrel
  by_cases h:m<128
  ·have hlen:pre.length<L.length:=by rw [hx.out];have:=zHf m;simp;omega
   obtain ⟨fn,tmps,assign,body,hy,hR⟩:=hY pre (UInt8.ofNat m) wr hJs hlen
   rw [zER m (by omega)] at hy
   have hx':Hid (L=pre++[UInt8.ofNat m]):=by have:=hx.out;rwa [zFU h] at this
   gi_wp2
   refine hR.mono ?_
   rintro e W3 (⟨rfl,hJ3,hk3⟩ | ⟨rfl,hJx3⟩)
   ·gi_wp2
    go_end0
    exact ⟨⟨_,rfl⟩,.inl ⟨_,hx'.out.symm,hJ3⟩⟩
   ·gi_wp2
    go_end0
    exact ⟨⟨_,rfl⟩,.inr ⟨_,by rw [hx'.out];exact List.prefix_refl _,hJx3⟩⟩
  ·have hlen:pre.length<L.length:=by rw [hx.out];have:=zHf m;simp;omega
   obtain ⟨fn,tmps,assign,body,hy,hR⟩:=hY pre (UInt8.ofNat (m % 128+128)) wr hJs hlen
   rw [← zSP m] at hy
   have hx':Hid (L=(pre++[UInt8.ofNat (m % 128+128)])++vb (m / 128)):=by have:=hx.out;rw [zGR (by omega)] at this;rw [this];simp [Hid]
   clear hlen hx
   gi_wp2
   refine hR.mono ?_
   rintro e W3 (⟨rfl,hJ3,hk3⟩ | ⟨rfl,hJx3⟩)
   ·gi_wp2
    go_roundw
    case rel =>exact ⟨pre++[UInt8.ofNat (m % 128+128)],m / 128,by go_num,hx',hJ3⟩
    case measure =>simp [intOf];omega
   ·gi_wp2
    refine bodyPost_ret (results_none rfl _ _ _) rfl ?_
    exact ⟨⟨_,rfl⟩,.inr ⟨_,by rw [hx'.out];exact ⟨_,rfl⟩,hJx3⟩⟩
theorem zPH (F:Fence) (n:Nat) (h15:F.fn 188) (hro:F.round=none) (hn:1≤n) (Bn k:Nat) (w:World) (hBn:Bn<w.heap.size) (hc:w.cell? ⟨Bn,0,none⟩=some (.int .u64 (k:Int))) :
  SeqStopsK F n Tryz.prog 188 #[.pointer (some ⟨Bn,0,none⟩)] (fun x:UInt8 =>#[Value.int .u8 (x.toNat:Int)]) (fun _ _ =>True) (fun ys =>ys=vb k) (fun pre =>pre <+: vb k) (vb k).length w:=fun l J Jx W hW _ _ hY h0 =>
 zSt F n h15 hro hn l Bn k (fun _ _ =>True) J Jx hY W ((hW.cell (p:=⟨Bn,0,none⟩) hBn).trans hc) h0
theorem zPL (k:Int) (w:World) :
  Calls Tryz.prog 184 #[.int .u64 k] w fun e w' =>e=.returned (.func (.func 188) #[] #[.pointer (some ⟨w.heap.size,0,none⟩)])∧w'=w.alloc (.cells #[.int .u64 k] 38) :=
 (callsIn_wide (n:=1)).1 (zRH Fence.wide 1 trivial rfl k w)
attribute [local go_sem] Oper.semAt_some
theorem zHP:(Tryz.prog.info? 5).map (fun i =>(i.zero,i.size,i.bytes))=some (some (.int .u8 0),1,1):=by kernel_rfl
theorem zRN (A:Option Addr) (c k:Nat) (bs:List UInt8) (hk:k<top) (hbs:bs.length≤1073741824) (w:World) (hr:zAD w w.heap.size 1 A bs.length (bs.map bv)) :
    Calls Tryz.prog 178 #[.slice A bs.length c,.int .u64 (k:Int)] w fun e w' =>∃ v,e=.returned v∧w'.ownsRow w.heap.size 5 1 v (bs++vb k).length ((bs++vb k).map bv)∧Below w.heap.size w w':=by
  have hlen:=zBQ k hk
  clear hk
  obtain ⟨i0,hi,hz0,hz1,hz2⟩:=info_parts zHP
  obtain ⟨n,hn⟩:∃ n,n=bs.length:=⟨_,rfl⟩
  rw [← hn] at hr hbs ⊢
  have HN:=yh hn
  clear hn
  obtain ⟨xs,hx⟩:∃ xs,xs=bs.map bv:=⟨_,rfl⟩
  rw [← hx] at hr
  have HX:=yh hx
  clear hx
  refine (callsIn_wide (n:=4)).1 ?_
  refine callsIn_of_wp_marks Tryz.func178 rfl trivial ?_ rfl
  refine wpIn_wide.2 ?_
  simp only [Tryz.ntmps178,List.size_toArray,List.length_cons,List.length_nil,Nat.reduceAdd,Nat.reduceSub,Array.replicate_succ,Array.replicate_zero,List.push_toArray,List.append_toArray,List.nil_append,List.cons_append]
  have hxl:xs.length=n:=by have:=hr.1;omega
  have hx1:∀ u ∈ xs,u.oneCell'=true:=by rw [HX.out];exact zCW bs
  have HX1:=yh hx1
  have HXL:=yh hxl
  clear hx1 hxl
  go_wp2_with (first
    | (at_make;refine zDc _ rfl (.tmp 8) (.tmp 11) 59 rfl 5 i0 (.int .u8 0) Tryz.underlying59 hi hz0 hz1 .i64 .i64 _ _ n (n+10) rfl rfl rfl (by omega) (by omega) (by rw [hz2];omega) (by unfold maxLen;omega) ?_;intro Z HZ HZ2;clear HZ2)
    | (with_reducible refine zIE rfl (.tmp 13) (.tmp 14) 59 59 rfl 5 Tryz.underlying59 (by rw [hi];simp [hz1]) A n (n+10) n c w.heap.size 0 rfl rfl Z 5 ((Below.heap_alloc _ _ _ (by simp)).trans (World.alloc_heap_new w _)) xs w.heap.size ((hr.alloc (Nat.le_refl _) _).alloc (by simp) _) (Nat.le_refl _) (by rw [HZ.out];omega) HX1.out ?_
       intro W1 HG1 hgrow1
       have bO:=(Boxed.new (w.alloc (.cells Z.toArray 5)) 59 (.slice (some ⟨w.heap.size,0,none⟩) n (n+10))).kept hgrow1 (by simp)
       rw [World.size_alloc] at bO
       have hB1:Below w.heap.size w W1:=(((Below.refl _ w).alloc (Nat.le_refl _) _).alloc (by simp) _).grown hgrow1 (by simp;omega) (fun k e =>by cases e;exact Nat.le_refl _)
       have hs1:w.heap.size+2≤W1.heap.size:=by have:=hgrow1.size;simpa using this
       clear hgrow1
       have hc1:=bO.cell
       have hf1:=bO.frozen)
    | (go_at_call 184;refine (zPL _ _).mono ?_;rintro e w' ⟨rfl,rfl⟩))
  have bN:=Boxed.new W1 38 (.int .u64 (k:Int))
  have hB2:Below w.heap.size w (W1.alloc (.cells #[.int .u64 (k:Int)] 38)):=hB1.alloc (by omega) _
  have hrow1:W1.ownsRow w.heap.size 5 1 (.slice (some ⟨w.heap.size,0,none⟩) n (n+10)) n xs :=
    zBO (Nat.le_refl _) HG1.out (by omega) (by unfold maxLen;omega) (by rw [length_splice _ _ _ (by rw [HXL.out,HZ.out];omega)];exact HZ.out) (by simp [splice,HXL.out])
  clear hc1 hf1
  refine (wpIn_wide (n:=4)).1 ?_
  refine wpIn_rangeFunc_ownG rfl (by omega) (gf:=188) (lb:=#[.pointer (some ⟨W1.heap.size,0,none⟩)]) rfl trivial (enters_of Tryz.func188 (by kernel_rfl) rfl)
    (zPH Fence.wide 3 trivial rfl (by omega) W1.heap.size k _ (by simp) bN.cell) (fun _ _ =>trivial) (fun _ _ _ _ _ _ _ _ =>trivial) (Below.refl _ _) (fun _ =>rfl)
    (fun pre W =>(∃ v,Boxed W (w.heap.size+1) 59 v∧W.ownsRow w.heap.size 5 1 v (n+pre.length) (xs++pre.map bv)∧True)∧Below w.heap.size w W)
    (fun _ _ _ =>False)
    (OwnFrom.and (Own.from (holdsRow_own w.heap.size (w.heap.size+1) 59 5 1 (fun pre:List UInt8 =>n+pre.length) (fun pre =>xs++pre.map bv) (fun _ _ =>True)) _) (ownFrom_below (Nat.le_refl _) (by simp;omega)))
    (fun _ _ _ _ _ hs _ _ =>hs)
    ⟨⟨_,bO.alloc _,by simpa using hrow1.alloc _,trivial⟩,hB2⟩
    (fun x =>{ tmps:=#[.slice A n c,.int .u64 (k:Int),undef,undef,.slice none 0 0,.pointer (some ⟨w.heap.size+1,0,none⟩),.int .u8 (x.toNat:Int),.slice A n c,.int .i64 (n:Int),.slice A n c,.int .i64 (n:Int),.int .i64 ((n:Int)+10),.slice (some ⟨w.heap.size,0,none⟩) n (n+10),.slice (some ⟨w.heap.size,0,none⟩) n (n+10),.slice A n c,.int .i64 (n:Int),.int .u64 (k:Int),.func (.func 188) #[] #[.pointer (some ⟨W1.heap.size,0,none⟩)],.int .u8 (x.toNat:Int),undef,undef,undef,undef,undef],defers:=[] }) ?assign ?body ?done ?stop
  case assign =>
    intro l x W K hK
    gi_wp2
    simpa using hK
  case body =>
    rintro l pre x W ⟨⟨v,hv,hrow,_⟩,hB⟩ hlt
    have hc:=hv.cell
    gi_wp2_with (gi_at_builtin;refine wpListIn_append_own _ rfl _ _ 59 rfl w.heap.size 5 i0 (.int .u8 0) 1 1 Tryz.underlying59 hi hz0 hz1 hz2 rfl (by decide) _ _ _ rfl (hrow.alloc _) ⟨W.heap.size,0,none⟩ 1 1 [.int .u8 (x.toNat:Int)] rfl rfl (cell_one_new _ _ _) (by simp [Value.oneCell']) (by unfold maxLen;omega) (by omega) (by have:=hB.size;simp;omega) ?_;intro v' w1 hown' hgrow _;obtain ⟨g',cap',rfl⟩:=ownsRow_succ hown';obtain ⟨hv1,hv2,hr2,hk2,hb2⟩:=hv.appended (by decide) hrow hB.size (by omega) hown' hgrow;have hc1:=hv1.cell;have hf1:=hv1.frozen)
    refine ⟨hk2.from _,trivial,⟨_,hv2,?_,trivial⟩,hB.trans hb2⟩
    have e1:n+(pre++[x]).length=n+pre.length+1:=by simp;omega
    have e2:xs++(pre++[x]).map bv=xs++pre.map bv++[.int .u8 (x.toNat:Int)]:=by simp [bv]
    rw [e1,e2]
    exact hr2
  case done =>
    rintro D ys W hD rfl ⟨⟨v,hv,hrow,_⟩,hB⟩ hK
    have hc:=hv.cell
    go_wp2
    refine ⟨by simp,.inl ⟨_,_,rfl,run_takeDeferred hK,?_⟩⟩
    refine ⟨_,results_tmp rfl _ _ _,v,rfl,?_,hB.trans (belowK_b (w:=w) (Nat.le_refl _) W D _ _ (by simp at hD;omega) hK rfl rfl)⟩
    have:=ownsRow_putObj hrow (.deferred none) hK rfl
    rw [HX.out,HN.out] at this
    simpa using this
  case stop =>
    rintro D c pre W _ _ h _
    exact h.elim
theorem zLF (k:Nat) (hk:k<top) (w:World) :
  Calls Tryz.prog 178 #[.slice none 0 0,.int .u64 (k:Int)] w fun e w' =>∃ v,e=.returned v∧w'.ownsRow w.heap.size 5 1 v (vb k).length ((vb k).map bv)∧Below w.heap.size w w' :=
 zRN none 0 k [] hk (by simp) w zAD.none_
attribute [local go_sem] Oper.semAt_some
def LRel (w:World) (bs:List UInt8) (ts:List (List UInt8)) (v idx:Value) (wr:World):Prop :=
 ∃ i,i≤ts.length∧idx=.int .i64 (i:Int)∧wr.ownsRow w.heap.size 5 1 v (bs++zBG (ts.take i)).length ((bs++zBG (ts.take i)).map bv)∧Below w.heap.size w wr
theorem zPP (A L:Option Addr) (n c m d B:Nat) (bs:List UInt8) (ts:List (List UInt8)) (hbig:n+(zBG ts).length≤1073741824) (hm:m≤1073741824) (w:World) (hB:B≤w.heap.size) (hr:zAD w B 1 A n (bs.map bv)) (hl:zAD w B 1 L m (ts.map sv)) :
  Calls Tryz.prog 162 #[.slice A n c,.slice L m d] w fun e w' =>∃ v,e=.returned v∧w'.ownsRow w.heap.size 5 1 v (bs++zBG ts).length ((bs++zBG ts).map bv)∧Below w.heap.size w w':=by
 obtain ⟨i0,hi0,hz0,hz1,hz2⟩:=info_parts zHP
 have hnl:bs.length=n:=by have:=hr.1;simpa using this
 have hml:ts.length=m:=by have:=hl.1;simpa using this
 have HCL:=yh (zIG A n c B bs (by omega) w hB hr)
 have HNL:=yh hnl
 have HML:=yh hml
 have HBIG:=yh hbig
 clear hnl hml hbig hr
 go_enter Tryz.func162,Tryz.ntmps162
 go_wp2_with (go_at_call 164;refine HCL.out.mono ?_;rintro e w1 ⟨v1,rfl,ho1,hb1⟩)
 go_loopw [5,12] (fun v idx wr =>LRel w bs ts v idx wr) (fun v idx wr =>m - (intOf idx).toNat)
 case atStart =>exact ⟨0,by omega,rfl,by simpa [zBG,HNL.out] using ho1,hb1⟩
 case round =>
  obtain ⟨i,hi,rfl,ho,hb⟩:=hrel
  rw [HML.out] at hi
  obtain ⟨q,hq⟩:∃ q,q=bs++zBG (ts.take i):=⟨_,rfl⟩
  rw [← hq] at ho
  have HQ:=yh hq
  clear hq
  by_cases hlt:i<m
  ·obtain ⟨ad,u,rfl,hadb,hx,hcell0⟩:=hl.at_ hlt
   obtain ⟨x,rfl,hxi⟩:=zRk hx
   have hcell:=(hb.cell (p:=ad.add i) (by rw [zAQ];omega)).trans hcell0
   have hfit:q.length+(blob x).length≤1073741824:=by
    have h1:=zJF hxi
    have h2:=HBIG.out
    have h3:=HNL.out
    rw [HQ.out,List.length_append];omega
   have HXI:=yh hxi
   rw [zDV] at hfit
   obtain ⟨k,hk⟩:∃ k,k=x.length:=⟨_,rfl⟩
   have hsz:(tx x).size=k:=by rw [zDb,hk]
   have hst:=zGX x
   rw [← hk] at hfit
   have hput:Hid (∀ W:World,Calls Tryz.prog 178 #[.slice none 0 0,.int .u64 (k:Int)] W fun e w' =>∃ a2 c2,e=.returned (.slice (some a2) (vb k).length c2)∧((vb k).map bv).length=(vb k).length * 1∧(∀ j u,((vb k).map bv)[j]? = some u→w'.cell? (a2.add j)=some u)∧Below W.heap.size W w'):=by
    intro W
    refine (zLF k (by unfold top;omega) W).mono ?_
    rintro e w' ⟨v,rfl,ho,hb⟩
    obtain ⟨A2,c2,rfl,_,hr2⟩:=zBF ho
    obtain ⟨a2,rfl,_,hc2⟩:=hr2.2 (zHf k)
    exact ⟨a2,c2,rfl,hr2.1,hc2,hb⟩
   obtain ⟨s,hs⟩:∃ s,s=tx x:=⟨_,rfl⟩
   rw [← hs] at hcell hsz hst
   have hw1:IntKind.u64.wrap (k:Int)=(k:Int):=by rw [IntKind.wrap_u64];omega
   obtain ⟨lk,hlk⟩:∃ lk,lk=(vb k).length:=⟨_,rfl⟩
   rw [← hlk] at hput hfit
   have HK:=yh hk
   have HLK:=yh hlk
   have HST:=yh hst
   clear hcell0 hx hxi hadb hs hk hlk hst
   go_wp2_with (first
    | (go_at_call 178;refine (hput.out _).mono ?_;rintro e w2 ⟨a2,c2,rfl,hl2,hc2,hb2⟩)
    | (at_builtin;refine wpList_append_own _ rfl _ _ 59 rfl w.heap.size 5 i0 (.int .u8 0) 1 1 Tryz.underlying59 hi0 hz0 hz1 hz2 rfl (by decide) _ _ _ rfl (zAK ho hb2) a2 lk c2 _ rfl hl2 hc2 (zCW _) (by unfold maxLen;omega) (by omega) (by have:=hb.size;have:=hb2.size;omega) ?_;intro v3 w3 ho3 hgrow3 _)
    | (at_builtin;refine Lib.wpList_append_own_string _ rfl _ _ 59 9 rfl w.heap.size 5 i0 Tryz.underlying59 Tryz.underlying9 hi0 hz0 hz1 hz2 v3 _ _ rfl ho3 s rfl (by rw [hsz];unfold maxLen;omega) (by rw [hsz];omega) (by have:=hb.size;have:=hb2.size;have:=hgrow3.size;omega) ?_;intro v4 w4 ho4 hgrow4 _))
   have e1:bs++zBG (ts.take (i+1))=q++blob x:=by rw [zLX HXI.out,← List.append_assoc,← HQ.out]
   have hbl:blob x=vb k++x:=by rw [blob,← HK.out]
   have hb3:Below w.heap.size w w2:=hb.trans (hb2.mono hb.size)
   have hb4:=(hb3.grown hgrow3 hb3.size (zAG ho)).grown hgrow4 (by have:=hb3.size;have:=hgrow3.size;omega) (zAG ho3)
   refine ⟨⟨i+1,by rw [HML.out];omega,by go_num,?_,hb4⟩,by simp [intOf];omega⟩
   rw [e1,hbl]
   have e2:(q++(vb k++x)).length=q.length+lk+k:=by simp [HLK.out,HK.out,Nat.add_assoc]
   have e3:(q++(vb k++x)).map bv=q.map bv++(vb k).map bv++x.map bv:=by simp
   rw [e2,e3,← HST.out]
   rw [hsz] at ho4
   exact ho4
  ·obtain rfl:i=m:=by omega
   have hall:ts.take i=ts:=List.take_of_length_le (by rw [HML.out];omega)
   rw [HQ.out,hall] at ho
   go_wp2
   go_ret
   exact ⟨_,rfl,ho,hb⟩
theorem zOb (A:Option Addr) (n c B:Nat) (bs t:List UInt8) (hbig:n+(blob t).length≤1073741824) (w:World) (hB:B≤w.heap.size) (hr:zAD w B 1 A n (bs.map bv)) :
  Calls Tryz.prog 135 #[.slice A n c,.string (tx t)] w fun e w' =>∃ v,e=.returned v∧w'.ownsRow w.heap.size 5 1 v (bs++blob t).length ((bs++blob t).map bv)∧Below w.heap.size w w':=by
 have hlist:∀ W,W=w.alloc (.cells #[.string (tx t)] 9)→Calls Tryz.prog 162 #[.slice A n c,.slice (some ⟨w.heap.size,0,none⟩) 1 1] W fun e w' =>∃ v,e=.returned v∧w'.ownsRow W.heap.size 5 1 v (bs++blob t).length ((bs++blob t).map bv)∧Below W.heap.size W w':=by
  rintro W rfl
  have:=zPP A (some ⟨w.heap.size,0,none⟩) n c 1 1 (w.heap.size+1) bs [t] (by simpa [zBG] using hbig) (by omega) (w.alloc (.cells #[sv t] 9)) (by simp) ((hr.alloc hB _).more (by omega)) (zMC w 9 t)
  simp only [zBG,List.append_nil] at this
  exact this
 have HLIST:=yh hlist
 clear hlist
 obtain ⟨z,hz⟩:∃ z,z=bs++blob t:=⟨_,rfl⟩
 rw [← hz] at HLIST ⊢
 clear hz hbig hr
 obtain ⟨s,hs⟩:∃ s,s=tx t:=⟨_,rfl⟩
 rw [← hs] at HLIST ⊢
 clear hs
 go_enter Tryz.func135,Tryz.ntmps135
 go_wp2_with (go_at_call 162;refine (HLIST.out _ rfl).mono ?_;rintro e w1 ⟨v1,rfl,ho1,hb1⟩)
 go_ret
 refine ⟨_,rfl,?_,((Below.refl _ w).alloc (Nat.le_refl _) _).trans (hb1.mono (by simp))⟩
 obtain ⟨h1,h2 | ⟨g,cap,cur,hv,hbg,r⟩⟩:=ho1
 ·exact ⟨h1,.inl h2⟩
 ·exact ⟨h1,.inr ⟨g,cap,cur,hv,by simp at hbg;omega,r⟩⟩
theorem zJG (t:List UInt8) (hbig:(blob t).length≤1073741824) (w:World) :
  Calls Tryz.prog 135 #[.slice none 0 0,.string (tx t)] w fun e w' =>∃ v,e=.returned v∧w'.ownsRow w.heap.size 5 1 v (blob t).length ((blob t).map bv)∧Below w.heap.size w w' :=
 zOb none 0 0 w.heap.size [] t (by omega) w (Nat.le_refl _) zAD.none_
open Go.RowKit
def tsv (t:List UInt8):Value:=.string (tx t)
theorem zAT {w:World} {base base' n size:Nat} {e:TypeId} {v:Value} {xs:List Value} (h:w.ownsRow base e size v n xs) (hb:base'≤base):w.ownsRow base' e size v n xs:=by
 rcases h.2 with h2 | ⟨g,cap,cur,h3,h4,h5⟩
 ·exact ⟨h.1,.inl h2⟩
 ·exact ⟨h.1,.inr ⟨g,cap,cur,h3,by omega,h5⟩⟩
theorem zAL {w:World} {base n size:Nat} {e:TypeId} {v:Value} {xs:List Value} (h:w.ownsRow base e size v n xs):∃ A c,v=.slice A n c∧(A=none→c=0):=by
 obtain ⟨h1,⟨rfl,rfl⟩ | ⟨g,cap,cur,rfl,hb,hg,hn,hm,hs,hx⟩⟩:=h
 ·exact ⟨none,0,rfl,fun _ =>rfl⟩
 ·exact ⟨_,_,rfl,fun h =>by cases h⟩
theorem zAa {w:World} {base n size:Nat} {e t:TypeId} {v:Value} {xs:List Value} {b:Nat} {cs:Array Value} {f:Nat×Nat} (h:w.ownsRow base e size v n xs) (hb:w.heap[b]? = some (.cells cs t f)) (hne:e≠t):v.ownBlock≠some b:=by
 rcases h.2 with ⟨rfl,_⟩ | ⟨g,cap,cur,rfl,_,hg,_⟩
 ·simp [Value.ownBlock]
 ·intro e2
  simp only [Value.ownBlock,Option.some.injEq] at e2
  subst e2
  rw [hb] at hg
  injection hg with hg
  injection hg with _ hg
  exact hne hg.symm
theorem zAR {w w':World} {base n size:Nat} {e:TypeId} {v:Value} {xs:List Value} (h:w.ownsRow base e size v n xs) (hk:∀ g,v.ownBlock=some g→w'.heap[g]? = w.heap[g]?):w'.ownsRow base e size v n xs:=by
 refine ⟨h.1,?_⟩
 rcases h.2 with h2 | ⟨g,cap,cur,rfl,hb,hg,r⟩
 ·exact .inl h2
 ·exact .inr ⟨g,cap,cur,rfl,hb,(hk g rfl).trans hg,r⟩
theorem zHz {w:World} {base n size:Nat} {e:TypeId} {v:Value} {xs:List Value} {S:Nat→Prop} (h:w.ownsRow base e size v n xs) (hs:∀ k,S k→k<base):∀ g,v.ownBlock=some g→¬ S g:=fun g hg h2 =>by
 have h3:=zAG h g hg
 have h4:=hs g h2
 omega
theorem zJi {w:World} {base n size:Nat} {e:TypeId} {v:Value} {xs:List Value} (h:w.ownsRow 0 e size v n xs) (hb:∀ k,v.ownBlock=some k→base≤k):w.ownsRow base e size v n xs:=by
 obtain ⟨h1,h2 | ⟨g,cap,cur,rfl,h3,h4⟩⟩:=h
 ·exact ⟨h1,.inl h2⟩
 ·exact ⟨h1,.inr ⟨g,cap,cur,rfl,hb g rfl,h4⟩⟩
theorem zBE {w:World} {b b' s s' n n':Nat} {e e':TypeId} {v v':Value} {xs xs':List Value} (h:w.ownsRow b e s v n xs) (h':w.ownsRow b' e' s' v' n' xs') (he:e≠e'):zDd v v':=by
 intro g h1 h2
 obtain ⟨_,⟨rfl,_⟩ | ⟨g1,c1,cur1,rfl,_,hg1,_⟩⟩:=h
 ·simp [Value.ownBlock] at h1
 ·obtain ⟨_,⟨rfl,_⟩ | ⟨g2,c2,cur2,rfl,_,hg2,_⟩⟩:=h'
  ·simp [Value.ownBlock] at h2
  ·simp [Value.ownBlock] at h1 h2
   subst h1 h2
   rw [hg1] at hg2
   simp at hg2
   exact he hg2.2
theorem zAE (w:World) (a:Obj):(w.alloc a).heap[w.heap.size]? = some a:=by show (w.heap.push _)[w.heap.size]? = _;exact Array.getElem?_push_size
theorem zGQ (w:World) (a b:Obj):((w.alloc a).alloc b).heap[w.heap.size]? = some a∧((w.alloc a).alloc b).heap[w.heap.size+1]? = some b∧((w.alloc a).alloc b).heap.size=w.heap.size+2:=by
 have h0:(w.alloc a).heap.size=w.heap.size+1:=Array.size_push _
 refine ⟨(Below.heap_alloc _ _ _ (by rw [h0];omega)).trans (by show (w.heap.push _)[w.heap.size]? = _;exact Array.getElem?_push_size),?_,by rw [show ((w.alloc a).alloc b).heap.size=(w.alloc a).heap.size+1 from Array.size_push _,h0]⟩
 have h:=@Array.getElem?_push_size _ (w.alloc a).heap b
 rwa [h0] at h
theorem at_heap {w w':World} (h:w'.heap=w.heap) (p:Addr):w'.cell? p=w.cell? p:=by unfold World.cell?;rw [h]
theorem zAA {w:World} {b i:Nat} {cs:Array Value} {t:TypeId} {u:Value} (h:w.heap[b]? = some (.cells cs t (0,0))) (hi:cs[i]? = some u):w.cell? ⟨b,i,none⟩=some u:=by
 simp [World.cell?,h,hi]
theorem zAC {w:World} {b i:Nat} {cs:Array Value} {t:TypeId} (h:w.heap[b]? = some (.cells cs t (0,0))):w.frozen? ⟨b,i,none⟩=false:=by
 simp [World.frozen?,h]
theorem zAF {w:World} {b:Nat} {cs:Array Value} {t:TypeId} {f:Nat×Nat} (h:w.heap[b]? = some (.cells cs t f)) (i:Nat) (u:Value):(w.setCell ⟨b,i,none⟩ u).heap[b]? = some (.cells (cs.setIfInBounds i u) t f):=by
 simp [World.setCell,Array.getElem?_modify,h]
theorem zAr {w:World} {b i:Nat} {cs:Array Value} {t:TypeId} {u:Value} (h:w.heap[b]? = some (.cells cs t (0,0))) (hi:cs[i]? = some u):w.cell? ⟨b,i,none⟩=some u:=by
 simp [World.cell?,h,hi]
theorem zBN {w:World} {b i:Nat} {cs:Array Value} {t:TypeId} (h:w.heap[b]? = some (.cells cs t (0,0))):w.frozen? ⟨b,i,none⟩=false:=by
 simp [World.frozen?,h]
theorem zCv {w:World} {g j:Nat} {u:Value} {cs:Array Value} {e:TypeId} {f:Nat×Nat} (h:w.heap[g]? = some (.cells cs e f)):(w.setCell ⟨g,j,none⟩ u).heap[g]? = some (.cells (cs.setIfInBounds j u) e f):=by
 obtain ⟨hlt,hk⟩:=Array.getElem?_eq_some_iff.1 h
 show (w.heap.modify g _)[g]? = _
 rw [Array.getElem?_eq_getElem (by rw [Array.size_modify];exact hlt),Array.getElem_modify_self,hk]
 rfl
theorem zFY (W:World) (e:TypeId) (v:Value):zAD (W.alloc (.cells #[v] e)) (W.heap.size+1) 1 (some ⟨W.heap.size,0,none⟩) 1 [v] :=
 ⟨rfl,fun _ =>⟨_,rfl,by show W.heap.size<_;omega,fun j u hu =>by
  have hj:j=0:=by
   rcases Nat.lt_or_ge j 1 with h | h
   ·omega
   ·rw [List.getElem?_eq_none (by simpa using h)] at hu;cases hu
  subst hj
  exact zAA (i:=0) (zAE W _) (by simpa using hu)⟩⟩
theorem zAk {P:Program} {w:World} {o:Oper} {a:Act} {K:Act→World→Prop} {Q:Exit→Act→World→Prop} (s x:Operand) (t:TypeId)
  (ho:o.op=.call { callee:=.builtin .append,args:=#[s,x],argTypes:=#[t,t] })
  (base:Nat) (e:TypeId) (i:TypeInfo) (z:Value) (size bytes:Nat) (ht:P.underlying t=some (.slice e)) (hi:P.info? e=some i) (hz:i.zero=some z)
  (hsize:i.size=size) (hby:i.bytes=bytes) (hzs:z.cells.size=size) (hsz:0<size)
  (v:Value) (n:Nat) (xs:List Value) (hs:a.eval s=v) (hown:w.ownsRow base e size v n xs)
  (A:Option Addr) (m c B:Nat) (news:List Value) (hx:a.eval x=.slice A m c) (hA:A=none→c=0) (hr:zAD w B size A m news) (h1:∀ u ∈ news,u.oneCell'=true)
  (h63:n+m≤maxLen) (hbytes:(n+m) * bytes≤140737488355328) (hbase:base≤w.heap.size)
  (h:∀ v' w',w'.ownsRow base e size v' (n+m) (xs++news)→w.grownBy w' v.ownBlock→(v'.ownBlock=v.ownBlock∨v'.ownBlock=some w.heap.size)→K (a.put o.dst v') w'):o.wp P a w K Q:=by
 cases A with
 | none =>
  have hm:m=0:=by
   rcases Nat.eq_zero_or_pos m with h0 | h0
   ·exact h0
   ·obtain ⟨ad,e,_⟩:=hr.2 h0
    cases e
  subst hm
  have hc:=hA rfl
  subst hc
  have hnews:news=[]:=List.eq_nil_of_length_eq_zero (by have:=hr.1;simpa using this)
  subst hnews
  have hrun:=run_append_owned_none (P:=P) (w:=w) base t o.type e i size ht hi v n xs hown
  unfold Oper.wp
  simp [execOp,ho,resolve,invoke,builtin,hs,hx,hrun,Result.andThen]
  exact h v w (by simpa using hown) (World.grownBy.refl w _) (.inl rfl)
 | some ad =>
  obtain ⟨v',w',hr',h2,h3,_,h5⟩:=run_append_own_at (P:=P) w base t o.type e i z size bytes ht hi hz hsize hby hzs hsz v n xs hown ad m c news hr.1 (by
   intro j u hu
   by_cases h0:0<m
   ·obtain ⟨ad',e,_,hc⟩:=hr.2 h0
    cases e
    exact hc j u hu
   ·have hl:=hr.1
    have:=(List.getElem?_eq_some_iff.1 hu).1
    have h00:m=0:=by omega
    subst h00
    omega) h1 h63 hbytes hbase
  unfold Oper.wp execOp
  simp only [ho,resolve,invoke,builtin,Sem.run_bind,Sem.run_pure,Result.andThen_ok,List.map_toArray,List.map_cons,List.map_nil,hs,hx,hr']
  exact h v' w' h2 h3 h5
theorem zAw {P:Program} (w:World) {ops:Array Oper} {rest:List Oper} {o:Oper} {a:Act} {Q:Exit→Act→World→Prop} (hgd:o.guard=none) (s x:Operand) (t:TypeId)
  (ho:o.op=.call { callee:=.builtin .append,args:=#[s,x],argTypes:=#[t,t] })
  (base:Nat) (e:TypeId) (i:TypeInfo) (z:Value) (size bytes:Nat) (ht:P.underlying t=some (.slice e)) (hi:P.info? e=some i) (hz:i.zero=some z)
  (hsize:i.size=size) (hby:i.bytes=bytes) (hzs:z.cells.size=size) (hsz:0<size)
  (v:Value) (n:Nat) (xs:List Value) (hs:a.eval s=v) (hown:w.ownsRow base e size v n xs)
  (A:Option Addr) (m c B:Nat) (news:List Value) (hx:a.eval x=.slice A m c) (hA:A=none→c=0) (hr:zAD w B size A m news) (h1:∀ u ∈ news,u.oneCell'=true)
  (h63:n+m≤maxLen) (hbytes:(n+m) * bytes≤140737488355328) (hbase:base≤w.heap.size)
  (h:∀ v' w',w'.ownsRow base e size v' (n+m) (xs++news)→w.grownBy w' v.ownBlock→wpList P ops Q rest (a.put o.dst v') w'):wpList P ops Q (o :: rest) a w:=by
 cases A with
 | none =>
  have hm:m=0:=by
   rcases Nat.eq_zero_or_pos m with h0 | h0
   ·exact h0
   ·obtain ⟨ad,e,_⟩:=hr.2 h0
    cases e
  subst hm
  have hc:=hA rfl
  subst hc
  have hnews:news=[]:=List.eq_nil_of_length_eq_zero (by have:=hr.1;simpa using this)
  subst hnews
  exact wpList_append_own_none hgd s x t ho base e i size ht hi v n xs hs hown hx (h v w (by simpa using hown) (World.grownBy.refl w _))
 | some ad =>
  refine wpList_append_own w hgd s x t ho base e i z size bytes ht hi hz hsize hby hzs hsz v n xs hs hown ad m c news hx hr.1 ?_ h1 h63 hbytes hbase (fun v' w' a b _ =>h v' w' a b)
  intro j u hu
  by_cases h0:0<m
  ·obtain ⟨ad',e,_,hc⟩:=hr.2 h0
   cases e
   exact hc j u hu
  ·have hl:=hr.1
   have:=(List.getElem?_eq_some_iff.1 hu).1
   have h00:m=0:=by omega
   subst h00
   omega
theorem zCe {P:Program} (w:World) {ops:Array Oper} {rest:List Oper} {o:Oper} {a:Act} {Q:Exit→Act→World→Prop} (hgd:o.guard=none) (s x:Operand) (t:TypeId)
  (ho:o.op=.call { callee:=.builtin .append,args:=#[s,x],argTypes:=#[t,t] })
  (base:Nat) (e:TypeId) (i:TypeInfo) (z:Value) (size bytes:Nat) (ht:P.underlying t=some (.slice e)) (hi:P.info? e=some i) (hz:i.zero=some z)
  (hsize:i.size=size) (hby:i.bytes=bytes) (hzs:z.cells.size=size) (hsz:0<size)
  (v:Value) (n:Nat) (xs:List Value) (hs:a.eval s=v) (hown:w.ownsRow base e size v n xs)
  (A:Option Addr) (m c B:Nat) (news:List Value) (hx:a.eval x=.slice A m c) (hA:A=none→c=0) (hr:zAD w B size A m news) (h1:∀ u ∈ news,u.oneCell'=true)
  (h63:n+m≤maxLen) (hbytes:(n+m) * bytes≤140737488355328) (hbase:base≤w.heap.size)
  (h:∀ v' w',w'.ownsRow base e size v' (n+m) (xs++news)→w.grownBy w' v.ownBlock→(v'.ownBlock=v.ownBlock∨v'.ownBlock=some w.heap.size)→wpList P ops Q rest (a.put o.dst v') w'):wpList P ops Q (o :: rest) a w:=by
 refine wpList_plain hgd fun K hK =>?_
 exact zAk s x t ho base e i z size bytes ht hi hz hsize hby hzs hsz v n xs hs hown A m c B news hx hA hr h1 h63 hbytes hbase (fun v' w' a b c =>hK _ _ (h v' w' a b c))
def Turn (S:Nat→Prop) (w w':World):Prop:=w'.os=w.os∧w'.tape=w.tape∧w'.output=w.output∧w.heap.size≤w'.heap.size∧∀ k,k<w.heap.size→¬ S k→w'.heap[k]? = w.heap[k]?
theorem Turn.refl (S:Nat→Prop) (w:World):Turn S w w:=⟨rfl,rfl,rfl,Nat.le_refl _,fun _ _ _ =>rfl⟩
theorem Turn.trans {S S2:Nat→Prop} {a b c:World} (h:Turn S a b) (k:Turn S2 b c) (hs:∀ i,i<a.heap.size→S2 i→S i):Turn S a c :=
 ⟨k.1.trans h.1,k.2.1.trans h.2.1,k.2.2.1.trans h.2.2.1,Nat.le_trans h.2.2.2.1 k.2.2.2.1,fun i hi hn =>(k.2.2.2.2 i (Nat.lt_of_lt_of_le hi h.2.2.2.1) (fun h2 =>hn (hs i hi h2))).trans (h.2.2.2.2 i hi hn)⟩
theorem Turn.grown {S:Nat→Prop} {a b c:World} {row:Option Nat} (h:Turn S a b) (hg:b.grownBy c row) (hs:∀ i,row=some i→i<a.heap.size→S i):Turn S a c :=
 ⟨hg.os.trans h.1,hg.tape.trans h.2.1,hg.output.trans h.2.2.1,Nat.le_trans h.2.2.2.1 hg.size,fun i hi hn =>(hg.block i (Nat.lt_of_lt_of_le hi h.2.2.2.1) (fun e =>hn (hs i e.symm hi))).trans (h.2.2.2.2 i hi hn)⟩
theorem Turn.setCell {S:Nat→Prop} {a b:World} (h:Turn S a b) (g i:Nat) (u:Value) (hs:S g):Turn S a (b.setCell ⟨g,i,none⟩ u) :=
 ⟨h.1,h.2.1,h.2.2.1,by simpa using h.2.2.2.1,fun k hk hn =>(Below.heap_setCell _ _ _ k (fun e =>hn (by rw [show k=g from e];exact hs))).trans (h.2.2.2.2 k hk hn)⟩
theorem Turn.of_below {S:Nat→Prop} {a b:World} (h:Below a.heap.size a b):Turn S a b:=⟨h.os,h.tape,h.output,h.size,fun k hk _ =>h.block k hk⟩
theorem Turn.below {S:Nat→Prop} {a b:World} {n0:Nat} (h:Turn S a b) (hs:∀ i,S i→n0≤i) (hn:n0≤a.heap.size):Below n0 a b :=
 ⟨h.1,h.2.1,h.2.2.1,h.2.2.2.1,fun k hk =>h.2.2.2.2 k (Nat.lt_of_lt_of_le hk hn) (fun h2 =>by have:=hs k h2;omega)⟩
def tput (l:List (List UInt8)) (s:List UInt8):List (List UInt8):=if s ∈ l then l else l++[s]
theorem zDa {l:List (List UInt8)} {s:List UInt8} (h:s ∈ l):tput l s=l:=if_pos h
theorem zCc {l:List (List UInt8)} {s:List UInt8} (h:s ∉ l):tput l s=l++[s]:=if_neg h
theorem zHd {l:List (List UInt8)} {s:List UInt8} (h:l.Nodup):(tput l s).Nodup:=by
 by_cases hs:s ∈ l
 ·rw [zDa hs];exact h
 ·rw [zCc hs,List.nodup_append]
  exact ⟨h,by simp,fun a ha b hb =>by simp at hb;subst hb;exact fun e =>hs (e▸ha)⟩
theorem zQZ:(Tryz.prog.info? 9).map (fun i =>(i.zero,i.size,i.bytes))=some (some (.string ⟨#[]⟩),1,16):=by kernel_rfl
end Go.Proofs.YtekchkfjgofnkaaGreatDoor
