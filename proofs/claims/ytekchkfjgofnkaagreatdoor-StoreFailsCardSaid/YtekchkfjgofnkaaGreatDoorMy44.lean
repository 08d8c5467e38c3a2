/- Texts of one proof. -/
import Derived.Deep.MidRow
import Derived.Sort.OwnSorted
import Derived.Test.YtekchkfjgofnkaaGreatDoorShl
import Derived.WalkLawsBesides
import Derived.Test.YtekchkfjgofnkaaGreatDoorMy43
set_option maxRecDepth 100000
set_option maxHeartbeats 8000000
namespace Go.Proofs.YtekchkfjgofnkaaGreatDoor
open Go.RowKit Go.Maps Go.ChangeMaps Go.WideMaps Go.Sort
def zQP:Prop:=∀ (blk off cap:Nat) (ss:List (List UInt8)) (w:World),Holds encStr w blk off ss.toArray→blk<w.heap.size→ss.length<4611686018427387904 →
 Calls Tryz.prog 83 #[.slice (some ⟨blk,off,none⟩) ss.length cap] w fun e w' =>
   e=.returned (.tuple #[])∧∃ n os,w'=grow (putRow encStr (Sort.ahead w n) blk off (ss.mergeSort fun x y =>decide (x≤y)).toArray) os
def lput (xs:List Value):Nat→List Value→List Value
 | _,[] =>xs
 | o,v :: vs =>lput (xs.set o v) (o+1) vs
theorem zHt:∀ (vs xs:List Value) (o:Nat),o+vs.length≤xs.length→lput xs o vs=xs.take o++(vs++xs.drop (o+vs.length))
 | [],xs,o,_ =>by simp [lput]
 | v :: vs,xs,o,h =>by
  have ho:o<xs.length:=by simp at h;omega
  rw [lput,zHt vs (xs.set o v) (o+1) (by simp at h ⊢;omega)]
  rw [List.take_set,List.drop_set_of_lt (by omega),List.take_add_one,List.getElem?_eq_getElem ho,List.length_cons,show o+1+vs.length=o+(vs.length+1) by omega]
  rw [List.set_append_right _ _ (by simp;omega)]
  simp [Nat.min_eq_left (Nat.le_of_lt ho)]
theorem zEN {base size g n cap:Nat} {e:TypeId}:∀ (vs xs:List Value) (o:Nat) (w:World),w.ownsRow base e size (.slice (some ⟨g,0,none⟩) n cap) n xs →
  (w.setCells g o vs).ownsRow base e size (.slice (some ⟨g,0,none⟩) n cap) n (lput xs o vs)∧w.grownBy (w.setCells g o vs) (some g)
 | [],xs,o,w,h =>⟨h,World.grownBy.refl w _⟩
 | v :: vs,xs,o,w,h =>by
  obtain ⟨h1,h2⟩:=h.stored o v
  obtain ⟨h3,h4⟩:=zEN vs (xs.set o v) (o+1) _ h1
  exact ⟨h3,h2.andThen h4 (fun j hj =>.inr hj)⟩
theorem zIf {w:World} {base size g n cap:Nat} {e:TypeId} {xs:List Value} (h:w.ownsRow base e size (.slice (some ⟨g,0,none⟩) n cap) n xs) (o m:Nat) (ho:o+m≤xs.length):w.there g o m:=fun j hj =>by
 have h1:=h.cells (g:=g) rfl (o+j) xs[o+j] (List.getElem?_eq_getElem (by omega))
 rw [Addr.add_mid,Nat.zero_add] at h1
 exact ⟨by rw [h1];rfl,h.frozenAt _⟩
theorem zJh {w:World} {base size g n cap:Nat} {e:TypeId} {xs:List Value} {u:Value} (h:w.ownsRow base e size (.slice (some ⟨g,0,none⟩) n cap) n xs) (j:Nat) (hu:xs[j]? = some u):w.cell? ⟨g,j,none⟩=some u:=by
 have h1:=h.cells (g:=g) rfl j u hu
 rwa [Addr.add_mid,Nat.zero_add] at h1
theorem zPp {S:List Rw} {cs:List Value} {i:Nat} {x:Rw} (hx:S[i]? = some x) (hl:cs.length=S.length * 7) (h:cs.take (i * 7)=rws (S.take i)):(lput cs (i * 7) x.cells).take ((i+1) * 7)=rws (S.take (i+1)):=by
 have hi:=(List.getElem?_eq_some_iff.1 hx).1
 rw [zHt _ _ _ (by rw [zBD];omega),← List.append_assoc,List.take_append_of_le_length (by rw [List.length_append,zBD,List.length_take];omega),List.take_of_length_le (by rw [List.length_append,zBD,List.length_take];omega),h,List.take_add_one,hx,zCH]
 simp [zBe,zRd]
theorem zSr (w:World):(zeroValue 41).run Tryz.prog w=.ok (.agg #[.int .i64 0,.string ⟨#[]⟩,.int .u64 0,.slice none 0 0,.int .u64 0,.int .u64 0,.string ⟨#[]⟩]) w:=Tryz.zeroValue41 w
theorem zMV (hsort:zQP) (b N:Nat) (hN:N≤1000000) (S:List Rw) (hf:∀ x ∈ S,x.t.length≤maxLen) (w:World) (h:RMap w b N S) :
  Calls Tryz.prog 90 #[.map (some b)] w fun e w' =>∃ g,e=.returned (.slice (some ⟨g,0,none⟩) S.length S.length)∧w'.ownsRow w.heap.size 41 7 (.slice (some ⟨g,0,none⟩) S.length S.length) S.length (rws S)∧Below w.heap.size w w':=by
 obtain ⟨i0,hi,hz0,hz1,hz2⟩:=info_parts zSJ
 obtain ⟨D0,hown,hmo⟩:=h
 have hsz:=hown.size_le
 have hbl:=hown.lt
 have HMO:=yh hmo
 have HF:=yh hf
 clear hmo hf
 go_enter Tryz.func90,Tryz.ntmps90
 go_wp2_with (first
  | (at_len;refine wpList_len_own _ rfl _ 110 rfl 9 41 Tryz.underlying110 _ b N _ rfl hown ?_)
  | (at_make;refine wpList_make_own _ rfl _ _ 82 rfl w.heap.size 9 i0 (.string ⟨#[]⟩) 1 Tryz.underlying82 hi hz0 hz1 _ _ _ (Maps.size D0) rfl rfl rfl (by rw [hz2];omega) (by unfold maxLen;omega) (Nat.le_refl _) ?_;intro w1 hrow1 hg1)
  | (at_range;refine wpList_range_own _ rfl _ 110 rfl 9 41 gkey Tryz.underlying110 _ b N _ rfl (hown.kept hg1 (by simp)) ?_;intro w0 hrg0 hg0 hs0))
 go_frame
 go_loopw [3] (fun v wr =>∃ (left:Lit→Bool) (cnt:Nat) (ss:List (List UInt8)),wr.ranges Tryz.prog 9 zBz b w1.heap.size N D0 left cnt∧ss.length+cnt≤Maps.size D0 ∧
   wr.ownsRow w.heap.size 9 1 v ss.length (ss.map encStr)∧v ≠ .slice none 0 0∧Collected D0 left ss∧Below w.heap.size w wr)
  (fun _ wr =>wr.rangeLeft b w1.heap.size)
 case atStart =>
  exact ⟨_,_,[],hrg0,by simp,hrow1.kept hg0 (Or.inr (by simp [Value.ownBlock])),by simp,Collected.start D0,
   ((Below.refl _ _).grown hg1 (Nat.le_refl _) (fun j hj =>by cases hj)).grown hg0 hg1.size (fun j hj =>by cases hj)⟩
 case round =>
  obtain ⟨left,cnt,ss,hrg,hcs,hrow,hnn,hC,hnx⟩:=hrel
  go_wp2_with (at_next;refine wpList_next_ranges _ rfl _ rfl 9 gkey zBz encStr (fun v:Value =>v) (fun key kl hk =>by obtain ⟨x,hx,_⟩:=Maps.keyOf_str Tryz.underlying9 hk;exact ⟨x,hx⟩) (fun v y _ =>⟨v,rfl⟩) b w1.heap.size N _ _ _ rfl hrg ?_ ?_)
  ·intro hc0 hl0
   rcases hrow.2 with ⟨hnil,_⟩ | ⟨g,cap,cur,rfl,hbase,hb,h1,h2,h3,h4⟩
   ·exact absurd hnil hnn
   have hH:Holds encStr wr g 0 ss.toArray:=holds_of_block hb (by simpa using h4)
   have hgl:g<wr.heap.size:=(Array.getElem?_eq_some_iff.1 hb).1
   have hc:=hsort g 0 cap ss wr hH hgl (by omega)
   have hso:=HMO.out.sorted hC hl0
   have hmw:=hrg.owns
   have hlen:ss.length=S.length:=by
    have:=congrArg List.length hso
    simpa using this
   obtain ⟨ir,hir,hrz0,hrz1,hrz2⟩:=info_parts zSI
   have hgb:b<g:=by omega
   have H8:∀ w2 nn os,w2=grow (putRow encStr (Sort.ahead wr nn) g 0 (ss.mergeSort fun x y =>decide (x≤y)).toArray) os→w2.ownsRow w.heap.size 9 1 (.slice (some ⟨g,0,none⟩) ss.length cap) ss.length ((S.map Rw.t).map encStr)∧wr.grownBy w2 (some g):=fun w2 nn os e =>by
    subst e
    refine ⟨?_,grownBy_sorted _⟩
    rw [← hso]
    exact ownsRow_sorted (by simp) hbase hb h1 h2 h3
   have H9:=yh H8
   have HNX:=yh hnx
   have HMW:=yh hmw
   have HC:=yh hc
   generalize hn:ss.length=n at H9 HC hlen h1 hcs ⊢
   have HLEN:=yh hlen
   have hn1:n≤1000000:=by omega
   clear H8 hso hb hH h2 h3 h4 hrow hC hrg hcs hnn hnx hmw hc hl0 hc0 hlen hn hrow1 hown
   go_wp2_with (first
    | (go_at_call 83;refine HC.out.mono ?_;rintro e w2 ⟨rfl,nn,os,hw2⟩;obtain ⟨hk2,hg2⟩:=H9.out w2 nn os hw2;have HK2:=yh hk2;have HM2:=yh (HMW.out.kept hg2 (by simp;omega));have HB2:=yh (HNX.out.grown hg2 HNX.out.size (fun j hj =>by cases hj;exact hbase));have hgl2:=hk2.lt g rfl;clear hw2 hk2 hg2)
    | (at_make;refine wpList_make_full _ rfl _ _ 33 rfl w.heap.size 41 ir _ 7 Tryz.underlying33 hir hrz0 hrz1 _ _ _ _ n rfl rfl rfl rfl (by rw [hrz2];omega) (by unfold maxLen;omega) HB2.out.size ?_;intro w3 hrow3 hg3))
   have HR3:=yh hrow3
   have HK3:=yh (HK2.out.kept hg3 (.inr (by simp [Value.ownBlock])))
   have HM3:=yh (HM2.out.kept hg3 (by simp))
   have HB3:=yh (HB2.out.grown hg3 HB2.out.size (fun j hj =>by cases hj))
   have hl3:(madeCells (Value.agg #[.int .i64 0,.string ⟨#[]⟩,.int .u64 0,.slice none 0 0,.int .u64 0,.int .u64 0,.string ⟨#[]⟩]).cells (n * 7)).toList.length=n * 7:=hrow3.1
   have hg22:g<w2.heap.size:=hgl2.2
   generalize (madeCells (Value.agg #[.int .i64 0,.string ⟨#[]⟩,.int .u64 0,.slice none 0 0,.int .u64 0,.int .u64 0,.string ⟨#[]⟩]).cells (n * 7)).toList=cs0 at *
   generalize w2.heap.size=g2 at *
   clear hrow3 hg3 hgl2
   go_loopw [28] (fun idx wr =>∃ (i:Nat) (cs:List Value),i≤n∧idx=.int .i64 (i:Int)∧wr.ownsRow w.heap.size 41 7 (.slice (some ⟨g2,0,none⟩) n n) n cs∧cs.take (i * 7)=rws (S.take i)∧wr.ownsRow w.heap.size 9 1 (.slice (some ⟨g,0,none⟩) n cap) n ((S.map Rw.t).map encStr)∧World.ownsMap (H:=Value) wr Tryz.prog 9 zBz b N D0∧Below w.heap.size w wr) (fun idx _ =>n - (intOf idx).toNat)
   case atStart =>exact ⟨0,cs0,by omega,rfl,HR3.out,by simp [rws],HK3.out,HM3.out,HB3.out⟩
   case round =>
    obtain ⟨i,cs,hi,rfl,hr,htk,hk,hm,hb⟩:=hrel
    have HR:=yh hr
    have HTK:=yh htk
    have HK:=yh hk
    have HM:=yh hm
    have HB:=yh hb
    clear htk hb
    by_cases hlt:i<n
    ·obtain ⟨x,hx⟩:∃ x,S[i]? = some x:=⟨_,List.getElem?_eq_getElem (by rw [← HLEN.out];exact hlt)⟩
     have hkc:=zJh hk i (show ((S.map Rw.t).map encStr)[i]? = some (encStr x.t) by simp [hx])
     have hkey:=zNE (HF.out x (List.mem_of_getElem? hx))
     obtain ⟨v,ps,hrun,hv⟩:=hm.lookup gkey Tryz.underlying110 (zSr _) (zd:=_) (zp:=_) rfl hkey
     have hv2:v=x.val:=by
      have e1:=(HMO.out.at hx _).symm.trans (zPr hv)
      injection e1 with e1
      exact e1.symm
     subst hv2
     have HTH:=yh (zIf hr (i * 7) 7 (by rw [hr.1];omega))
     have HST:=yh (zEN x.cells cs (i * 7) wr hr)
     have HLA:=yh (zPp hx (by rw [hr.1,HLEN.out]) HTK.out)
     have hi0:(0:Int)≤(i:Int):=by omega
     have hi1:(i:Int)<(n:Int):=by omega
     obtain ⟨⟨k,t,u,o,m,gg⟩,A4,n4,c4,l4⟩:=x
     unfold Rw.val rcv rsv at hrun
     unfold Rw.t at hkc hrun
     have hkc2:wr.cell? ⟨g,i,none⟩=some (.string (tx t)):=hkc
     clear hkc
     unfold Rw.cells at HST HLA
     simp only at hrun HST HLA
     have HTH2:Hid (wr.there g2 (i * 7) (#[.int .i64 k,.string (tx t),.int .u64 u,.slice A4 n4 c4,.int .u64 o,.int .u64 m,.string (tx gg)]:Array Value).size):=HTH.out
     have HONE:Hid ((#[.int .i64 k,.string (tx t),.int .u64 u,.slice A4 n4 c4,.int .u64 o,.int .u64 m,.string (tx gg)]:Array Value).all (·.oneCell')=true):=by show _=_;simp [Value.oneCell']
     have HSI:Hid ((Tryz.prog.info? 41).map (·.size)=some (#[.int .i64 k,.string (tx t),.int .u64 u,.slice A4 n4 c4,.int .u64 o,.int .u64 m,.string (tx gg)]:Array Value).size):=by show _=_;kernel_rfl
     clear hv hx hkey hk hm hr
     go_wp2_with ((with_reducible show wpList _ _ _ (Oper.mk _ (Op.store _ _ _) _ _ _ _ :: _) _ _);refine wpList_store_mid rfl 41 (.tmp 38) (.tmp 37) rfl g2 (i * 7) #[.int .i64 k,.string (tx t),.int .u64 u,.slice A4 n4 c4,.int .u64 o,.int .u64 m,.string (tx gg)] rfl rfl HTH2.out HSI.out HONE.out ?_)
     exact ⟨⟨i+1,_,by omega,by go_num,HST.out.1,HLA.out,HK.out.kept HST.out.2 (.inr (by simp [Value.ownBlock];omega)),HM.out.kept HST.out.2 (by simp;omega),HB.out.grown HST.out.2 HB.out.size (fun j hj =>by cases hj;omega)⟩,by simp [intOf];omega⟩
    ·obtain rfl:i=n:=by omega
     have hcs:cs=rws S:=by
      have h5:=HTK.out
      rw [List.take_of_length_le (by have:=hr.1;omega),List.take_of_length_le (by have:=HLEN.out;omega)] at h5
      exact h5
     subst hcs
     have e:=HLEN.out
     subst e
     clear hr hk hm
     go_wp2
     go_ret
     exact ⟨g2,rfl,HR.out,HB.out⟩
  ·intro x c kl yd yp w2 cnt2 hkey hlk hv hat hrg2 hlt hg2 hs2 hen
   obtain ⟨x',ex,rfl,_⟩:=Maps.keyOf_str Tryz.underlying9 hkey
   obtain rfl:x=x':=encStr_inj ex
   have hrow2:=hrow.kept hg2 (Or.inr (row_ne_iter hrow hrg).symm)
   clear hs2
   go_wp2_with (at_builtin;refine wpList_append_own _ rfl _ _ 82 rfl w.heap.size 9 i0 (.string ⟨#[]⟩) 1 16 Tryz.underlying82 hi hz0 hz1 hz2 rfl (by decide) _ _ _ rfl (hrow2.alloc _) ⟨w2.heap.size,0,none⟩ 1 1 [encStr x] rfl rfl (cell_one_new _ _ _) (by simp [Value.oneCell',encStr]) (by unfold maxLen at *;omega) (by omega) (by have:=hnx.size;have:=hg2.size;simp;omega) ?_;intro v' w3 hown' hg3 hnil3;go_frame)
   have hrg3:=(hrg2.alloc _).kept hg3 (row_ne_low hrow2 hbl) (row_ne_iter hrow2 hrg2)
   go_roundw
   case rel =>
    refine ⟨_,cnt2,ss++[x],hrg3,by simp;omega,by simpa using hown',fun hv' =>by have:=(hnil3.1 hv').2;omega,hC.step hlk hat,?_⟩
    exact ((hnx.grown hg2 hnx.size (fun j hj =>by cases hj;exact hg1.size)).alloc (by have:=hnx.size;have:=hg2.size;omega) _).grown hg3 (by have:=hnx.size;have:=hg2.size;simp;omega) (fun j hj =>(hrow2.lt j hj).1)
   case measure =>rw [hrg3.left_eq,hrg.left_eq];exact hlt
theorem zSy:zQP:=fun blk off cap ss w hH hb hs =>Go.Proofs.Tryz.slices_Sort_string blk off cap ss w hH hb hs
theorem zRe (zs S:List Rw) (x y:Rw):lput (rws (zs++x :: S)) (zs.length * 7) y.cells=rws (zs++y :: S):=by
 rw [zHt _ _ _ (by rw [zCh,zBD];simp;omega),zCH,zBe,zCH,zBe]
 have e:zs.length * 7=(rws zs).length:=(zCh zs).symm
 rw [e,List.take_left,zBD,← zBD x,← List.append_assoc,← List.length_append,← List.append_assoc (rws zs) x.cells,List.drop_left]
 simp
def zDQ (w:World) (base:Nat) (A:Option Addr) (n c:Nat) (zs:List Rw):Prop :=
 w.ownsRow base 41 7 (.slice A n c) n (rws zs)∧(A=none→c=0)∧∀ z ∈ zs,Deps w base z.A z.n z.c z.l
theorem zDQ.less {w:World} {base base':Nat} {A:Option Addr} {n c:Nat} {zs:List Rw} (h:zDQ w base A n c zs) (hb:base'≤base):zDQ w base' A n c zs:=⟨zAT h.1 hb,h.2.1,fun z hz =>zEX (h.2.2 z hz) hb⟩
def zGE (w:World) (S:List Rw):Prop:=∀ x ∈ S,x.t.length≤maxLen∧x.n≤1000000∧zAD w w.heap.size 3 x.A x.n (dps x.l)∧(x.A=none→x.c=0)
theorem zGE.below {w w':World} {S:List Rw} (h:zGE w S) (hb:Below w.heap.size w w'):zGE w' S:=fun x hx =>
 ⟨(h x hx).1,(h x hx).2.1,((h x hx).2.2.1.below hb).more hb.size,(h x hx).2.2.2⟩
theorem zQG (b N:Nat) (hN:N≤1000000) (S:List Rw) (hS:S.length≤1000000) (w:World) (hd:zGE w S) (h:RMap w b N S) :
  Calls Tryz.prog 62 #[.map (some b)] w fun e w' =>∃ A c zs,e=.returned (.slice A S.length c)∧zs.map Rw.say=S.map Rw.say∧zDQ w' w.heap.size A S.length c zs∧Below w.heap.size w w':=by
 have HV:=yh (zMV zSy b N hN S (fun x hx =>(hd x hx).1) w h)
 have HD:=yh hd
 obtain ⟨n,hn⟩:∃ n,n=S.length:=⟨_,rfl⟩
 rw [← hn] at HV hS ⊢
 have HL:=yh hn
 clear hd h hn
 go_enter Tryz.func62,Tryz.ntmps62
 go_wp2_with (go_at_call 90;refine HV.out.mono ?_;rintro e w1 ⟨g,rfl,hr1,hb1⟩;have HR1:=yh hr1;have HB1:=yh hb1;clear hr1 hb1)
 go_loopw [10] (fun idx wr =>∃ (i:Nat) (zs:List Rw),i≤n∧idx=.int .i64 (i:Int)∧wr.ownsRow w.heap.size 41 7 (.slice (some ⟨g,0,none⟩) n n) n (rws (zs++S.drop i))∧zs.map Rw.say=(S.take i).map Rw.say∧(∀ z ∈ zs,Deps wr w.heap.size z.A z.n z.c z.l)∧Below w.heap.size w wr) (fun idx _ =>n - (intOf idx).toNat)
 case atStart =>exact ⟨0,[],by omega,rfl,HR1.out,rfl,by simp,HB1.out⟩
 case round =>
  obtain ⟨i,zs,hi,rfl,hr,hsay,hz,hb⟩:=hrel
  have HR:=yh hr
  have HSAY:=yh hsay
  have HZ:=yh hz
  have HB:=yh hb
  by_cases hlt:i<n
  ·obtain ⟨x,hx⟩:∃ x,S[i]? = some x:=⟨_,List.getElem?_eq_getElem (by rw [← HL.out];exact hlt)⟩
   have hzl:zs.length=i:=by
    have:=congrArg List.length hsay
    simp at this
    have h2:=HL.out
    omega
   have hdr:S.drop i=x :: S.drop (i+1):=by
    obtain ⟨h1,h2⟩:=List.getElem?_eq_some_iff.1 hx
    rw [← h2,List.getElem_cons_drop]
   have hat:(zs++S.drop i)[i]? = some x:=by
    rw [hdr,List.getElem?_append_right (by omega),hzl,Nat.sub_self]
    rfl
   have hc:=fun k u hu =>zJh hr (i * 7+k) (zJs _ i x hat k u hu)
   have hgb:=zAG hr g rfl
   have HPUT:=yh (fun y:Rw =>zRe zs (S.drop (i+1)) x y)
   rw [← hdr,hzl] at HPUT
   have hdx:=HD.out x (List.mem_of_getElem? hx)
   have HDX:=yh hdx.2.2.1
   have HSX:Hid (∀ y:Rw,y.say=x.say→(zs++[y]).map Rw.say=(S.take (i+1)).map Rw.say):=fun y hy =>by
    rw [List.map_append,HSAY.out,List.take_add_one,hx,List.map_append]
    simp [hy]
   have HTH:=yh (fun (W:World) (h:W.ownsRow w.heap.size 41 7 (.slice (some ⟨g,0,none⟩) n n) n (rws (zs++S.drop i))) =>zIf h (i * 7) 7 (by rw [h.1];omega))
   obtain ⟨⟨k,t,u,o,m,gg⟩,A4,n4,c4,l4⟩:=x
   have k0:=hc 0 _ rfl
   have k1:=hc 1 _ rfl
   have k2:=hc 2 _ rfl
   have k3:=hc 3 _ rfl
   have k4:=hc 4 _ rfl
   have k5:=hc 5 _ rfl
   have k6:=hc 6 _ rfl
   have HCL:=yh (fun W h =>zCN ⟨k,t,u,o,m,gg⟩ A4 n4 c4 l4 hdx.2.2.2 hdx.2.1 W h)
   unfold rcv rsv at HCL
   simp only [Nat.add_zero] at k0 k1 k2 k3 k4 k5 k6 HCL HDX
   have hi0:(0:Int)≤(i:Int):=by omega
   have hi1:(i:Int)<(n:Int):=by omega
   have HB2:=yh (hb.alloc hb.size (.cells #[.int .i64 k,.string (tx t),.int .u64 u,.slice A4 n4 c4,.int .u64 o,.int .u64 m,.string (tx gg)] 41))
   have HR2:=yh (hr.alloc (.cells #[.int .i64 k,.string (tx t),.int .u64 u,.slice A4 n4 c4,.int .u64 o,.int .u64 m,.string (tx gg)] 41))
   clear hc hat hdr hzl hx hdx hr hsay hz hb
   go_wp2_with fail
   refine (HCL.out _ ((HDX.out.below HB2.out).more HB2.out.size)).mono ?_
   rintro e w2 ⟨A5,c5,rfl,hd2,hb2⟩
   have HB3:=yh (HB2.out.trans (hb2.mono HB2.out.size))
   have hr3:=zAK HR2.out hb2
   have HTH2:Hid (w2.there g (i * 7) (#[.int .i64 k,.string (tx t),.int .u64 u,.slice A5 n4 c5,.int .u64 o,.int .u64 m,.string (tx gg)]:Array Value).size):=HTH.out w2 hr3
   have HST:=zEN [.int .i64 k,.string (tx t),.int .u64 u,.slice A5 n4 c5,.int .u64 o,.int .u64 m,.string (tx gg)] _ (i * 7) w2 hr3
   have hput:=HPUT.out ⟨⟨k,t,u,o,m,gg⟩,A5,n4,c5,l4⟩
   unfold Rw.cells at hput
   simp only at hput
   rw [hput] at HST
   have hz3:∀ z ∈ zs,Deps w2 w.heap.size z.A z.n z.c z.l:=fun z hz =>zEv (zCM (HZ.out z hz) _) hb2
   have HZ3:Hid (∀ z ∈ zs++[⟨⟨k,t,u,o,m,gg⟩,A5,n4,c5,l4⟩],Deps (w2.setCells g (i * 7) [.int .i64 k,.string (tx t),.int .u64 u,.slice A5 n4 c5,.int .u64 o,.int .u64 m,.string (tx gg)]) w.heap.size z.A z.n z.c z.l):=fun z hz =>by
    rcases List.mem_append.1 hz with hz | hz
    ·exact zBt (hz3 z hz) hr3 HST.2
    ·obtain rfl:=List.mem_singleton.1 hz
     exact zBt (zEX hd2 HB2.out.size) hr3 HST.2
   have HST2:=yh HST
   have HB4:=yh (HB3.out.grown HST.2 HB3.out.size (fun j hj =>by cases hj;exact hgb))
   have HONE:Hid ((#[.int .i64 k,.string (tx t),.int .u64 u,.slice A5 n4 c5,.int .u64 o,.int .u64 m,.string (tx gg)]:Array Value).all (·.oneCell')=true):=by show _=_;simp [Value.oneCell']
   have HSI:Hid ((Tryz.prog.info? 41).map (·.size)=some (#[.int .i64 k,.string (tx t),.int .u64 u,.slice A5 n4 c5,.int .u64 o,.int .u64 m,.string (tx gg)]:Array Value).size):=by show _=_;kernel_rfl
   clear hd2 hb2 hr3 HST hput hz3
   go_wp2_with ((with_reducible show wpList _ _ _ (Oper.mk _ (Op.store _ _ _) _ _ _ _ :: _) _ _);refine wpList_store_mid rfl 41 (.tmp 19) (.tmp 18) rfl g (i * 7) #[.int .i64 k,.string (tx t),.int .u64 u,.slice A5 n4 c5,.int .u64 o,.int .u64 m,.string (tx gg)] rfl rfl HTH2.out HSI.out HONE.out ?_)
   exact ⟨⟨i+1,zs++[⟨⟨k,t,u,o,m,gg⟩,A5,n4,c5,l4⟩],by omega,by go_num,by simpa using HST2.out.1,HSX.out _ rfl,HZ3.out,HB4.out⟩,by simp [intOf];omega⟩
  ·obtain rfl:i=n:=by omega
   have e1:S.drop i=[]:=List.drop_of_length_le (by have:=HL.out;omega)
   have e2:S.take i=S:=List.take_of_length_le (by have:=HL.out;omega)
   rw [e1,List.append_nil] at HR
   rw [e2] at HSAY
   clear hr hsay hz hb e1 e2
   go_wp2
   go_ret
   exact ⟨_,_,zs,rfl,HSAY.out,⟨HR.out,(fun h =>by cases h),HZ.out⟩,HB.out⟩
theorem zOt {w:World} {A:Option Addr} {n:Nat} {xs:List Rw} (hf:∀ x ∈ xs,x.t.length≤maxLen∧x.n≤1000000) (h:Recs w w.heap.size A n xs) {S:List Rw} (hS:∀ x ∈ S,x ∈ xs):zGE w S:=fun x hx =>
 ⟨(hf x (hS x hx)).1,(hf x (hS x hx)).2,(h.2 x (hS x hx)).1,(h.2 x (hS x hx)).2⟩
theorem zQt (A:Option Addr) (n c:Nat) (xs:List Rw) (hn:n≤1000000) (hf:∀ x ∈ xs,x.t.length≤maxLen∧x.n≤1000000) (w:World) (h:Recs w w.heap.size A n xs) :
  Calls Tryz.prog 40 #[.slice A n c] w fun e w' =>∃ A' c' zs,e=.returned (.slice A' (fo Rw.k Rw.t xs).length c')∧zs.map Rw.say=(fo Rw.k Rw.t xs).map Rw.say∧zDQ w' w.heap.size A' (fo Rw.k Rw.t xs).length c' zs∧Below w.heap.size w w':=by
 have hl:xs.length=n:=h.len
 have hlen:(fo Rw.k Rw.t xs).length≤1000000:=by have:=zJO (k:=Rw.k) (t:=Rw.t) xs;omega
 have HFO:=yh (zLm A n c xs hn (fun x hx =>(hf x hx).1) w h)
 have hso:zGE w (fo Rw.k Rw.t xs):=zOt hf h (fun x hx =>(zJP hx).1)
 have HTO:Hid (∀ W,Below w.heap.size w W→RMap W w.heap.size n (fo Rw.k Rw.t xs)→Calls Tryz.prog 62 #[.map (some w.heap.size)] W fun e w' =>∃ A' c' zs,e=.returned (.slice A' (fo Rw.k Rw.t xs).length c')∧zs.map Rw.say=(fo Rw.k Rw.t xs).map Rw.say∧zDQ w' W.heap.size A' (fo Rw.k Rw.t xs).length c' zs∧Below W.heap.size W w'):=fun W hb hm =>
  zQG w.heap.size n hn (fo Rw.k Rw.t xs) hlen W (hso.below hb) hm
 generalize fo Rw.k Rw.t xs=S at *
 clear h hf hl hso
 go_enter Tryz.func40,Tryz.ntmps40
 go_wp2_with (first
  | (go_at_call 62;refine (HTO.out _ HB1.out HM1.out).mono ?_;rintro e w2 ⟨A',c',zs,rfl,hsay,hst,hb2⟩;have HSAY:=yh hsay;have HST:=yh hst;have HB2:=yh (HB1.out.trans (hb2.mono HB1.out.size));clear hsay hst hb2)
  | (go_at_call 63;refine HFO.out.mono ?_;rintro e w1 ⟨rfl,hm1,hb1⟩;have HM1:=yh hm1;have HB1:=yh hb1;clear hm1 hb1))
 go_ret
 exact ⟨A',c',zs,rfl,HSAY.out,HST.out.less HB1.out.size,HB2.out⟩
open Go.RowKit
def zAu (xs:List Rw) (u:List UInt8):Option Rw:=xs.reverse.find? fun s =>s.k == 1 && s.t == u
theorem zKV {xs:List Rw} {i:Nat} {x:Rw} (hx:xs[i]? = some x) (u:List UInt8):zAu (xs.take (i+1)) u=if x.k=1∧x.t=u then some x else zAu (xs.take i) u:=by
 unfold zAu
 rw [List.take_add_one,hx]
 by_cases h1:x.k=1 <;> by_cases h2:x.t=u <;> simp [h1,h2]
def zOW (own:Bool) (xs:List Rw) (u:List UInt8) (w:World) (e:Ending) (w':World):Prop :=
 (zAu xs u=none∧e=.returned (.tuple #[rcv ⟨0,[],0,0,0,[]⟩ none 0 0,.bool false])∧Below w.heap.size w w') ∨
  ∃ x A c,zAu xs u=some x∧e=.returned (.tuple #[rcv x.r A x.n c,.bool true])∧(A=none→c=0)∧(if own then Deps w' w.heap.size A x.n c x.l else zAD w' w.heap.size 3 A x.n (dps x.l))∧Below w.heap.size w w'
theorem zCF {P:Program} {fn:Func} {u p:Tmp} {ty:TypeId} (h:fn.results=#[.cell p ty,.tmp u]) (tmps:Array Value) (w:World) (g:Nat) (t:TypeId) (cs:Array Value) (fr:Nat×Nat) (d:TypeDesc)
  (hp:tmps.getD p undef=.pointer (some ⟨g,0,none⟩)) (hg:w.heap[g]? = some (.cells cs t fr))
  (hu:P.underlying ty=some d) (hd:(match d with | .struct _ | .array _ _ =>true | _ =>false)=true) (hi:(P.info? ty).map (·.size)=some cs.size) :
  (results fn tmps).run P w=.ok (.tuple #[.agg cs,tmps.getD u undef]) w:=by
 have hp':tmps[p]?.getD undef=.pointer (some ⟨g,0,none⟩):=by simpa using hp
 simp [results,h,hp',asAddr,run_loadVar_row w g t ty cs fr d hg hu hd hi]
theorem zLl (A:Option Addr) (n c:Nat) (xs:List Rw) (u:List UInt8) (hn:n≤100000) (hf:∀ x ∈ xs,x.n≤1000000) (w:World) (h:Recs w w.heap.size A n xs) :
  Calls Tryz.prog 43 #[.slice A n c,rsv u] w fun e w' =>zOW true xs u w e w':=by
 have hl0:xs.length=n:=h.len
 have HL:=yh hl0
 have H1:=yh h
 have HF:=yh hf
 unfold rsv
 have hbx:=zAE w (.cells #[.int .i64 0,.string ⟨#[]⟩,.int .u64 0,.slice none 0 0,.int .u64 0,.int .u64 0,.string ⟨#[]⟩] 41)
 have HBX:=yh hbx
 have HB0:=yh ((Below.refl w.heap.size w).alloc (Nat.le_refl _) (.cells #[.int .i64 0,.string ⟨#[]⟩,.int .u64 0,.slice none 0 0,.int .u64 0,.int .u64 0,.string ⟨#[]⟩] 41))
 clear h hf hbx
 go_enter Tryz.func43,Tryz.ntmps43
 go_wp2
 go_loopw [6] (fun idx wr =>∃ (i:Nat),i≤n∧idx=.int .i64 ((i:Int) - 1)∧zAu xs u=zAu (xs.take i) u∧(∃ q,wr=(w.alloc (.cells #[.int .i64 0,.string ⟨#[]⟩,.int .u64 0,.slice none 0 0,.int .u64 0,.int .u64 0,.string ⟨#[]⟩] 41)).drewN q)) (fun idx _ =>(intOf idx+1).toNat)
 case atStart =>exact ⟨n,by omega,rfl,by rw [List.take_of_length_le (by rw [HL.out];omega)],0,rfl⟩
 case round =>
  obtain ⟨i,hi,rfl,hlast,q,rfl⟩:=hrel
  rcases Nat.eq_zero_or_pos i with h0 | h0
  ·subst h0
   have hno:zAu xs u=none:=by rw [hlast];rfl
   have HNO:=yh hno
   clear hlast hno
   have HH:Hid (((w.alloc (.cells #[.int .i64 0,.string ⟨#[]⟩,.int .u64 0,.slice none 0 0,.int .u64 0,.int .u64 0,.string ⟨#[]⟩] 41)).drewN q).heap[w.heap.size]? = some (.cells #[.int .i64 0,.string ⟨#[]⟩,.int .u64 0,.slice none 0 0,.int .u64 0,.int .u64 0,.string ⟨#[]⟩] 41 (0,0))):=HBX.out
   have HFIN:=yh (setRow_heap ((w.alloc (.cells #[.int .i64 0,.string ⟨#[]⟩,.int .u64 0,.slice none 0 0,.int .u64 0,.int .u64 0,.string ⟨#[]⟩] 41)).drewN q) w.heap.size _ #[.int .i64 0,.string ⟨#[]⟩,.int .u64 0,.slice none 0 0,.int .u64 0,.int .u64 0,.string ⟨#[]⟩] _ _ HBX.out)
   have HBE:=yh ((zCE HB0.out q).grown (zCG ((w.alloc (.cells #[.int .i64 0,.string ⟨#[]⟩,.int .u64 0,.slice none 0 0,.int .u64 0,.int .u64 0,.string ⟨#[]⟩] 41)).drewN q) w.heap.size #[.int .i64 0,.string ⟨#[]⟩,.int .u64 0,.slice none 0 0,.int .u64 0,.int .u64 0,.string ⟨#[]⟩]) (zCE HB0.out q).size (fun j hj =>by cases hj;exact Nat.le_refl _))
   go_wp2_with ((with_reducible show wpList _ _ _ (Oper.mk _ (Op.store _ _ _) _ _ _ _ :: _) _ _);refine wpList_store_row rfl 41 (.tmp 4) (.tmp 34) rfl w.heap.size #[.int .i64 0,.string ⟨#[]⟩,.int .u64 0,.slice none 0 0,.int .u64 0,.int .u64 0,.string ⟨#[]⟩] rfl rfl 41 _ HH.out (by kernel_rfl) rfl (by simp [Value.oneCell']) ?_)
   refine bodyPost_ret (zCF Tryz.results43 _ _ w.heap.size _ _ (0,0) _ rfl HFIN.out Tryz.underlying41 rfl (by kernel_rfl)) rfl ?_
   exact .inl ⟨HNO.out,rfl,HBE.out⟩
  ·obtain ⟨j,rfl⟩:∃ j,i=j+1:=⟨i - 1,by omega⟩
   have e1:(((j+1:Nat):Int) - 1)=(j:Int):=by omega
   rw [e1]
   obtain ⟨x,hx⟩:∃ x,xs[j]? = some x:=⟨_,List.getElem?_eq_getElem (by rw [HL.out];omega)⟩
   have hm:=List.mem_of_getElem? hx
   have hnx:=HF.out x hm
   have hrx:=H1.out.2 x hm
   have HRX:=yh hrx.1
   obtain ⟨ad,rfl,_,k0,k1,k2,k3,k4,k5,k6⟩:=zBX (H1.out.below (zCE HB0.out q)).1 j x hx
   rw [zKV hx] at hlast
   have hun1:x.t≠u→((tx x.t).toList == (tx u).toList)=false:=zCd
   have hun2:x.t=u→((tx x.t).toList == (tx u).toList)=true:=fun e =>by rw [e];exact zCS u
   obtain ⟨⟨k,t,ru,ro,rm,rg⟩,A4,n4,c4,l4⟩:=x
   unfold Rw.t Rw.k at hlast
   unfold Rw.t at hun1 hun2
   simp only at k0 k1 k2 k3 k4 k5 k6 hlast hun1 hun2 HRX hrx hnx
   have hi0:(0:Int)≤(j:Int):=by omega
   have hi1:(j:Int)<(n:Int):=by omega
   have hwj:IntKind.i64.wrap ((j:Int) - 1)=(j:Int) - 1:=zEA (by omega) (by omega)
   by_cases hc:k=1∧t=u
   ·obtain ⟨rfl,rfl⟩:=hc
    rw [if_pos ⟨rfl,rfl⟩] at hlast
    have HLA:=yh hlast
    have hq:=hun2 rfl
    have HCL:=yh (fun W h =>zCN ⟨1,t,ru,ro,rm,rg⟩ A4 n4 c4 l4 hrx.2 hnx W h)
    unfold rcv rsv at HCL
    simp only at HCL
    clear hx hm hrx hnx hlast hun1 hun2 e1 hwj
    go_wp2_with fail
    refine (HCL.out _ ((HRX.out.below (zCE HB0.out _)).more (zCE HB0.out _).size)).mono ?_
    rintro e w2 ⟨A5,c5,rfl,hd2,hb2⟩
    have hz1:((w.alloc (.cells #[.int .i64 0,.string ⟨#[]⟩,.int .u64 0,.slice none 0 0,.int .u64 0,.int .u64 0,.string ⟨#[]⟩] 41)).drewN q).heap.size=w.heap.size+1:=by show (w.alloc _).heap.size=_;simp
    rw [hz1] at hd2 hb2
    have HH:=yh ((hb2.block w.heap.size (by omega)).trans HBX.out)
    have HFIN:=yh (setRow_heap w2 w.heap.size _ #[.int .i64 1,.string (tx t),.int .u64 ru,.slice A5 n4 c5,.int .u64 ro,.int .u64 rm,.string (tx rg)] _ _ HH.out)
    have HBE:=yh (((zCE HB0.out q).trans (hb2.mono (by omega))).grown (zCG w2 w.heap.size #[.int .i64 1,.string (tx t),.int .u64 ru,.slice A5 n4 c5,.int .u64 ro,.int .u64 rm,.string (tx rg)]) (by have:=hb2.size;omega) (fun j hj =>by cases hj;exact Nat.le_refl _))
    have HDE:Hid (Deps (w2.setRow w.heap.size #[.int .i64 1,.string (tx t),.int .u64 ru,.slice A5 n4 c5,.int .u64 ro,.int .u64 rm,.string (tx rg)]) w.heap.size A5 n4 c5 l4):=⟨(zAT hd2.1 (by omega)).kept (zCG w2 w.heap.size #[.int .i64 1,.string (tx t),.int .u64 ru,.slice A5 n4 c5,.int .u64 ro,.int .u64 rm,.string (tx rg)]) (by
     cases hv:(Value.slice A5 n4 c5).ownBlock with
     | none =>exact .inl rfl
     | some j =>exact .inr (fun e =>by have:=zAG hd2.1 j hv;injection e with e;omega)),hd2.2⟩
    have HAC:=yh hd2.2
    clear hd2 hb2 hz1
    go_wp2_with ((with_reducible show wpList _ _ _ (Oper.mk _ (Op.store _ _ _) _ _ _ _ :: _) _ _);refine wpList_store_row rfl 41 (.tmp 4) (.tmp 33) rfl w.heap.size #[.int .i64 1,.string (tx t),.int .u64 ru,.slice A5 n4 c5,.int .u64 ro,.int .u64 rm,.string (tx rg)] rfl rfl 41 _ HH.out (by kernel_rfl) rfl (by simp [Value.oneCell']) ?_)
    refine bodyPost_ret (zCF Tryz.results43 _ _ w.heap.size _ _ (0,0) _ rfl HFIN.out Tryz.underlying41 rfl (by kernel_rfl)) rfl ?_
    exact .inr ⟨_,A5,c5,HLA.out,rfl,HAC.out,HDE.out,HBE.out⟩
   ·rw [if_neg hc] at hlast
    have HLA:=yh hlast
    by_cases hk:k=1
    ·subst hk
     have hq:=hun1 (fun e =>hc ⟨rfl,e⟩)
     clear hx hm hrx hnx hlast hun1 hun2 e1 hc
     go_wp2
     exact ⟨⟨j,by omega,by go_num,HLA.out,_,rfl⟩,by simp [intOf] <;> omega⟩
    ·have d1:decide (k=1)=false:=decide_eq_false hk
     clear hx hm hrx hnx hlast hun1 hun2 e1 hc
     have d2:(k == 1)=false:=by rw [beq_eq_false_iff_ne];exact hk
     go_wp2
     exact ⟨⟨j,by omega,by go_num,HLA.out,_,rfl⟩,by simp [intOf] <;> omega⟩
def zQb:Rc:=⟨0,[],0,0,0,[]⟩
def FAns (xs:List Rw) (u:List UInt8) (r:Rc) (l:List Dp) (b:Bool):Prop :=
 b=(zAu xs u).isSome∧(r,l)=match zAu xs u with | some x =>x.say | none =>(zQb,[])
theorem zLu {xs:List Rw} {u:List UInt8} {x:Rw} (h:zAu xs u=some x):x ∈ xs:=by
 have:=List.mem_of_find?_eq_some h
 simpa using this
def FUni (xs:List Rw) (u:List UInt8) (w:World) (e:Ending) (w':World):Prop :=
 ∃ (r:Rc) (A:Option Addr) (n c:Nat) (l:List Dp) (b:Bool),FAns xs u r l b∧e=.returned (.tuple #[rcv r A n c,.bool b])∧n≤1000000∧zAD w' w'.heap.size 3 A n (dps l)∧Below w.heap.size w w'
end Go.Proofs.YtekchkfjgofnkaaGreatDoor
