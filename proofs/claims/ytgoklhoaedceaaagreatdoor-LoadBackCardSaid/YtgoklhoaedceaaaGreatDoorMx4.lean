/- Texts of one proof. -/
import Derived.ChangeAlike
import Derived.Laws.BitsLemmas
import Derived.Laws.Runes
import Derived.Lib.ConvBytes
import Derived.Maps.OwnSet
import Derived.Shelf.SlMaps.Clone
import Derived.Test.YtgoklhoaedceaaaGreatDoorMx3
set_option maxRecDepth 100000
set_option maxHeartbeats 8000000
namespace Go.Proofs.YtgoklhoaedceaaaGreatDoor
open Go.RowKit
def itv (all:Bool):Value:=.func (.func (if all then 91 else 92)) #[] #[]
theorem zJn (w:World):Calls Tryz.prog 71 #[.string { data:=#[45] }] w fun e w' =>e=.returned (.func (.func 91) #[] #[])∧w=w':=by
 go_enter Tryz.func71,Tryz.ntmps71
 go_wp2
 go_ret
 exact ⟨rfl,rfl⟩
theorem zAo (l k:List UInt8):((tx l).toList == k)=decide (l=k):=by rw [zAg,Bool.eq_iff_iff];simp
theorem zJo (l:List UInt8) (hs:l≠[45]) (w:World):Calls Tryz.prog 71 #[.string (tx l)] w fun e w' =>e=.returned (.func (.func 92) #[] #[])∧w=w':=by
 have h1:((tx l).toList == [45])=false:=by rw [zAo,decide_eq_false hs]
 go_enter Tryz.func71,Tryz.ntmps71
 go_wp2
 go_ret
 exact ⟨rfl,rfl⟩
theorem zJG (b:UInt8) (w:World):Calls Tryz.prog 91 #[.int .u8 (b.toNat:Int)] w fun e w' =>e=.returned (.bool false)∧w=w':=by
 go_enter Tryz.func91,Tryz.ntmps91
 go_wp2
 go_ret
 exact ⟨rfl,rfl⟩
theorem zFo (b:UInt8) (w:World):Calls Tryz.prog 92 #[.int .u8 (b.toNat:Int)] w fun e w' =>e=.returned (.bool (okb b))∧w=w':=by
 have hb:=b.toNat_lt
 unfold okb
 generalize b.toNat=n at *
 by_cases h:33≤n∧n≤126∧n≠92
 ·rw [decide_eq_true h]
  obtain ⟨h1,h2,h3⟩:=h
  have k3:((n:Int) == 92)=false:=by simp;omega
  have k4:((n:Int) != 92)=true:=by simp;omega
  go_enter Tryz.func92,Tryz.ntmps92
  go_wp2
  go_ret
  exact ⟨rfl,rfl⟩
 ·rw [decide_eq_false h]
  by_cases h1:33≤n
  ·by_cases h2:n≤126
   ·obtain rfl:n=92:=by omega
    go_enter Tryz.func92,Tryz.ntmps92
    go_wp2
    go_ret
    exact ⟨rfl,rfl⟩
   ·go_enter Tryz.func92,Tryz.ntmps92
    go_wp2
    go_ret
    exact ⟨rfl,rfl⟩
  ·go_enter Tryz.func92,Tryz.ntmps92
   go_wp2
   go_ret
   exact ⟨rfl,rfl⟩
theorem zKf (m:Nat) (hm:m<16) (hp:m<({ data:=#[48,49,50,51,52,53,54,55,56,57,97,98,99,100,101,102] }:ByteArray).size) :
  Value.int .u8 (((({ data:=#[48,49,50,51,52,53,54,55,56,57,97,98,99,100,101,102] }:ByteArray)[m]'hp).toNat:Nat):Int)=bv (dig m):=by
 have h:∀ k:Fin 16,((({ data:=#[48,49,50,51,52,53,54,55,56,57,97,98,99,100,101,102] }:ByteArray)[k.val]'(by have:=k.isLt;exact this)).toNat:Nat)=(dig k.val).toNat:=by decide
 exact congrArg (fun x:Nat =>Value.int .u8 (x:Int)) (h ⟨m,hm⟩)
theorem zBa (z:Int) (m:Nat) (hz:z=(m:Int)) (hm:m<16) (v:World) (B:Result Value) (hp:∀ _:0≤z∧z<16,z.toNat<({ data:=#[48,49,50,51,52,53,54,55,56,57,97,98,99,100,101,102] }:ByteArray).size) :
  ((if h:0≤z∧z<16 then Result.ok (Value.int .u8 (((({ data:=#[48,49,50,51,52,53,54,55,56,57,97,98,99,100,101,102] }:ByteArray)[z.toNat]'(hp h)).toNat:Nat):Int)) v else B).andThen fun a w' =>Result.ok (Next.value a) w')=Result.ok (Next.value (bv (dig m))) v:=by
 subst hz
 rw [dif_pos ⟨by omega,by omega⟩]
 have h1:=zKf m hm (by simp [ByteArray.size];omega)
 simp only [Int.toNat_natCast,h1,Result.andThen]
theorem zDA (W:World) (e:TypeId) (x y z:UInt8):zAE (W.alloc (.cells #[bv x,bv y,bv z] e)) (W.heap.size+1) 1 (some ⟨W.heap.size,0,none⟩) 3 ([x,y,z].map bv) :=
 ⟨rfl,fun _ =>⟨_,rfl,by simp,fun j u hu =>by
  match j with
  | 0 =>
   have hu':bv x=u:=by simpa using hu
   subst hu'
   simp [Addr.add]
  | 1 =>
   have hu':bv y=u:=by simpa using hu
   subst hu'
   simp [Addr.add]
  | 2 =>
   have hu':bv z=u:=by simpa using hu
   subst hu'
   simp [Addr.add]
  | j+3 =>simp at hu⟩⟩
theorem zKW:(Tryz.prog.info? 5).map (fun i =>(i.zero,i.size,i.bytes))=some (some (.int .u8 0),1,1):=by kernel_rfl
def Bx (w:World) (base bx G:Nat) (acc:List UInt8):Prop :=
 base≤bx∧∃ v,w.heap[bx]? = some (.cells #[v] 59 (0,0))∧w.ownsRow base 5 1 v acc.length (acc.map bv)∧∀ g,v.ownBlock=some g→g≠G
theorem Bx.below {w w':World} {base bx G:Nat} {acc:List UInt8} (h:Bx w base bx G acc) (hb:Below w.heap.size w w'):Bx w' base bx G acc:=by
 obtain ⟨h0,v,h1,h2,h3⟩:=h
 exact ⟨h0,v,(hb.block bx (Array.getElem?_eq_some_iff.1 h1).1).trans h1,zAb h2 hb,h3⟩
theorem Bx.lt {w:World} {base bx G:Nat} {acc:List UInt8} (h:Bx w base bx G acc):bx<w.heap.size:=by
 obtain ⟨h0,v,h1,h2,h3⟩:=h
 exact (Array.getElem?_eq_some_iff.1 h1).1
theorem zJr (base bx G:Nat) (acc xs:List UInt8) (A:Option Addr) (n c:Nat) (hn:n≤10) (hacc:acc.length≤1000000) (hG:G≠bx) (w:World) (hGl:G<w.heap.size) (hB:Bx w base bx G acc) (hA:A=none→c=0) (hr:zAE w w.heap.size 1 A n (xs.map bv)) :
  Calls Tryz.prog 72 #[.slice A n c,.pointer (some ⟨bx,0,none⟩)] w fun e w' =>e=.returned (.tuple #[])∧Bx w' base bx G (acc++xs)∧Turn (fun k =>base≤k∧k≠G) w w':=by
 obtain ⟨i0,hi,hz0,hz1,hz2⟩:=info_parts zKW
 have hln:xs.length=n:=by have:=hr.1;simpa using this
 obtain ⟨h0,v,h1,h2,h3⟩:=hB
 have q0:=zAA (i:=0) h1 rfl
 have hlt:=(Array.getElem?_eq_some_iff.1 h1).1
 have hne:v.ownBlock≠some bx:=zBS h2 h1 (by decide)
 have H1:=yh h1
 have H2:=yh h2
 have H3:=yh h3
 have HNE:=yh hne
 have HLN:=yh hln
 have HR:=yh hr
 have hbase:base≤w.heap.size:=by omega
 clear h1 h2 h3 hne hln hr
 go_enter Tryz.func72,Tryz.ntmps72
 go_wp2_with (at_builtin;refine zBI _ rfl (.tmp 3) (.tmp 4) 59 rfl base 5 i0 _ 1 1 Tryz.underlying59 hi hz0 hz1 hz2 rfl (by decide) _ acc.length _ rfl H2.out A n c w.heap.size (xs.map bv) rfl hA HR.out (zLL xs) (by unfold maxLen;omega) (by omega) hbase ?_;intro v1 w1 ho1 hg1 hv1;obtain ⟨A1,c1,rfl,_⟩:=zAL ho1;have hb1:w1.heap[bx]? = some (.cells #[v] 59 (0,0)):=(hg1.block bx hlt (fun e =>HNE.out e.symm)).trans H1.out;have p0:=zAA (i:=0) hb1 rfl;have y0:=zAC (i:=0) hb1;have HO1:=yh ho1;have HG1:Hid (w.grownBy w1 v.ownBlock):=hg1;have HV1:Hid ((Value.slice A1 (acc.length+n) c1).ownBlock=v.ownBlock∨(Value.slice A1 (acc.length+n) c1).ownBlock=some w.heap.size):=hv1;have HB1:=yh hb1;clear ho1 hg1 hv1 hb1)
 go_end0
 have hne1:=zBS HO1.out HB1.out (by decide)
 refine ⟨rfl,⟨h0,_,zAD HB1.out 0 _,?_,fun g hg e =>?_⟩,?_⟩
 ·have:=zAs HO1.out (w':=w1.setCell ⟨bx,0,none⟩ (.slice A1 (acc.length+n) c1)) (fun g hg =>Below.heap_setCell _ _ _ g (fun e =>hne1 (by rw [hg];exact congrArg some e)))
  rw [List.map_append,List.length_append,HLN.out]
  exact this
 ·subst e
  rcases HV1.out with h | h
  ·exact H3.out g (h.symm.trans hg) rfl
  ·rw [h] at hg
   have:w.heap.size=g:=Option.some.inj hg
   omega
 ·refine ((Turn.refl _ w).grown HG1.out (fun i e hi =>?_)).setCell bx 0 _ ⟨h0,fun e =>hG e.symm⟩
  exact ⟨zAS H2.out i e,H3.out i e⟩
theorem zGr (w:World) (l:List UInt8):∃ (X:World) (cap:Nat),(convert 9 59 (.string (tx l))).run Tryz.prog w=.ok (.slice (some ⟨w.heap.size,0,none⟩) l.length cap) X∧Below w.heap.size w X∧X.heap.size=w.heap.size+1∧∀ (k:Nat) (b:UInt8),l[k]? = some b→X.cell? ⟨w.heap.size,k,none⟩=some (bv b):=by
 have hcv:=Lib.run_convert_string_bytes (P:=Tryz.prog) w 9 59 5 (tx l) Tryz.underlying9 Tryz.underlying59 Tryz.underlying5
 rw [zAK] at hcv
 refine ⟨_,_,hcv,⟨rfl,rfl,rfl,by rw [Lib.bytesWorld_size];omega,fun k hk =>Lib.bytesWorld_at_old w _ _ k hk⟩,Lib.bytesWorld_size _ _ _,fun k b hk =>?_⟩
 have hlt:k<l.length:=(List.getElem?_eq_some_iff.1 hk).1
 have hn:=Lib.bytesWorld_at_new w 5 (tx l)
 have hc:(Lib.bytesCells w 5 (tx l))[k]? = some (bv b):=by
  unfold Lib.bytesCells
  rw [Array.getElem?_append_left (by simp [tx];exact hlt)]
  have h2:l[k]=b:=by rw [List.getElem?_eq_getElem hlt] at hk;exact Option.some.inj hk
  simp [tx,hlt,h2,bv]
 simp [World.cell?,hn,hc]
def WRel (all:Bool) (l acc:List UInt8) (base bx G:Nat) (X:World) (idx:Value) (wr:World):Prop :=
 ∃ i:Nat,i≤l.length∧idx=.int .i64 (i:Int)∧Bx wr base bx G (acc++(l.take i).flatMap (sgn all))∧Turn (fun k =>base≤k∧k≠G) X wr
theorem zFU {all:Bool} {l:List UInt8} {i:Nat} {b:UInt8} (h:l[i]? = some b):(l.take (i+1)).flatMap (sgn all)=(l.take i).flatMap (sgn all)++sgn all b:=by
 rw [List.take_add_one,h,List.flatMap_append];simp
theorem zIF (all:Bool) (fn:Nat) (hfn:fn=if all then 91 else 92) (l acc:List UInt8) (hl:l.length≤5000) (hacc:acc.length≤5000) (base bx:Nat) (w:World) (hB:Bx w base bx w.heap.size acc) :
  Calls Tryz.prog 70 #[.string (tx l),.func (.func fn) #[] #[],.func (.func 72) #[] #[.pointer (some ⟨bx,0,none⟩)]] w fun e w' =>e=.returned (.tuple #[])∧Bx w' base bx w.heap.size (acc++l.flatMap (sgn all))∧Below base w w':=by
 obtain ⟨X,cap,hcv,hbX,hXs,hcell⟩:=zGr w l
 have hbx:=hB.lt
 have hbase:=hB.1
 have HBX:=yh (hB.below hbX)
 obtain ⟨n,hn⟩:∃ n,n=l.length:=⟨_,rfl⟩
 rw [← hn] at hcv hl
 have HN:=yh hn
 have HXS:=yh hXs
 have HBL:=yh hbX
 have HC:=yh hcell
 have HFN:=yh hfn
 clear hfn hB hn hXs hbX hcell
 go_enter Tryz.func70,Tryz.ntmps70
 go_wp2
 clear hcv
 go_loopw [11] (fun idx wr =>WRel all l acc base bx w.heap.size X idx wr) (fun idx wr =>n - (intOf idx).toNat)
 case atStart =>exact ⟨0,by omega,rfl,by simpa using HBX.out,Turn.refl _ _⟩
 case round =>
  obtain ⟨i,hi,rfl,hbx2,htu⟩:=hrel
  rw [← HN.out] at hi
  by_cases hlt:i<n
  ·obtain ⟨b,hb⟩:∃ b,l[i]? = some b:=⟨_,List.getElem?_eq_getElem (by rw [← HN.out];exact hlt)⟩
   have hsz:w.heap.size<wr.heap.size:=by have h1:=htu.2.2.2.1;rw [HXS.out] at h1;omega
   have k0:wr.cell? ⟨w.heap.size,i,none⟩=some (bv b):=by
    have h1:=htu.2.2.2.2 w.heap.size (by rw [HXS.out];omega) (fun h =>h.2 rfl)
    have h2:=HC.out i b hb
    unfold World.cell? at h2 ⊢
    rw [h1]
    exact h2
   have HS:=yh (zFU (all:=all) hb)
   have hfl:((l.take i).flatMap (sgn all)).length≤15000:=by
    have h1:=zDp all (l.take i)
    rw [List.length_take] at h1
    omega
   have HPUT:Hid (∀ (W:World) (xs:List UInt8) (A:Option Addr) (m c:Nat),m≤10→Below wr.heap.size wr W→(A=none→c=0)→zAE W W.heap.size 1 A m (xs.map bv)→sgn all b=xs →
     Calls Tryz.prog 72 #[.slice A m c,.pointer (some ⟨bx,0,none⟩)] W fun e w' =>e=.returned (.tuple #[])∧Bx w' base bx w.heap.size (acc++(l.take (i+1)).flatMap (sgn all))∧Turn (fun k =>base≤k∧k≠w.heap.size) X w'):=fun W xs A m c hm hb hA hr hx =>by
    refine (zJr base bx w.heap.size _ xs A m c hm (by rw [List.length_append];omega) (by omega) W (by have:=hb.size;omega) (hbx2.below hb) hA hr).mono fun e w' h =>⟨h.1,?_,?_⟩
    ·rw [HS.out,hx,← List.append_assoc];exact h.2.1
    ·exact (htu.trans (Turn.of_below hb) (fun _ _ h =>h)).trans h.2.2 (fun _ _ h =>h)
   have hi0:(0:Int)≤(i:Int):=by omega
   have hi1:(i:Int)<(n:Int):=by omega
   unfold bv at k0
   have HK:=yh hb
   clear hb hbx2 htu HC hfl HS HBX
   have hb8:=b.toNat_lt
   by_cases h:all=false∧okb b=true
   ·obtain ⟨rfl,hok⟩:=h
    have hfn:=HFN.out
    rw [if_neg (by decide)] at hfn
    subst hfn
    have hself:=fun W =>zFo b W
    rw [hok] at hself
    have HSELF:=yh hself
    have HPU:=yh (HPUT.out (wr.alloc (.cells #[bv b] 5)) [b] (some ⟨wr.heap.size,0,none⟩) 1 1 (by omega) ((Below.refl _ _).alloc (Nat.le_refl _) _) (fun h =>by cases h) (by have h1:=zDv wr 5 b;rw [show (wr.alloc (.cells #[bv b] 5)).heap.size=wr.heap.size+1 by simp];exact h1) (zCB hok))
    unfold bv at HPU
    clear hself HPUT hok
    go_wp2_with (first
     | (go_at_call 92;refine (HSELF.out _).mono ?_;rintro e w3 ⟨rfl,rfl⟩)
     | (go_at_call 72;refine HPU.out.mono ?_;rintro e w4 ⟨rfl,hb4,ht4⟩;have HB4:=yh hb4;have HT4:=yh ht4;clear hb4 ht4))
    exact ⟨⟨i+1,by rw [← HN.out];omega,by go_num,HB4.out,HT4.out⟩,by simp [intOf];omega⟩
   ·have HX:=HPUT.out
    rw [zBk h] at HX
    have HSELF:Hid (∀ W,Calls Tryz.prog fn #[.int .u8 (b.toNat:Int)] W fun e w' =>e=.returned (.bool false)∧W=w'):=fun W =>by
     have hfn:=HFN.out
     cases all with
     | true =>rw [if_pos rfl] at hfn;subst hfn;exact zJG b W
     | false =>
      rw [if_neg (by decide)] at hfn
      subst hfn
      have:=zFo b W
      rwa [show okb b=false from by simpa using h] at this
    have H16:=fun W =>HX W [92,dig (b.toNat / 16),dig (b.toNat % 16)] (some ⟨wr.heap.size,0,none⟩) 3 3 (by omega)
    clear HPUT HX h
    have h12:fn=91∨fn=92:=by
     have hfn:=HFN.out
     cases all with
     | true =>rw [if_pos rfl] at hfn;exact .inl hfn
     | false =>rw [if_neg (by decide)] at hfn;exact .inr hfn
    clear HFN
    rcases h12 with rfl | rfl
    ·go_wp2_with fail
     refine (HSELF.out _).mono ?_
     rintro e w3 ⟨rfl,rfl⟩
     go_wp2_with fail
     refine wp_region_held (S:=fun _ =>True) (by kernel_rfl) ?_
     refine zAB 0 (.func (.func 72) #[] #[.pointer (some ⟨bx,0,none⟩)]) rfl (by kernel_rfl) (by kernel_rfl) (by kernel_rfl) (fun _ _ _ h =>h) (by kernel_rfl) trivial (fun _ _ =>by kernel_rfl) ?_
     refine zAB 1 (.int .u8 (b.toNat:Int)) rfl (by kernel_rfl) (by kernel_rfl) (by kernel_rfl) (fun _ _ _ h =>h) (by kernel_rfl) trivial (fun _ _ =>by kernel_rfl) ?_
     refine zAB 2 (.int .u8 ((b.toNat / 16:Nat):Int)) rfl (by kernel_rfl) (by kernel_rfl) (by kernel_rfl) (fun _ _ _ h =>h) (by kernel_rfl) trivial (by intro v hv;go_simp) ?_
     refine zAB 3 (.int .u8 ((dig (b.toNat / 16)).toNat:Int)) rfl (by kernel_rfl) (by kernel_rfl) (by kernel_rfl) (fun _ _ _ h =>h) (by kernel_rfl) trivial (by intro v hv;go_simp;exact zBa _ _ (by omega) (by omega) _ _ _) ?_
     refine zAB 4 (.int .u8 (b.toNat:Int)) rfl (by kernel_rfl) (by kernel_rfl) (by kernel_rfl) (fun _ _ _ h =>h) (by kernel_rfl) trivial (fun _ _ =>by kernel_rfl) ?_
     refine zAB 5 (.int .u8 ((b.toNat % 16:Nat):Int)) rfl (by kernel_rfl) (by kernel_rfl) (by kernel_rfl) (fun _ _ _ h =>h) (by kernel_rfl) trivial (by intro v hv;go_simp;exact u8_and15 _ (by omega) (by omega)) ?_
     refine zAB 6 (.int .u8 ((dig (b.toNat % 16)).toNat:Int)) rfl (by kernel_rfl) (by kernel_rfl) (by kernel_rfl) (fun _ _ _ h =>h) (by kernel_rfl) trivial (by intro v hv;go_simp;exact zBa _ _ (by omega) (by omega) _ _ _) ?_
     refine zAJ 7 rfl (by kernel_rfl) (by kernel_rfl) (fun K hK =>?_)
     go_simp
     refine hK _ _ trivial ?_
     clear hK K
     refine zAJ 8 rfl (by kernel_rfl) (by kernel_rfl) (fun K hK =>?_)
     go_simp
     refine (H16 _ (((Below.refl _ wr).drew).alloc (Nat.le_refl _) _) (fun h =>by cases h) ((zDA wr.drew 5 92 (dig (b.toNat / 16)) (dig (b.toNat % 16))).more (by simp)) (by trivial)).mono ?_
     rintro e w4 ⟨rfl,hb4,ht4⟩
     have HB4:=yh hb4
     have HT4:=yh ht4
     clear hb4 ht4
     refine hK _ _ trivial ?_
     clear hK K
     refine wpAnyH_done (by kernel_rfl) ?_ _
     go_simp
     go_wp2
     exact ⟨⟨i+1,by rw [← HN.out];omega,by go_num,HB4.out,HT4.out⟩,by simp [intOf];omega⟩
    ·go_wp2_with fail
     refine (HSELF.out _).mono ?_
     rintro e w3 ⟨rfl,rfl⟩
     go_wp2_with fail
     refine wp_region_held (S:=fun _ =>True) (by kernel_rfl) ?_
     refine zAB 0 (.func (.func 72) #[] #[.pointer (some ⟨bx,0,none⟩)]) rfl (by kernel_rfl) (by kernel_rfl) (by kernel_rfl) (fun _ _ _ h =>h) (by kernel_rfl) trivial (fun _ _ =>by kernel_rfl) ?_
     refine zAB 1 (.int .u8 (b.toNat:Int)) rfl (by kernel_rfl) (by kernel_rfl) (by kernel_rfl) (fun _ _ _ h =>h) (by kernel_rfl) trivial (fun _ _ =>by kernel_rfl) ?_
     refine zAB 2 (.int .u8 ((b.toNat / 16:Nat):Int)) rfl (by kernel_rfl) (by kernel_rfl) (by kernel_rfl) (fun _ _ _ h =>h) (by kernel_rfl) trivial (by intro v hv;go_simp) ?_
     refine zAB 3 (.int .u8 ((dig (b.toNat / 16)).toNat:Int)) rfl (by kernel_rfl) (by kernel_rfl) (by kernel_rfl) (fun _ _ _ h =>h) (by kernel_rfl) trivial (by intro v hv;go_simp;exact zBa _ _ (by omega) (by omega) _ _ _) ?_
     refine zAB 4 (.int .u8 (b.toNat:Int)) rfl (by kernel_rfl) (by kernel_rfl) (by kernel_rfl) (fun _ _ _ h =>h) (by kernel_rfl) trivial (fun _ _ =>by kernel_rfl) ?_
     refine zAB 5 (.int .u8 ((b.toNat % 16:Nat):Int)) rfl (by kernel_rfl) (by kernel_rfl) (by kernel_rfl) (fun _ _ _ h =>h) (by kernel_rfl) trivial (by intro v hv;go_simp;exact u8_and15 _ (by omega) (by omega)) ?_
     refine zAB 6 (.int .u8 ((dig (b.toNat % 16)).toNat:Int)) rfl (by kernel_rfl) (by kernel_rfl) (by kernel_rfl) (fun _ _ _ h =>h) (by kernel_rfl) trivial (by intro v hv;go_simp;exact zBa _ _ (by omega) (by omega) _ _ _) ?_
     refine zAJ 7 rfl (by kernel_rfl) (by kernel_rfl) (fun K hK =>?_)
     go_simp
     refine hK _ _ trivial ?_
     clear hK K
     refine zAJ 8 rfl (by kernel_rfl) (by kernel_rfl) (fun K hK =>?_)
     go_simp
     refine (H16 _ (((Below.refl _ wr).drew).alloc (Nat.le_refl _) _) (fun h =>by cases h) ((zDA wr.drew 5 92 (dig (b.toNat / 16)) (dig (b.toNat % 16))).more (by simp)) (by trivial)).mono ?_
     rintro e w4 ⟨rfl,hb4,ht4⟩
     have HB4:=yh hb4
     have HT4:=yh ht4
     clear hb4 ht4
     refine hK _ _ trivial ?_
     clear hK K
     refine wpAnyH_done (by kernel_rfl) ?_ _
     go_simp
     go_wp2
     exact ⟨⟨i+1,by rw [← HN.out];omega,by go_num,HB4.out,HT4.out⟩,by simp [intOf];omega⟩
  ·obtain rfl:i=n:=by omega
   rw [List.take_of_length_le (by rw [← HN.out];omega)] at hbx2
   have HB2:=yh hbx2
   have HT2:=yh (Turn.below (n0:=base) htu (fun _ h =>h.1) (by rw [HXS.out];omega))
   clear hbx2 htu
   go_wp2
   go_end0
   exact ⟨rfl,HB2.out,(HBL.out.mono (by omega)).trans HT2.out⟩
theorem zBV (l:List UInt8):(tx l).toList.isEmpty=decide (l=[]):=by rw [zAg];cases l <;> simp
theorem zDQ (l:List UInt8) (hl:l.length≤5000) (w:World) :
  Calls Tryz.prog 41 #[.string (tx l)] w fun e w' =>e=.returned (.string (tx (eput l)))∧Below w.heap.size w w':=by
 by_cases h0:l=[]
 ·subst h0
  have h1:(tx []).toList.isEmpty=true:=by rw [zBV];decide
  go_enter Tryz.func41,Tryz.ntmps41
  go_wp2
  go_ret
  exact ⟨rfl,Below.refl _ _⟩
 ·have h1:(tx l).toList.isEmpty=false:=by rw [zBV,decide_eq_false h0]
  have h2:(!(tx l).toList.isEmpty)=true:=by rw [h1];rfl
  obtain ⟨all,hall⟩:∃ all,all=decide (l=[45]):=⟨_,rfl⟩
  have hit:Hid (∀ W,Calls Tryz.prog 71 #[.string (tx l)] W fun e w' =>e=.returned (itv all)∧W=w'):=fun W =>by
   by_cases h:l=[45]
   ·rw [hall,decide_eq_true h];subst h;exact zJn W
   ·rw [hall,decide_eq_false h];exact zJo l h W
  have hb0:=(Below.refl w.heap.size w).alloc (Nat.le_refl _) (.cells #[.slice none 0 0] 59)
  have hn:=zAI w (.cells #[.slice none 0 0] 59)
  have hwr:Hid (Calls Tryz.prog 70 #[.string (tx l),itv all,.func (.func 72) #[] #[.pointer (some ⟨w.heap.size,0,none⟩)]] (w.alloc (.cells #[.slice none 0 0] 59)) fun e w' =>e=.returned (.tuple #[])∧Bx w' w.heap.size w.heap.size (w.alloc (.cells #[.slice none 0 0] 59)).heap.size ([]++l.flatMap (sgn all))∧Below w.heap.size (w.alloc (.cells #[.slice none 0 0] 59)) w'):=by
   unfold itv
   exact zIF all _ rfl l [] hl (by simp) w.heap.size w.heap.size _ ⟨Nat.le_refl _,_,hn,World.ownsRow_nil _ _ _ _,fun g hg =>by simp [Value.ownBlock] at hg⟩
  have hfin0:eput l=[]++l.flatMap (sgn all):=by unfold eput;rw [if_neg h0,hall];rfl
  rw [← hfin0] at hwr
  generalize eput l=ac at hwr ⊢
  have HB0:=yh hb0
  have hmf:∀ (fn:Fn) (first cap:Array Value) (w:World),(Instr.makeFunc fn first cap).run Tryz.prog w=.ok (.func fn first cap) w:=fun _ _ _ _ =>rfl
  unfold itv at hit hwr
  generalize hfv:(Value.func (.func (if all=true then 91 else 92)) #[] #[])=fv at hit hwr
  clear hb0 hn h0 hall hfv hfin0
  go_enter Tryz.func41,Tryz.ntmps41
  go_wp2_with (first
   | (go_at_call 71;refine (hit.out _).mono ?_;rintro e w3 ⟨rfl,rfl⟩)
   | (go_at_call 70;refine hwr.out.mono ?_;rintro e w4 ⟨rfl,hb4,ht4⟩;obtain ⟨_,v4,hh4,ho4,_⟩:=hb4;have p0:=zAA (i:=0) hh4 rfl;obtain ⟨A4,c4,rfl,_⟩:=zAL ho4;have HR4:=yh (zAE.of_own ho4);have HT4:=yh ht4;have hcv:=zBK (P:=Tryz.prog) (src:=59) (dst:=9) (c:=c4) Tryz.underlying59 Tryz.underlying5 Tryz.underlying9 HR4.out;clear hh4 ho4 ht4))
  go_ret
  exact ⟨rfl,HB0.out.trans HT4.out⟩
theorem zDl {P:Program} (t t2 e e2 ty:TypeId) (v x:Value) (w:World) (hv:∃ b n c,v=.slice b n c) (h:P.underlying t=some (.slice e)) (h2:P.underlying t2=some (.slice e2)) :
  (Builtin.append_ #[t,t2] ty #[v,x]).run P w=(Builtin.append_ #[t,t] ty #[v,x]).run P w:=by
 obtain ⟨b,n,c,rfl⟩:=hv
 unfold Builtin.append_
 simp only [List.getElem?_toArray,List.getElem?_cons_zero,List.getElem?_cons_succ,Sem.run_bind,run_underlying h,Result.andThen_ok]
 cases hz:(sizeOf e).run P w with
 | ok q w2 =>simp [Result.andThen,Sem.run_bind,run_underlying h2]
 | halt q w2 =>simp [Result.andThen]
theorem zFw {P:Program} {w:World} {o:Oper} {a:Act} {K:Act→World→Prop} {Q:Exit→Act→World→Prop} (s x:Operand) (t t2 e2:TypeId) (ht2:P.underlying t2=some (.slice e2))
  (ho:o.op=.call { callee:=.builtin .append,args:=#[s,x],argTypes:=#[t,t2] })
  (base:Nat) (e:TypeId) (i:TypeInfo) (z:Value) (size bytes:Nat) (ht:P.underlying t=some (.slice e)) (hi:P.info? e=some i) (hz:i.zero=some z)
  (hsize:i.size=size) (hby:i.bytes=bytes) (hzs:z.cells.size=size) (hsz:0<size)
  (v:Value) (n:Nat) (xs:List Value) (hs:a.eval s=v) (hown:w.ownsRow base e size v n xs)
  (A:Option Addr) (m c B:Nat) (news:List Value) (hx:a.eval x=.slice A m c) (hA:A=none→c=0) (hr:zAE w B size A m news) (h1:∀ u ∈ news,u.oneCell'=true)
  (h63:n+m≤maxLen) (hbytes:(n+m) * bytes≤140737488355328) (hbase:base≤w.heap.size)
  (h:∀ v' w',w'.ownsRow base e size v' (n+m) (xs++news)→w.grownBy w' v.ownBlock→(v'.ownBlock=v.ownBlock∨v'.ownBlock=some w.heap.size)→K (a.put o.dst v') w'):o.wp P a w K Q:=by
 cases A with
 | none =>
  have hm:m=0:=by
   rcases Nat.eq_zero_or_pos m with h0 | h0
   ·exact h0
   ·obtain ⟨ad,e,_⟩:=hr.2 h0
    cases e
  subst hm
  have hc:=hA rfl
  subst hc
  have hnews:news=[]:=List.eq_nil_of_length_eq_zero (by have:=hr.1;simpa using this)
  subst hnews
  have hrun:=(zDl t t2 e e2 o.type v (.slice none 0 0) w (by obtain ⟨A,c,e,_⟩:=zAL hown;exact ⟨A,n,c,e⟩) ht ht2).trans (run_append_owned_none (P:=P) (w:=w) base t o.type e i size ht hi v n xs hown)
  unfold Oper.wp
  simp [execOp,ho,resolve,invoke,builtin,hs,hx,hrun,Result.andThen]
  exact h v w (by simpa using hown) (World.grownBy.refl w _) (.inl rfl)
 | some ad =>
  obtain ⟨v',w',hr',h2,h3,_,h5⟩:=run_append_own_at (P:=P) w base t o.type e i z size bytes ht hi hz hsize hby hzs hsz v n xs hown ad m c news hr.1 (by
   intro j u hu
   by_cases h0:0<m
   ·obtain ⟨ad',e,_,hc⟩:=hr.2 h0
    cases e
    exact hc j u hu
   ·have hl:=hr.1
    have:=(List.getElem?_eq_some_iff.1 hu).1
    have h00:m=0:=by omega
    subst h00
    omega) h1 h63 hbytes hbase
  have hr'':=(zDl t t2 e e2 o.type v (.slice (some ad) m c) w (by obtain ⟨A,c,e,_⟩:=zAL hown;exact ⟨A,n,c,e⟩) ht ht2).trans hr'
  unfold Oper.wp execOp
  simp only [ho,resolve,invoke,builtin,Sem.run_bind,Sem.run_pure,Result.andThen_ok,List.map_toArray,List.map_cons,List.map_nil,hs,hx,hr'']
  exact h v' w' h2 h3 h5
theorem zEI {P:Program} (w:World) {ops:Array Oper} {rest:List Oper} {o:Oper} {a:Act} {Q:Exit→Act→World→Prop} (hgd:o.guard=none) (s x:Operand) (t t2 e2:TypeId) (ht2:P.underlying t2=some (.slice e2))
  (ho:o.op=.call { callee:=.builtin .append,args:=#[s,x],argTypes:=#[t,t2] })
  (base:Nat) (e:TypeId) (i:TypeInfo) (z:Value) (size bytes:Nat) (ht:P.underlying t=some (.slice e)) (hi:P.info? e=some i) (hz:i.zero=some z)
  (hsize:i.size=size) (hby:i.bytes=bytes) (hzs:z.cells.size=size) (hsz:0<size)
  (v:Value) (n:Nat) (xs:List Value) (hs:a.eval s=v) (hown:w.ownsRow base e size v n xs)
  (A:Option Addr) (m c B:Nat) (news:List Value) (hx:a.eval x=.slice A m c) (hA:A=none→c=0) (hr:zAE w B size A m news) (h1:∀ u ∈ news,u.oneCell'=true)
  (h63:n+m≤maxLen) (hbytes:(n+m) * bytes≤140737488355328) (hbase:base≤w.heap.size)
  (h:∀ v' w',w'.ownsRow base e size v' (n+m) (xs++news)→w.grownBy w' v.ownBlock→(v'.ownBlock=v.ownBlock∨v'.ownBlock=some w.heap.size)→wpList P ops Q rest (a.put o.dst v') w'):wpList P ops Q (o :: rest) a w:=by
 refine wpList_plain hgd fun K hK =>?_
 exact zFw s x t t2 e2 ht2 ho base e i z size bytes ht hi hz hsize hby hzs hsz v n xs hs hown A m c B news hx hA hr h1 h63 hbytes hbase (fun v' w' a b c =>hK _ _ (h v' w' a b c))
theorem zLo:(Tryz.prog.info? 9).map (fun i =>(i.zero,i.size,i.bytes))=some (some (.string ⟨#[]⟩),1,16):=by kernel_rfl
def Gx (w:World) (base g:Nat) (ws:List (List UInt8)):Prop :=
 base≤g∧∃ v,w.heap[g]? = some (.cells #[v] 83 (0,0))∧w.ownsRow base 9 1 v ws.length (ws.map tsv)
theorem Gx.below {w w':World} {base g:Nat} {ws:List (List UInt8)} (h:Gx w base g ws) (hb:Below w.heap.size w w'):Gx w' base g ws:=by
 obtain ⟨h0,v,h1,h2⟩:=h
 exact ⟨h0,v,(hb.block g (Array.getElem?_eq_some_iff.1 h1).1).trans h1,zAb h2 hb⟩
theorem zGo (base g:Nat) (ws xs:List (List UInt8)) (A:Option Addr) (n c:Nat) (hn:n≤10) (hws:ws.length≤1000) (w:World) (hB:Gx w base g ws) (hA:A=none→c=0) (hr:zAE w w.heap.size 1 A n (xs.map tsv)) :
  Calls Tryz.prog 40 #[.pointer (some ⟨g,0,none⟩),.slice A n c] w fun e w' =>e=.returned (.tuple #[])∧Gx w' base g (ws++xs)∧Below base w w'∧∀ (k:Nat) (cs:Array Value) (t:TypeId) (f:Nat×Nat),w.heap[k]? = some (.cells cs t f)→9≠t→k≠g→w'.heap[k]? = some (.cells cs t f):=by
 obtain ⟨i0,hi,hz0,hz1,hz2⟩:=info_parts zLo
 have hln:xs.length=n:=by have:=hr.1;simpa using this
 obtain ⟨h0,v,h1,h2⟩:=hB
 have q0:=zAA (i:=0) h1 rfl
 have hlt:=(Array.getElem?_eq_some_iff.1 h1).1
 have hne:v.ownBlock≠some g:=zBS h2 h1 (by decide)
 have H1:=yh h1
 have H2:=yh h2
 have HNE:=yh hne
 have HLN:=yh hln
 have HR:=yh hr
 have hbase:base≤w.heap.size:=by omega
 have h1c:∀ u ∈ xs.map tsv,u.oneCell'=true:=fun u hu =>by
  obtain ⟨x,_,rfl⟩:=List.mem_map.1 hu
  rfl
 have H1C:=yh h1c
 clear h1 h2 hne hln hr h1c
 go_enter Tryz.func40,Tryz.ntmps40
 go_wp2_with (at_builtin;refine zEI _ rfl (.tmp 7) (.tmp 8) 83 51 9 Tryz.underlying51 rfl base 9 i0 _ 1 16 Tryz.underlying83 hi hz0 hz1 hz2 rfl (by decide) _ ws.length _ rfl H2.out A n c w.heap.size (xs.map tsv) rfl hA HR.out H1C.out (by unfold maxLen;omega) (by omega) hbase ?_;intro v1 w1 ho1 hg1 hv1;obtain ⟨A1,c1,rfl,_⟩:=zAL ho1;have hb1:w1.heap[g]? = some (.cells #[v] 83 (0,0)):=(hg1.block g hlt (fun e =>HNE.out e.symm)).trans H1.out;have p0:=zAA (i:=0) hb1 rfl;have y0:=zAC (i:=0) hb1;have HO1:=yh ho1;have HG1:Hid (w.grownBy w1 v.ownBlock):=hg1;have HB1:=yh hb1;clear ho1 hg1 hv1 hb1)
 go_end0
 have hne1:=zBS HO1.out HB1.out (by decide)
 refine ⟨rfl,⟨h0,_,zAD HB1.out 0 _,?_⟩,?_,fun k cs t f hk ht hkg =>?_⟩
 ·have:=zAs HO1.out (w':=w1.setCell ⟨g,0,none⟩ (.slice A1 (ws.length+n) c1)) (fun k hk =>Below.heap_setCell _ _ _ k (fun e =>hne1 (by rw [hk];exact congrArg some e)))
  rw [List.map_append,List.length_append,HLN.out]
  exact this
 ·exact ((Below.refl base w).grown HG1.out hbase (fun k hk =>zAS H2.out k hk)).setCell (p:=⟨g,0,none⟩) h0 _
 ·have e1:=(HG1.out.block k (Array.getElem?_eq_some_iff.1 hk).1 (fun e =>zBS H2.out hk ht e.symm)).trans hk
  exact (Below.heap_setCell _ _ _ k hkg).trans e1
def zBE (d:Dp):List UInt8:=hexl d.hash.toNat 16++(if d.order then [33] else [])
theorem zIU (nm:List UInt8) (h:Int) (o:Bool) (h0:0≤h) (h1:h<18446744073709551616) (w:World) :
  Calls Tryz.prog 43 #[.agg #[.string (tx nm),.int .u64 h,.bool o]] w fun e w' =>e=.returned (.string (tx (zBE ⟨nm,h,o⟩)))∧Below w.heap.size w w':=by
 obtain ⟨z,rfl⟩:=Int.eq_ofNat_of_zero_le h0
 have hx:∀ W,Calls Tryz.prog 31 #[.int .u64 (z:Int)] W fun e w' =>e=.returned (.string (tx (hexl z 16)))∧Below W.heap.size W w':=fun W =>by
  have h:=zFD (BitVec.ofNat 64 z) W
  rw [zCi (show z<top by unfold top;omega),BitVec.toNat_ofNat,Nat.mod_eq_of_lt (show z<2 ^ 64 by omega)] at h
  exact h
 have HX:=yh hx
 have H0:=yh (zAI w (.cells #[.string (tx nm),.int .u64 (z:Int),.bool o] 73))
 have HB0:=yh ((Below.refl _ w).alloc (Nat.le_refl _) (.cells #[.string (tx nm),.int .u64 (z:Int),.bool o] 73))
 have ha:∀ W:World,(Op.stringOp .add (tx (hexl z 16)) { data:=#[33] }).run Tryz.prog W=.ok (.string (tx (hexl z 16++[33]))) W:=fun W =>zAc W _ [33] (by rw [zAr];simp)
 cases o with
 | true =>
  have hh:tx (zBE ⟨nm,(z:Int),true⟩)=tx (hexl z 16++[33]):=rfl
  rw [hh]
  generalize tx (hexl z 16++[33])=s2 at *
  generalize tx (hexl z 16)=s1 at *
  generalize tx nm=s0 at *
  clear hx h0 h1 hh
  go_enter Tryz.func43,Tryz.ntmps43
  go_wp2_with fail
  refine (HX.out _).mono ?_
  rintro e w1 ⟨rfl,b1⟩
  have hq:=(b1.block w.heap.size (by simp)).trans H0.out
  have q2:=zAA (i:=2) hq rfl
  have HB1:=yh (HB0.out.trans (b1.mono HB0.out.size))
  clear b1 hq
  go_wp2
  go_ret
  exact ⟨rfl,HB1.out⟩
 | false =>
  have hh:tx (zBE ⟨nm,(z:Int),false⟩)=tx (hexl z 16):=by unfold zBE;simp
  rw [hh]
  generalize tx (hexl z 16)=s1 at *
  generalize tx nm=s0 at *
  clear hx h0 h1 hh ha
  go_enter Tryz.func43,Tryz.ntmps43
  go_wp2_with fail
  refine (HX.out _).mono ?_
  rintro e w1 ⟨rfl,b1⟩
  have hq:=(b1.block w.heap.size (by simp)).trans H0.out
  have q2:=zAA (i:=2) hq rfl
  have HB1:=yh (HB0.out.trans (b1.mono HB0.out.size))
  clear b1 hq
  go_wp2
  go_ret
  exact ⟨rfl,HB1.out⟩
theorem zCa (l:List Dp):∀ u ∈ dps l,u.oneCell'=true:=by
 intro u hu
 obtain ⟨d,_,hd⟩:=List.mem_flatMap.1 hu
 simp only [Dp.cells,rsv,List.mem_cons,List.not_mem_nil,or_false] at hd
 rcases hd with rfl | rfl | rfl <;> rfl
def Deps (w:World) (base:Nat) (A:Option Addr) (n c:Nat) (l:List Dp):Prop:=w.ownsRow base 73 3 (.slice A n c) n (dps l)∧(A=none→c=0)
def zBF (r:Rc) (l:List Dp):Prop:=(∀ d ∈ l,d.name.length≤300)∧l.length≤60∧r.target.length≤300∧r.tag.length≤300
def tput (l:List (List UInt8)) (s:List UInt8):List (List UInt8):=if s ∈ l then l else l++[s]
theorem zFI {l:List (List UInt8)} {s:List UInt8} (h:s ∈ l):tput l s=l:=if_pos h
theorem zDe {l:List (List UInt8)} {s:List UInt8} (h:s ∉ l):tput l s=l++[s]:=if_neg h
theorem zEw {l:List (List UInt8)} {s:List UInt8} (h:l.Nodup):(tput l s).Nodup:=by
 by_cases hs:s ∈ l
 ·rw [zFI hs];exact h
 ·rw [zDe hs,List.nodup_append]
  exact ⟨h,by simp,fun a ha b hb =>by simp at hb;subst hb;exact fun e =>hs (e▸ha)⟩
theorem zLr:(Tryz.prog.info? 9).map (fun i =>(i.zero,i.size,i.bytes))=some (some (.string ⟨#[]⟩),1,16):=by kernel_rfl
open Go.RowKit Go.Maps Go.ChangeMaps Go.WideMaps
def tnum (l:List (List UInt8)) (s:List UInt8):Nat:=if s ∈ l then l.idxOf s else 0
theorem tkey:Keyed Tryz.prog 9:=string_keyed Tryz.underlying9
theorem zIH (w:World):(zeroValue 34).run Tryz.prog w=.ok (.int .u64 0) w:=by kernel_rfl
def u0:DataW Nat:=.lit (.int .u64 0)
def zCn (D:DataW Nat) (l:List (List UInt8)):Prop :=
 IsMap D∧∀ s:List UInt8,Maps.has D (.string s)=decide (s ∈ l)∧D.atKey (.string s) u0=.lit (.int .u64 (tnum l s:Int))
theorem zIq:zCn (.map []) []:=⟨isMap_empty,fun s =>⟨by simp [Maps.has],rfl⟩⟩
theorem zIr {D:DataW Nat} {l:List (List UInt8)} {s:List UInt8} (h:zCn D l) (hs:s ∉ l):zCn (D.put (.string s) (.lit (.int .u64 (l.length:Int)))) (l++[s]):=by
 refine ⟨h.1.put _ _,fun t =>?_⟩
 by_cases ht:t=s
 ·subst ht
  refine ⟨by rw [has_put_same h.1 (k:=.string t) (show WideAt.IsKeyLit (.string t) from trivial)];simp,?_⟩
  rw [atKey_put_same h.1 (k:=.string t) (show WideAt.IsKeyLit (.string t) from trivial)]
  have:tnum (l++[t]) t=l.length:=by
   rw [tnum,if_pos (by simp),List.idxOf_append,if_neg hs];simp
  rw [this]
 ·have hne:Lit.string t≠Lit.string s:=fun e =>ht (by injection e)
  refine ⟨by rw [has_put_other hne,(h.2 t).1];simp [ht],?_⟩
  rw [atKey_put_other hne,(h.2 t).2]
  have:tnum (l++[s]) t=tnum l t:=by
   by_cases hm:t ∈ l
   ·rw [tnum,tnum,if_pos (by simp [hm]),if_pos hm,List.idxOf_append,if_pos hm]
   ·rw [tnum,tnum,if_neg (by simp [hm,ht]),if_neg hm]
  rw [this]
def Tab (w:World) (S:Nat→Prop) (b N:Nat) (l:List (List UInt8)):Prop :=
 ∃ (L:Option Addr) (c:Nat) (mv:Option Nat),w.heap[b]? = some (.cells #[.slice L l.length c,.map mv] 153 (0,0))∧S b∧w.ownsRow 0 9 1 (.slice L l.length c) l.length (l.map tsv) ∧
  (∀ g,(Value.slice L l.length c).ownBlock=some g→S g)∧((mv=none∧l=[]) ∨ ∃ (mb:Nat) (D:DataW Nat),mv=some mb∧S mb∧w.ownsMap Tryz.prog 9 (plainElem Tryz.prog 34) mb N D∧zCn D l) ∧
  l.Nodup∧∀ s ∈ l,s.length≤maxLen
theorem zGX {w w':World} {b n:Nat} {D:DataW Nat} {k:TypeId} {R:Value→Option (DataW Nat×List MemPlace)} (h:w.ownsMap Tryz.prog k R b n D) (hk:w'.heap[b]? = w.heap[b]?):w'.ownsMap Tryz.prog k R b n D:=by
 obtain ⟨es,clock,hb,r⟩:=h
 exact ⟨es,clock,hk.trans hb,r⟩
theorem Tab.keep {w w':World} {S:Nat→Prop} {b N:Nat} {l:List (List UInt8)} (h:Tab w S b N l) (hk:∀ k,S k→k<w.heap.size→w'.heap[k]? = w.heap[k]?):Tab w' S b N l:=by
 obtain ⟨L,c,mv,h1,h2,h3,h4,h5,h6⟩:=h
 have hb:=(Array.getElem?_eq_some_iff.1 h1).1
 refine ⟨L,c,mv,(hk b h2 hb).trans h1,h2,zAs h3 (fun g hg =>hk g (h4 g hg) (zBu h3 g hg)),h4,?_,h6⟩
 rcases h5 with h5 | ⟨mb,D,e,hs,hm,hn⟩
 ·exact .inl h5
 ·exact .inr ⟨mb,D,e,hs,zGX hm (hk mb hs hm.lt),hn⟩
theorem Tab.wide {w:World} {S S2:Nat→Prop} {b N:Nat} {l:List (List UInt8)} (h:Tab w S b N l) (hs:∀ k,S k→k<w.heap.size→S2 k):Tab w S2 b N l:=by
 obtain ⟨L,c,mv,h1,h2,h3,h4,h5,h6⟩:=h
 refine ⟨L,c,mv,h1,hs b h2 (Array.getElem?_eq_some_iff.1 h1).1,h3,fun g hg =>hs g (h4 g hg) (zBu h3 g hg),?_,h6⟩
 rcases h5 with h5 | ⟨mb,D,e,hs',hm,hn⟩
 ·exact .inl h5
 ·exact .inr ⟨mb,D,e,hs mb hs' hm.lt,hm,hn⟩
theorem Tab.more {w:World} {S:Nat→Prop} {b N N':Nat} {l:List (List UInt8)} (h:Tab w S b N l) (hN:N≤N'):Tab w S b N' l:=by
 obtain ⟨L,c,mv,h1,h2,h3,h4,h5,h6⟩:=h
 refine ⟨L,c,mv,h1,h2,h3,h4,?_,h6⟩
 rcases h5 with h5 | ⟨mb,D,e,hs',hm,hn⟩
 ·exact .inl h5
 ·exact .inr ⟨mb,D,e,hs',hm.mono hN,hn⟩
end Go.Proofs.YtgoklhoaedceaaaGreatDoor
