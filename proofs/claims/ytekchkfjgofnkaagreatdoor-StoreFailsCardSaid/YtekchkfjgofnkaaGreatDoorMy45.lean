/- Texts of one proof. -/
import Derived.Test.YtekchkfjgofnkaaGreatDoorMy44
set_option maxRecDepth 100000
set_option maxHeartbeats 8000000
namespace Go.Proofs.YtekchkfjgofnkaaGreatDoor
open Go.RowKit
theorem zGs {w W:World} {base p b ps m:Nat} {T:Nat→Prop} {σ:FsSt} {X:Sx} (h:StAt w base p b ps T σ m X W) (hn:X.n≤1000) (hx:∀ x ∈ X.zs,x.t.length≤maxLen∧x.n≤1000000) :
  Calls Tryz.prog 18 #[.pointer (some ⟨ps,0,none⟩)] W fun e w' =>∃ A' c' zs,e=.returned (.slice A' (fo Rw.k Rw.t X.zs).length c')∧zs.map Rw.say=(fo Rw.k Rw.t X.zs).map Rw.say∧zDQ w' W.heap.size A' (fo Rw.k Rw.t X.zs).length c' zs∧Below W.heap.size W w':=by
 have c3:W.cell? ⟨ps,3,none⟩=some (.slice X.A X.n X.c):=zAA (i:=3) h.box rfl
 obtain ⟨lo,_,hro⟩:=h.rows
 have HOF:=yh (zQt X.A X.n X.c X.zs (by omega) hx W hro.read.1)
 clear h hro hx hn
 go_enter Tryz.func18,Tryz.ntmps18
 go_wp2_with fail
 refine HOF.out.mono ?_
 rintro e w1 ⟨A',c',zs,rfl,hsay,hst,hb⟩
 have HS:=yh hsay
 have HST:=yh hst
 have HB:=yh hb
 clear hsay hst hb c3
 go_wp2
 go_ret
 exact ⟨A',c',zs,rfl,HS.out,HST.out,HB.out⟩
theorem zLv {xs ys:List Rw} (h:xs.map Rw.say=ys.map Rw.say) (u:List UInt8):(zAu xs u).map Rw.say=(zAu ys u).map Rw.say:=by
 have hk:∀ l:List Rw,(zAu l u).map Rw.say=((l.map Rw.say).reverse).find? (fun s =>s.1.kind == 1 && s.1.target == u):=fun l =>by
  unfold zAu
  rw [← List.map_reverse,List.find?_map]
  rfl
 rw [hk,hk,h]
theorem zJN {xs ys:List Rw} (h:xs.map Rw.say=ys.map Rw.say) {u:List UInt8} {r:Rc} {l:List Dp} {b:Bool} (ha:FAns xs u r l b):FAns ys u r l b:=by
 have h1:=zLv h u
 obtain ⟨h2,h3⟩:=ha
 unfold FAns
 cases hx:zAu xs u with
 | none =>
  rw [hx] at h1 h2 h3
  cases hy:zAu ys u with
  | none =>exact ⟨h2,h3⟩
  | some y =>rw [hy] at h1;cases h1
 | some x =>
  rw [hx] at h1 h2 h3
  cases hy:zAu ys u with
  | none =>rw [hy] at h1;cases h1
  | some y =>
   rw [hy] at h1
   have h4:x.say=y.say:=Option.some.inj h1
   exact ⟨h2,h3.trans h4⟩
theorem zIi {w W:World} {base p b ps m:Nat} {T:Nat→Prop} {σ:FsSt} {X:Sx} (h:StAt w base p b ps T σ m X W) (hn:X.n≤1000) (hx:∀ x ∈ X.zs,x.t.length≤maxLen∧x.n≤1000) (u:List UInt8) :
  Calls Tryz.prog 24 #[.pointer (some ⟨ps,0,none⟩),rsv u] W fun e w' =>FUni (fo Rw.k Rw.t X.zs) u W e w':=by
 have hb1:=(Below.refl W.heap.size W).alloc (Nat.le_refl _) (.cells #[.int .i64 0,.string ⟨#[]⟩,.int .u64 0,.slice none 0 0,.int .u64 0,.int .u64 0,.string ⟨#[]⟩] 41)
 have e1:=zAE W (.cells #[.int .i64 0,.string ⟨#[]⟩,.int .u64 0,.slice none 0 0,.int .u64 0,.int .u64 0,.string ⟨#[]⟩] 41)
 have hlen:(fo Rw.k Rw.t X.zs).length≤1000:=by have:=zJO (k:=Rw.k) (t:=Rw.t) X.zs;have:=h.len;omega
 have HALL:=yh (zGs (h.below hb1) hn (fun x hxm =>⟨(hx x hxm).1,Nat.le_trans (hx x hxm).2 (by omega)⟩))
 have HFD:=yh (fun (A:Option Addr) (c:Nat) (zs:List Rw) (hz:∀ z ∈ zs,z.n≤1000000) (v:World) (hr:Recs v v.heap.size A (fo Rw.k Rw.t X.zs).length zs) =>zLl A (fo Rw.k Rw.t X.zs).length c zs u (by omega) hz v hr)
 have HZN:Hid (∀ zs:List Rw,zs.map Rw.say=(fo Rw.k Rw.t X.zs).map Rw.say→∀ z ∈ zs,z.l.length≤1000):=fun zs hs z hz =>by
  have h2:Rw.say z ∈ (fo Rw.k Rw.t X.zs).map Rw.say:=by rw [← hs];exact List.mem_map_of_mem hz
  obtain ⟨y,hy,e⟩:=List.mem_map.1 h2
  have hyx:=(zJP hy).1
  obtain ⟨lo,_,hro⟩:=h.rows
  have h3:=(hro.deps y hyx).1
  rw [zAn] at h3
  have h4:=(hx y hyx).2
  have h5:z.l=y.l:=(congrArg Prod.snd e).symm
  rw [h5]
  omega
 have HB1:=yh hb1
 have HE1:=yh e1
 obtain ⟨F,hF⟩:∃ F,F=fo Rw.k Rw.t X.zs:=⟨_,rfl⟩
 rw [← hF] at HALL HFD HZN hlen ⊢
 obtain ⟨q,hq⟩:∃ q,q=F.length:=⟨_,rfl⟩
 rw [← hq] at HALL HFD hlen
 obtain ⟨W1,hW1⟩:∃ x,x=W.alloc (.cells #[.int .i64 0,.string ⟨#[]⟩,.int .u64 0,.slice none 0 0,.int .u64 0,.int .u64 0,.string ⟨#[]⟩] 41):=⟨_,rfl⟩
 rw [← hW1] at HALL HB1 HE1
 have HW1:=yh hW1
 clear hb1 e1 h hx hF hq hW1
 unfold rsv
 go_enter Tryz.func24,Tryz.ntmps24
 go_wp2_with fail
 rw [← HW1.out]
 refine HALL.out.mono ?_
 rintro e w2 ⟨A',c',zs,rfl,hsay,hst,hb2⟩
 have hrecs:Recs w2 w2.heap.size A' q zs:=⟨zAD.of_own hst.1,fun z hz =>⟨zAD.of_own (hst.2.2 z hz).1,(hst.2.2 z hz).2⟩⟩
 have hzn:∀ z ∈ zs,z.n≤1000000:=fun z hz =>by
  have h1:=(hst.2.2 z hz).1.1
  rw [zAn] at h1
  have:=HZN.out zs hsay z hz
  omega
 have HF2:=yh (HFD.out A' c' zs hzn w2 hrecs)
 have HSAY:=yh hsay
 have HNZ:=yh hzn
 have HB2:=yh (HB1.out.trans (hb2.mono HB1.out.size))
 have HE2:=yh ((hb2.block W.heap.size (zAJ HE1.out)).trans HE1.out)
 clear hsay hst hb2 hrecs hzn HALL HFD
 unfold rsv at HF2
 go_wp2_with fail
 refine HF2.out.mono ?_
 rintro e w3 hfp
 have hq:∃ r A3 n3 c3 l3 bb,FAns zs u r l3 bb∧e=.returned (.tuple #[rcv r A3 n3 c3,.bool bb])∧n3≤1000000∧Below w2.heap.size w2 w3∧(∀ w',w3.grownBy w' (some W.heap.size)→zAD w' w'.heap.size 3 A3 n3 (dps l3)):=by
  have hlt:=zAJ HE2.out
  rcases hfp with ⟨h1,rfl,hb⟩ | ⟨x,A,c,h1,rfl,_,h2,hb⟩
  ·exact ⟨zQb,none,0,0,[],false,⟨by rw [h1];rfl,by rw [h1]⟩,rfl,by omega,hb,fun _ _ =>zAD.none_⟩
  ·have h3:Deps w3 w2.heap.size A x.n c x.l:=h2
   exact ⟨x.r,A,x.n,c,x.l,true,⟨by rw [h1];rfl,by rw [h1];rfl⟩,rfl,HNZ.out x (zLu h1),hb,fun w' hg =>zAD.of_own (zAR h3.1 (fun k hk =>hg.block k (zAP h3.1 k hk) (fun e =>by have:=zAG h3.1 k hk;have:=Option.some.inj e;omega)))⟩
 clear hfp
 obtain ⟨r,A3,n3,c3,l3,bb,hans,rfl,hn3,hb3,hr3⟩:=hq
 have HANS:=yh (zJN HSAY.out hans)
 have HX3:=yh ((hb3.block W.heap.size (zAJ HE2.out)).trans HE2.out)
 have HFIN:=yh (setRow_heap w3 W.heap.size _ #[.int .i64 r.kind,.string (tx r.target),.int .u64 r.rule,.slice A3 n3 c3,.int .u64 r.out,.int .u64 r.time,.string (tx r.tag)] _ _ HX3.out)
 have hgr:=zCG w3 W.heap.size #[.int .i64 r.kind,.string (tx r.target),.int .u64 r.rule,.slice A3 n3 c3,.int .u64 r.out,.int .u64 r.time,.string (tx r.tag)]
 have HRD:=yh (hr3 _ hgr)
 have HBE:=yh ((HB2.out.trans (hb3.mono HB2.out.size)).grown hgr (HB2.out.trans (hb3.mono HB2.out.size)).size (fun j hj =>by cases hj;exact Nat.le_refl _))
 have HN3:=yh hn3
 clear hb3 hr3 hn3 hans hgr
 unfold rcv rsv
 go_wp2_with ((with_reducible show wpList _ _ _ (Oper.mk _ (Op.store _ _ _) _ _ _ _ :: _) _ _);refine wpList_store_row rfl 41 (.tmp 4) (.tmp 10) rfl W.heap.size #[.int .i64 r.kind,.string (tx r.target),.int .u64 r.rule,.slice A3 n3 c3,.int .u64 r.out,.int .u64 r.time,.string (tx r.tag)] rfl rfl 41 _ HX3.out (by kernel_rfl) rfl (by simp [Value.oneCell']) ?_)
 refine bodyPost_ret (zCF Tryz.results24 _ _ W.heap.size _ _ (0,0) _ rfl HFIN.out Tryz.underlying41 rfl (by kernel_rfl)) rfl ?_
 exact ⟨r,A3,n3,c3,l3,bb,HANS.out,rfl,HN3.out,HRD.out,HBE.out⟩
def zCU (t:List UInt8):Rc:=⟨2,t,0,0,0,[]⟩
theorem zJS {v:Int} (hv:1≤v∧v≤3) {t:List UInt8} (h:zBI t=true):MayP v (zCU t) []:=⟨hv.1,hv.2,h,.inr ⟨rfl,by unfold zLS zCU;simp⟩⟩
theorem zNF {t:List UInt8} (h:t.length≤maxLen):Fits (zCU t) []:=⟨h,by unfold maxLen;simp [zCU],fun d hd =>by cases hd⟩
theorem zIU (t:List UInt8):Nums (zCU t) []:=⟨by simp [zCU],by simp [zCU],by simp [zCU],fun d hd =>by cases hd⟩
def zIx (w:World) (base p b ps m:Nat) (T:Nat→Prop) (σ:FsSt) (X:Sx) (t:List UInt8) (W:World) (z:Int) (w':World):Prop :=
 (((zBI t=false∧z=1)∨(zBI t=true∧zAu (fo Rw.k Rw.t X.zs) t=none∧z=6))∧StAt w base p b ps T σ m X w'∧Below W.heap.size W w') ∨
 (zBI t=true∧(zAu (fo Rw.k Rw.t X.zs) t).isSome=true∧zCR w base p b ps m T σ X (frD X (zCU t) []) ⟨zCU t,none,0,0,[]⟩ W z w')
theorem zNy {w W:World} {base p b ps m:Nat} {T:Nat→Prop} {σ:FsSt} {X:Sx} (h:StAt w base p b ps T σ m X W) (hi:StI X σ) (hm:m≤40000) (hl:Laid W) (hx:∀ x ∈ X.zs,x.t.length≤maxLen) (t:List UInt8) (ht:t.length≤maxLen) (bt bs:Nat) (hbt:W.heap[bt]? = some (.cells #[.string (tx t)] 9 (0,0))) (hbs:W.heap[bs]? = some (.cells #[.pointer (some ⟨ps,0,none⟩)] 29 (0,0))) :
  Calls Tryz.prog 49 #[.pointer (some ⟨bt,0,none⟩),.pointer (some ⟨bs,0,none⟩)] W fun e w' =>∃ z:Int,e=.returned (.int .i64 z)∧zIx w base p b ps m T σ X t W z w':=by
 have k0:=zAA (i:=0) hbt rfl
 have s0:=zAA (i:=0) hbs rfl
 have HNM:=yh (zGh t W)
 have HFD:=yh (zIi h (by have:=hi.few;omega) (fun x hxm =>⟨hx x hxm,(hi.ok x hxm).2.2⟩) t)
 have HADD:=yh (fun (hn:zBI t=true) (v:World) (hb:Below W.heap.size W v) =>zJu (h.below hb) hi hm (hl.below hb) (zCU t) none 0 0 [] (zJS ⟨by have:=hi.v13;omega,by have:=hi.v13;omega⟩ hn) (zNF ht) (zIU t) (by omega) (fun _ =>rfl) (fun W' _ _ =>zAD.none_) _ rfl)
 have HH:=yh h
 have HBT:=yh hbt
 have HBS:=yh hbs
 clear h hi hm hl hx hbt hbs ht
 unfold rsv at HNM HFD
 go_enter Tryz.func49,Tryz.ntmps49
 go_wp2_with fail
 refine HNM.out.mono ?_
 rintro e w1 ⟨rfl,hw⟩
 obtain rfl:=hw
 cases hn:zBI t with
 | false =>
  have HN:=yh hn
  clear hn
  go_wp2
  go_ret
  exact ⟨1,rfl,.inl ⟨.inl ⟨HN.out,rfl⟩,HH.out,Below.refl _ _⟩⟩
 | true =>
  have HN:=yh hn
  clear hn
  go_wp2_with fail
  refine HFD.out.mono ?_
  rintro e w2 ⟨r,A3,n3,c3,l3,bb,hans,rfl,hn3,hr3,hb2⟩
  have HB2:=yh (hb2.alloc hb2.size (.cells #[.int .i64 r.kind,.string (tx r.target),.int .u64 r.rule,.slice A3 n3 c3,.int .u64 r.out,.int .u64 r.time,.string (tx r.tag)] 41))
  have HBB:Hid (bb=(zAu (fo Rw.k Rw.t X.zs) t).isSome):=hans.1
  have k1:=zAA (i:=0) ((HB2.out.block bt (zAJ HBT.out)).trans HBT.out) rfl
  have s1:=zAA (i:=0) ((HB2.out.block bs (zAJ HBS.out)).trans HBS.out) rfl
  clear hb2 hans hn3 hr3 k0 s0 HFD
  unfold rcv rsv
  cases bb with
  | false =>
   go_wp2
   go_ret
   exact ⟨6,rfl,.inl ⟨.inr ⟨HN.out,by simpa using HBB.out.symm,rfl⟩,HH.out.below HB2.out,HB2.out⟩⟩
  | true =>
   have HAD:=yh (HADD.out HN.out _ HB2.out)
   unfold zCU at HAD
   go_wp2_with fail
   refine HAD.out.mono ?_
   rintro e w3 ⟨z,rfl,had⟩
   have HA3:=yh had
   clear had
   go_wp2
   go_ret
   exact ⟨z,rfl,.inr ⟨HN.out,HBB.out.symm,HA3.out.ahead HB2.out HH.out.jt.lt⟩⟩
def zDB (w:World) (base p b ps m:Nat) (T:Nat→Prop) (σ:FsSt) (X:Sx) (t:List UInt8) (W:World) (z:Int) (w':World):Prop :=
 (X.ov=true∧z=7∧StAt w base p b ps T σ m X w'∧Past T W w') ∨
 (X.ov=false∧((zBI t=false∧z=1)∨(zBI t=true∧zAu (fo Rw.k Rw.t X.zs) t=none∧z=6))∧StAt w base p b ps T σ m X w'∧Past (fun k =>T k∧k≠ps) W w') ∨
 (X.ov=false∧zBI t=true∧(zAu (fo Rw.k Rw.t X.zs) t).isSome=true∧zCQ w base p b ps m T σ X (frD X (zCU t) []) ⟨zCU t,none,0,0,[]⟩ W z w')
theorem zKi {w W:World} {base p b ps m:Nat} {T:Nat→Prop} {σ:FsSt} {X:Sx} (h:StAt w base p b ps T σ m X W) (hi:StI X σ) (hm:m≤40000) (hl:Laid W) (hx:∀ x ∈ X.zs,x.t.length≤maxLen) (t:List UInt8) (ht:t.length≤maxLen) :
  Calls Tryz.prog 29 #[.pointer (some ⟨ps,0,none⟩),.string (tx t)] W fun e w' =>∃ z:Int,e=.returned (.int .i64 z)∧zDB w base p b ps m T σ X t W z w':=by
 have z1:(W.alloc (.cells #[.pointer (some ⟨ps,0,none⟩)] 29)).heap.size=W.heap.size+1:=by simp
 have hb1:=(Below.refl W.heap.size W).alloc (Nat.le_refl _) (.cells #[.pointer (some ⟨ps,0,none⟩)] 29)
 have hb2:=hb1.alloc hb1.size (.cells #[.string (tx t)] 9)
 have e1:=(Below.heap_alloc (W.alloc (.cells #[.pointer (some ⟨ps,0,none⟩)] 29)) (.cells #[.string (tx t)] 9) W.heap.size (by rw [z1];omega)).trans (zAE W (.cells #[.pointer (some ⟨ps,0,none⟩)] 29))
 have e2:=zAE (W.alloc (.cells #[.pointer (some ⟨ps,0,none⟩)] 29)) (.cells #[.string (tx t)] 9)
 rw [z1] at e2
 obtain ⟨W2,hW2⟩:∃ x,x=(W.alloc (.cells #[.pointer (some ⟨ps,0,none⟩)] 29)).alloc (.cells #[.string (tx t)] 9):=⟨_,rfl⟩
 rw [← hW2] at hb2 e1 e2
 have h2:=h.below hb2
 have k0:=zAA (i:=0) e1 rfl
 have HW2:=yh hW2
 have HB2:=yh hb2
 have HH:=yh h
 have HH2:=yh h2
 cases hov:X.ov with
 | true =>
  have HUN:=yh (zDi ps p X W2 h2.box hov 49 #[.pointer (some ⟨W.heap.size+1,0,none⟩),.pointer (some ⟨W.heap.size,0,none⟩)])
  have HOV:=yh hov
  clear hb1 z1 hb2 e1 e2 h2 h hi hl hW2 hov hx
  rw [HW2.out] at k0
  go_enter Tryz.func29,Tryz.ntmps29
  go_wp2_with fail
  rw [← HW2.out]
  refine HUN.out.mono ?_
  rintro e w3 ⟨rfl,hw⟩
  obtain rfl:=hw
  clear k0
  go_wp2
  go_ret
  exact ⟨7,rfl,.inl ⟨HOV.out,rfl,HH2.out,Past.of_below HB2.out HH.out.jt.lt⟩⟩
 | false =>
  have hdel:=zNy h2 hi hm (hl.below hb2) hx t ht (W.heap.size+1) W.heap.size e2 e1
  have HUN:=yh (zDh ps p X W2 h2.box hov 49 #[.pointer (some ⟨W.heap.size+1,0,none⟩),.pointer (some ⟨W.heap.size,0,none⟩)] (enters_of Tryz.func49 (by kernel_rfl) rfl) (fun z w' =>zIx w base p b ps m T σ X t W2 z w') (fun z w1 hq =>by
   rcases hq with ⟨_,hst,_⟩ | ⟨_,_,_,τ,_,hq⟩
   ·exact ⟨X,hst.box⟩
   ·rcases hq with ⟨_,T',A',E',c',d',zs',_,_,_,hst⟩ | ⟨_,hst⟩
    ·exact ⟨_,hst.box⟩
    ·exact ⟨_,hst.box⟩) hdel)
  have HOV:=yh hov
  clear hb1 z1 hb2 e1 e2 h2 h hi hl hW2 hov hdel hx
  rw [HW2.out] at k0
  go_enter Tryz.func29,Tryz.ntmps29
  go_wp2_with fail
  rw [← HW2.out]
  refine HUN.out.mono ?_
  rintro e w3 ⟨z,w1,rfl,hq,rfl⟩
  have HQ:=yh hq
  clear k0 hq
  go_wp2
  go_ret
  refine ⟨z,rfl,.inr ?_⟩
  rcases HQ.out with ⟨hno,hst,hb⟩ | ⟨hk,hmay,hp,τ,ho,hq⟩
  ·have hz7:(z == 7)=false:=by
    rcases hno with ⟨_,rfl⟩ | ⟨_,_,rfl⟩ <;> rfl
   have hs:=hst.setov (z == 7)
   refine .inl ⟨HOV.out,hno,?_,fun k hk =>((hs.2.2.2.2.2 k (Nat.lt_of_lt_of_le (HH2.out.jt.lt k hk.1) hb.size) hk.2).trans (hb.block k (HH2.out.jt.lt k hk.1))).trans (HB2.out.block k (HH.out.jt.lt k hk.1))⟩
   have:=hs.1
   rw [hz7] at this ⊢
   rw [show ({ X with ov:=false }:Sx)=X from by rw [← HOV.out]] at this
   exact this
  ·exact .inr ⟨HOV.out,hk,hmay,(zCR.done ⟨hp,τ,ho,hq⟩ HH2.out.jt.lt).ahead HB2.out HH.out.jt.lt⟩
theorem zDI {σ σ':FsSt} {a:Ac} {c:Int} (hq:zBb σ) (hr:refC σ a=0) (h:Outs σ a σ' c):c=0∧σ'.fl=zBW σ a∧zBb σ':=by
 have hf:zAN σ.f:=fun e =>by rw [hq.2.1] at e;cases e
 have hg:zAN σ.g:=fun e =>by rw [hq.2.2] at e;cases e
 obtain ⟨_,_,ha,ho⟩:=zCp hf hg hr h
 rcases ho with ⟨h1,h2,h3⟩ | ⟨_,_,_,_,h5⟩ | ⟨_,_,_,h5⟩
 ·exact ⟨h1,h2,h3,ha.1 hq.2.1,ha.2 hq.2.2⟩
 ·rw [hq.2.1] at h5;cases h5
 ·rw [hq.2.2] at h5;cases h5
theorem zFn {nm sd B:List UInt8} {M:Nat} {z:Int} {σ τ:FsSt} (hq:zBb σ) (h:StZ nm sd B M z σ τ):z=0∧τ.fl nm=some ⟨B,B.length⟩∧τ.fl sd=none∧zBb τ:=by
 rcases h.out with ⟨h1,h2,h3,h4⟩ | ⟨_,_,_,_,h5⟩ | ⟨_,_,_,h5⟩
 ·exact ⟨h1,h2,h3,h4,h.aq.1 hq.2.1,h.aq.2 hq.2.2⟩
 ·rw [hq.2.1] at h5;cases h5
 ·rw [hq.2.2] at h5;cases h5
theorem JT.names {w W:World} {base p b m:Nat} {T:Nat→Prop} {σ:FsSt} (h:JT w base p b T (fun y =>y=σ) m W) (hm:m≤100000) :
  Calls Tryz.prog 32 #[.pointer (some ⟨p,0,none⟩)] W fun e w' =>(∃ A c ns,zGC σ.fl ns∧ns.length≤m∧e=.returned (.slice A ns.length c)∧(A=none→c=0)∧w'.ownsRow W.heap.size 9 1 (.slice A ns.length c) ns.length (ns.map tsv))∧Below W.heap.size W w':=by
 obtain ⟨N,F,h1,h2⟩:=h.at_
 refine (zHg p b N base σ.down σ.f σ.g σ.fl F (by omega) W h1.1 h1.2).mono ?_
 rintro e w' ⟨⟨A,c,ns,g1,g2,g3⟩,hb⟩
 exact ⟨⟨A,c,ns,g1,by omega,g3⟩,hb⟩
theorem zJY {w W:World} {base p b m:Nat} {T:Nat→Prop} {σ:FsSt} (nm:List UInt8) (hnm:nm.length≤1000) (hf:zAN σ.f) (hg:zAN σ.g) (h:JT w base p b T (fun x =>x=σ) m W) :
  Calls Tryz.prog 45 #[.pointer (some ⟨p,0,none⟩),.string (tx nm)] W fun e w' =>∃ (z:Int) (τ:FsSt),e=.returned (.int .i64 z)∧Past T W w'∧Outs σ ⟨4,nm,[],[],0,[]⟩ τ z∧JT w base p b T (fun x =>x=τ) (m+2) w'∧W.heap.size≤w'.heap.size:=by
 obtain ⟨σ',N,F,h1,h2,h3,h4,hT,h5,h6⟩:=h
 subst h6
 refine (zHX p b N base _ F hf hg W h1 nm (Nat.le_trans hnm (by unfold maxLen;omega))).mono ?_
 rintro e w' ⟨z,rfl,τ,N',F',a1,a2,a3,a4,a5⟩
 have hj:=zED (P:=fun x =>x=τ) (m:=m+2) h3 h4 hT h5 a1 (by omega) a3 a4 rfl
 exact ⟨z,τ,rfl,hj.2,a5,hj.1,a3.2.2.2.1⟩
structure RdyS (v:Nat) (σ τ:FsSt):Prop where
 q:zBb τ
 sz:SzS 40000000 τ
 was:∀ y,σ.fl [108,111,103]=some y→τ.fl [108,111,103]=some y
 new:σ.fl [108,111,103]=none→τ.fl [108,111,103]=some ⟨zAS v (v:Int) [],(zAS v (v:Int) []).length⟩
theorem zMK {w W:World} {base p b m:Nat} {T:Nat→Prop} {σ:FsSt} (h:JT w base p b T (fun y =>y=σ) m W) (hq:zBb σ) (hs:SzS 40000000 σ) (hm:m≤900) (hl:∀ W',Below base w W'→Laid W') (v:Nat) (hv:1≤v∧v≤3) :
  Calls Tryz.prog 26 #[.pointer (some ⟨p,0,none⟩),.int .i64 (v:Int)] W fun e w' =>e=.returned (.int .i64 0)∧∃ τ,RdyS v σ τ∧JT w base p b T (fun y =>y=τ) (m+10) w'∧Past T W w'∧W.heap.size≤w'.heap.size:=by
 have hf:zAN σ.f:=fun e =>by rw [hq.2.1] at e;cases e
 have hg:zAN σ.g:=fun e =>by rw [hq.2.2] at e;cases e
 have HNM:=yh (h.names (by omega))
 have HH:=yh h
 have HQ:=yh hq
 have HS:=yh hs
 have HRM:=yh (fun (T1:Nat→Prop) (W1:World) (hj:JT w base p b T1 (fun y =>y=σ) m W1) =>zJY [110,101,119] (by simp) hf hg hj)
 have HSTA:=yh (fun (τ:FsSt) (hqt:zBb τ) (hst:SzS 40000000 τ) (T1:Nat→Prop) (m1:Nat) (hm1:m1≤1000) (W1:World) (hj:JT w base p b T1 (fun y =>y=τ) m1 W1) =>zJZ hst (fun e =>by rw [hqt.2.1] at e;cases e) (fun e =>by rw [hqt.2.2] at e;cases e) hqt.1 hj (by omega) [108,111,103] [110,101,119] (zAS v (v:Int) []) (by decide) (by simp) (by simp) (by
   have:=zEY (v:=v) (xs:=[]) (fun x hx =>by cases hx) (by simp)
   omega) (v:Int) none 0 0 (yh fun W2 hb =>by
  refine (zHn v hv [] none 0 0 (by omega) (fun x hx =>by cases hx) W2 (hl W2 (hj.under.1.trans (hb.mono hj.under.2))) (Recs.nil _ _ _)).mono ?_
  rintro e w' ⟨h1,hb1⟩
  refine ⟨?_,hb1⟩
  rcases h1 with ⟨_,u,rfl,ho⟩ | ⟨hno,_⟩
  ·obtain ⟨A1,c1,rfl,hA⟩:=zAL ho
   exact ⟨A1,c1,rfl,hA,ho⟩
  ·exact absurd (fun x hx =>by cases hx) hno))
 have HM:=yh hm
 clear h hq hs hl hf hg hm
 go_enter Tryz.func26,Tryz.ntmps26
 go_wp2_with fail
 refine HNM.out.mono ?_
 rintro e w1 ⟨⟨A,c,ns,hns,hnl,rfl,_,ho⟩,hb1⟩
 obtain ⟨_,_,he,_,hr⟩:=zBF ho
 cases he
 have HC:=yh (zDD A ns.length c ns [110,101,119] (by have:=HM.out;omega) w1 hr)
 have HNS:=yh hns
 have HB1:=yh hb1
 have HO:=yh ho
 have HJ1:=yh (HH.out.wide hb1)
 have HNL:Hid (ns.length≤900):=by have:=HM.out;show _≤_;omega
 obtain ⟨mm,hmm⟩:∃ mm,mm=ns.length:=⟨_,rfl⟩
 rw [← hmm] at HC HO HNL ⊢
 clear hns hnl ho hb1 hr hmm
 go_wp2_with fail
 refine HC.out.mono ?_
 rintro e w2 ⟨⟨q,rfl,hq⟩,hw⟩
 obtain rfl:=hw
 cases q with
 | true =>
  have HIN:Hid ((σ.fl [110,101,119]).isSome=true):=(HNS.out.2 [110,101,119]).1 (hq.1 rfl)
  clear hq
  go_wp2_with fail
  refine (HRM.out _ w1 HJ1.out).mono ?_
  rintro e w3 ⟨z,τ,rfl,hp,hout,hj,hsz3⟩
  have hrc:refC σ ⟨4,[110,101,119],[],[],0,[]⟩=0:=by
   obtain ⟨y,hy⟩:=Option.isSome_iff_exists.1 HIN.out
   simp [refC,HQ.out.1,hy]
  obtain ⟨rfl,hfl,hqt⟩:=zDI HQ.out hrc hout
  have hfl2:τ.fl=zAb σ.fl [110,101,119] none:=by rw [hfl];simp [zBW]
  have HQT:=yh hqt
  have HST:Hid (SzS 40000000 τ):=zDL HS.out hfl2 (fun y h =>by cases h)
  have HLG:Hid (τ.fl [108,111,103]=σ.fl [108,111,103]):=by show _=_;rw [hfl2,zBj (by decide)]
  have HP3:=yh hp
  have HJ3:=yh hj
  have ho3:w3.ownsRow W.heap.size 9 1 (.slice A mm c) mm (ns.map tsv):=hp.row HO.out (fun k hk =>.inr ⟨zAG HO.out k hk,zAP HO.out k hk⟩)
  have HC3:=yh (zDD A mm c ns [108,111,103] (by have:=HNL.out;omega) w3 (zAD.of_own ho3))
  have HSZ:Hid (W.heap.size≤w3.heap.size):=Nat.le_trans HB1.out.size hsz3
  clear hp hout hj hsz3 hrc hfl hfl2 hqt ho3
  go_wp2_with fail
  refine HC3.out.mono ?_
  rintro e w4 ⟨⟨q2,rfl,hq2⟩,hw4⟩
  obtain rfl:=hw4
  cases q2 with
  | true =>
   have HIN2:Hid ((σ.fl [108,111,103]).isSome=true):=(HNS.out.2 [108,111,103]).1 (hq2.1 rfl)
   clear hq2
   go_wp2
   go_ret
   exact ⟨rfl,τ,⟨HQT.out,HST.out,fun y hy =>by rw [HLG.out];exact hy,fun hn =>by have:=HIN2.out;rw [hn] at this;cases this⟩,(HJ3.out.less (fun k hk =>.inl hk)).room (by omega),(fun k hk =>(HP3.out k (.inl hk)).trans (HB1.out.block k (HH.out.lt k hk)):Past T W w3),HSZ.out⟩
  | false =>
   have HIN2:Hid (σ.fl [108,111,103]=none):=by
    show _=_
    cases e2:σ.fl [108,111,103] with
    | none =>rfl
    | some y =>have:=hq2.2 ((HNS.out.2 [108,111,103]).2 (by rw [e2];rfl));cases this
   clear hq2
   go_wp2_with fail
   refine (HSTA.out τ HQT.out HST.out _ (m+2) (by have:=HM.out;omega) w3 HJ3.out).mono ?_
   rintro e w5 ⟨z5,τ5,rfl,hp5,hz5,hj5,hsz5⟩
   obtain ⟨rfl,g1,g2,g3⟩:=zFn HQT.out hz5
   have HG1:=yh g1
   have HG3:=yh g3
   have HZ5:=yh hz5
   have HP5:=yh hp5
   have HJ5:=yh hj5
   have HS5:=yh hsz5
   clear g1 g2 g3 hz5 hp5 hj5 hsz5
   go_wp2
   go_ret
   exact ⟨rfl,τ5,⟨HG3.out,HZ5.out.sz,fun y hy =>(by rw [HIN2.out] at hy;cases hy),fun _ =>HG1.out⟩,(HJ5.out.less (fun k hk =>.inl hk)).room (by omega),fun k hk =>(HP5.out k (.inl hk)).trans ((fun k hk =>(HP3.out k (.inl hk)).trans (HB1.out.block k (HH.out.lt k hk)):Past T W w3) k hk),Nat.le_trans HSZ.out HS5.out⟩
 | false =>
  clear hq
  have HC3:=yh (zDD A mm c ns [108,111,103] (by have:=HNL.out;omega) w1 (zAD.of_own HO.out))
  go_wp2_with fail
  refine HC3.out.mono ?_
  rintro e w4 ⟨⟨q2,rfl,hq2⟩,hw4⟩
  obtain rfl:=hw4
  cases q2 with
  | true =>
   have HIN2:Hid ((σ.fl [108,111,103]).isSome=true):=(HNS.out.2 [108,111,103]).1 (hq2.1 rfl)
   clear hq2
   go_wp2
   go_ret
   exact ⟨rfl,σ,⟨HQ.out,HS.out,fun y hy =>hy,fun hn =>by have:=HIN2.out;rw [hn] at this;cases this⟩,(HJ1.out.less (fun k hk =>.inl hk)).room (by omega),(fun k hk =>HB1.out.block k (HH.out.lt k hk):Past T W w1),HB1.out.size⟩
  | false =>
   have HIN2:Hid (σ.fl [108,111,103]=none):=by
    show _=_
    cases e2:σ.fl [108,111,103] with
    | none =>rfl
    | some y =>have:=hq2.2 ((HNS.out.2 [108,111,103]).2 (by rw [e2];rfl));cases this
   clear hq2
   go_wp2_with fail
   refine (HSTA.out σ HQ.out HS.out _ m (by have:=HM.out;omega) w1 HJ1.out).mono ?_
   rintro e w5 ⟨z5,τ5,rfl,hp5,hz5,hj5,hsz5⟩
   obtain ⟨rfl,g1,g2,g3⟩:=zFn HQ.out hz5
   have HG1:=yh g1
   have HG3:=yh g3
   have HZ5:=yh hz5
   have HP5:=yh hp5
   have HJ5:=yh hj5
   have HS5:=yh hsz5
   clear g1 g2 g3 hz5 hp5 hj5 hsz5
   go_wp2
   go_ret
   exact ⟨rfl,τ5,⟨HG3.out,HZ5.out.sz,fun y hy =>(by rw [HIN2.out] at hy;cases hy),fun _ =>HG1.out⟩,(HJ5.out.less (fun k hk =>.inl hk)).room (by omega),fun k hk =>(HP5.out k (.inl hk)).trans ((fun k hk =>HB1.out.block k (HH.out.lt k hk):Past T W w1) k hk),Nat.le_trans HB1.out.size HS5.out⟩
section
variable {w W:World} {base p b m:Nat} {T:Nat→Prop}
def zOY (w:World) (base p b m:Nat) (T:Nat→Prop) (v:Nat) (xs:List Rw) (k:Nat) (W:World) (e:Ending) (w':World):Prop :=
 (∃ A3 E3 c3 d3 zs,e=.returned (.tuple #[.agg #[.int .i64 (v:Int),.slice A3 k c3,.slice E3 k d3,.int .i64 (eo (v:Int) xs k:Int)],.int .i64 0])∧zs.map Rw.say=(xs.take k).map Rw.say∧(∀ z ∈ zs,z.n≤1000000)∧zAj w' W.heap.size k (.slice A3 k c3) (.slice E3 k d3) zs (zDq (v:Int) xs k) ∧
  ∃ T':Nat→Prop,(∀ j,T j→T' j)∧(∀ j,T' j→T j∨W.heap.size≤j)∧InT T' (.slice A3 k c3) (.slice E3 k d3) zs∧JT w base p b T' (Jz (zAS v (v:Int) (xs.take k))) (m+2) w')∧Past T W w'∧W.heap.size≤w'.heap.size
theorem JT.pack {w':World} {P:FsSt→Prop} {lo n:Nat} {va ve:Value} {zs:List Rw} {es:List Value} (h:JT w base p b T P m W) (hb:Below W.heap.size W w') (hr:zAj w' lo n va ve zs es) (hlo:W.heap.size≤lo):∃ T':Nat→Prop,(∀ j,T j→T' j)∧(∀ j,T' j→T j∨W.heap.size≤j)∧InT T' va ve zs∧JT w base p b T' P m w' :=
 ⟨_,fun _ hj =>.inl hj,fun _ hj =>hj.imp id (fun h =>h.1),(hr.inT (T:=T)).wide (fun _ hj =>hj.imp id (fun h =>⟨Nat.le_trans hlo h.1,h.2⟩)),h.wide hb⟩
theorem JT.pack2 {w':World} {P:FsSt→Prop} {K:Nat} {va ve:Value} {zs:List Rw} (h:JT w base p b (fun j =>T j∨(W.heap.size≤j∧j<K)) P m w') (hi:InT (fun j =>T j∨(W.heap.size≤j∧j<K)) va ve zs):∃ T':Nat→Prop,(∀ j,T j→T' j)∧(∀ j,T' j→T j∨W.heap.size≤j)∧InT T' va ve zs∧JT w base p b T' P m w' :=
 ⟨_,fun _ hj =>.inl hj,fun _ hj =>hj.imp id (fun h =>h.1),hi,h⟩
theorem zLs (v k G q:Nat) (xs:List Rw) (C:List UInt8) (hq:C.length=q) (hqm:q≤1073741824) (hG:G≤q) (hGe:eo (v:Int) xs k=G) (hpre:C.take G=zAS v (v:Int) (xs.take k)) (h:JT w base p b T (Jz C) m W) (hm:m≤1000)
  (hGET:Hid (∀ W',Below W.heap.size W W'→∀ A1 c1,q≤c1→zAD W' W'.heap.size 1 A1 q (C.map bv)→Calls Tryz.prog 47 #[.slice A1 q c1] W' (zDO v xs k W'))) :
  Calls Tryz.prog 27 #[.pointer (some ⟨p,0,none⟩),.string (tx [108,111,103])] W (zOY w base p b m T v xs k W):=by
 have hb0:=(Below.refl W.heap.size W).alloc (Nat.le_refl _) (.cells #[.int .i64 0,.slice none 0 0,.slice none 0 0,.int .i64 0] 48)
 have hx0:=zAE W (.cells #[.int .i64 0,.slice none 0 0,.slice none 0 0,.int .i64 0] 48)
 have hRD:Hid (Calls Tryz.prog 19 #[.pointer (some ⟨p,0,none⟩),.string (tx [108,111,103])] (W.alloc (.cells #[.int .i64 0,.slice none 0 0,.slice none 0 0,.int .i64 0] 48)) fun e w' =>(∃ A' c',e=.returned (.tuple #[.slice A' q c',.int .i64 0])∧q≤c'∧zAD w' w'.heap.size 1 A' q (C.map bv))∧Below (W.alloc (.cells #[.int .i64 0,.slice none 0 0,.slice none 0 0,.int .i64 0] 48)).heap.size (W.alloc (.cells #[.int .i64 0,.slice none 0 0,.slice none 0 0,.int .i64 0] 48)) w'):=by
  obtain ⟨σ,N,F,h1,h2,h3,h4,hT,h5,hj⟩:=h
  obtain ⟨hxb,hxf⟩:=h1.below hb0
  have h0:=zFp p b N base σ.down σ.f σ.g σ.fl F [108,111,103] (by unfold maxLen;simp) ⟨C,C.length⟩ hj.log (by show C.length≤_;omega) (W.alloc (.cells #[.int .i64 0,.slice none 0 0,.slice none 0 0,.int .i64 0] 48)) hxb hxf
  simp only [hq] at h0
  refine h0.mono ?_
  rintro e w2 ⟨⟨A',c',rfl,_,ho⟩,hb2⟩
  obtain ⟨_,_,he,hc,hr⟩:=zBF ho
  cases he
  exact ⟨⟨A',c',rfl,hc,hr⟩,hb2⟩
 have HJ:=yh h
 have HGE:=yh hGe
 have HPRE:=yh hpre
 have HB0:=yh hb0
 have HX0:=yh hx0
 have HG:Hid (G≤C.length):=(by omega:G≤C.length)
 have HQ:=yh hq
 clear h hGe hpre hb0 hx0 hq
 go_enter Tryz.func27,Tryz.ntmps27
 go_wp2_with fail
 refine hRD.out.mono ?_
 rintro e w2 ⟨⟨A',c',rfl,hc,hr⟩,hb2⟩
 have HB2:=yh (HB0.out.trans (hb2.mono HB0.out.size))
 have HX2:=yh ((hb2.block W.heap.size (Array.getElem?_eq_some_iff.1 HX0.out).1).trans HX0.out)
 have HR:=yh hr
 have HC:=yh hc
 clear hb2 hr hc hRD
 go_wp2_with fail
 refine (hGET.out _ HB2.out A' c' HC.out HR.out).mono ?_
 rintro e w3 ⟨⟨A3,E3,c3,d3,zs,rfl,hsay,hzn,hro⟩,hb3⟩
 rw [HGE.out]
 have HB3:=yh (HB2.out.trans (hb3.mono HB2.out.size))
 have hx3:=(hb3.block W.heap.size (Array.getElem?_eq_some_iff.1 HX2.out).1).trans HX2.out
 have hb34:=(Below.refl w3.heap.size w3).alloc (Nat.le_refl _) (.cells #[.int .i64 (v:Int),.slice A3 k c3,.slice E3 k d3,.int .i64 (G:Int)] 48)
 have hxf:=zAE w3 (.cells #[.int .i64 (v:Int),.slice A3 k c3,.slice E3 k d3,.int .i64 (G:Int)] 48)
 have hx4:=(hb34.block W.heap.size (Array.getElem?_eq_some_iff.1 hx3).1).trans hx3
 have HB4:=yh (HB3.out.trans (hb34.mono HB3.out.size))
 have HRO:=yh (hro.below hb34)
 have HLT:Hid (W.heap.size<w2.heap.size):=(Array.getElem?_eq_some_iff.1 HX2.out).1
 have HX4:=yh hx4
 have HXF:=yh hxf
 have HSAY:=yh hsay
 have HZN:=yh hzn
 have HUB:=yh HJ.out.under
 have q3:=zAA (i:=3) hxf rfl
 have HLE23:Hid (w2.heap.size≤w3.heap.size):=hb3.size
 clear hb3 hx3 hb34 hx4 hro hsay hzn
 by_cases heq:G=q
 ·have hqg:((G:Int) == (q:Int))=true:=by rw [heq];simp
  have q0:=zAA (i:=0) hxf rfl;have q1:=zAA (i:=1) hxf rfl;have q2:=zAA (i:=2) hxf rfl
  have r0:=zAA (i:=0) HX4.out rfl;have r1:=zAA (i:=1) HX4.out rfl;have r2:=zAA (i:=2) HX4.out rfl;have r3:=zAA (i:=3) HX4.out rfl
  have y0:=zAC (i:=0) HX4.out;have y1:=zAC (i:=1) HX4.out;have y2:=zAC (i:=2) HX4.out;have y3:=zAC (i:=3) HX4.out
  have HEQ:=yh heq
  clear hxf heq
  go_wp2
  have g0:=zBg (W:=w3.alloc (.cells #[.int .i64 (v:Int),.slice A3 k c3,.slice E3 k d3,.int .i64 (G:Int)] 48)) (b:=W.heap.size) (.int .i64 (v:Int)) (.slice A3 k c3) (.slice E3 k d3) (.int .i64 (G:Int))
  have hx5:=zAF (zAF (zAF (zAF HX4.out 0 (.int .i64 (v:Int))) 1 (.slice A3 k c3)) 2 (.slice E3 k d3)) 3 (.int .i64 (G:Int))
  refine bodyPost_ret (zBl Tryz.results27 _ _ W.heap.size _ _ (0,0) _ rfl hx5 Tryz.underlying48 rfl (by kernel_rfl)) rfl ?_
  have hcc:C=zAS v (v:Int) (xs.take k):=by rw [← HPRE.out,List.take_of_length_le (by rw [HQ.out,HEQ.out];exact Nat.le_refl _)]
  have hb5:=HB4.out.grown g0 HB4.out.size (fun k e =>by cases e;exact Nat.le_refl _)
  have hro5:=HRO.out.kept g0 HLT.out
  refine ⟨⟨A3,E3,c3,d3,zs,by rw [HGE.out];rfl,HSAY.out,HZN.out,hro5.less (Nat.le_of_lt HLT.out),?_⟩,Past.of_below hb5 HJ.out.lt,hb5.size⟩
  rw [← hcc]
  exact (HJ.out.room (by omega)).pack hb5 hro5 (Nat.le_of_lt HLT.out)
 ·have hqg:((G:Int) == (q:Int))=false:=by simpa using fun e =>heq (by omega)
  have HJ4:=yh (HJ.out.wide HB4.out)
  have HTR:=yh (zPI HJ4.out hm G HG.out)
  clear hxf heq
  go_wp2_with fail
  refine HTR.out.mono ?_
  rintro e w5 ⟨rfl,hj5,hp5⟩
  have hlt3:=HLE23.out
  have hltw:=HLT.out
  have hT4:∀ j,W.heap.size≤j→j<(w3.alloc (.cells #[.int .i64 (v:Int),.slice A3 k c3,.slice E3 k d3,.int .i64 (G:Int)] 48)).heap.size→w5.heap[j]? = (w3.alloc (.cells #[.int .i64 (v:Int),.slice A3 k c3,.slice E3 k d3,.int .i64 (G:Int)] 48)).heap[j]?:=fun j h1 h2 =>hp5 j (.inr ⟨h1,h2⟩)
  have hs4:(w3.alloc (.cells #[.int .i64 (v:Int),.slice A3 k c3,.slice E3 k d3,.int .i64 (G:Int)] 48)).heap.size=w3.heap.size+1:=by simp
  have hxf5:=(hT4 w3.heap.size (by omega) (by omega)).trans HXF.out
  have hx5:=(hT4 W.heap.size (Nat.le_refl _) (by omega)).trans HX4.out
  have HX5:=yh hx5
  have HRO5:Hid (zAj w5 w2.heap.size k (.slice A3 k c3) (.slice E3 k d3) zs (zDq (v:Int) xs k)):=HRO.out.past ((HRO.out.inT (T:=T)).wide fun j hj =>hj.imp id fun h =>⟨by have:=HLT.out;omega,h.2⟩) hp5
  have HJ5:=yh hj5
  have HPW:Hid (Past T W w5):=fun j hj =>(hp5 j (.inl hj)).trans (HB4.out.block j (HJ.out.lt j hj))
  have HL5:Hid (W.heap.size<w5.heap.size):=zAJ hx5
  have q0:=zAA (i:=0) hxf5 rfl;have q1:=zAA (i:=1) hxf5 rfl;have q2:=zAA (i:=2) hxf5 rfl;have q3':=zAA (i:=3) hxf5 rfl
  have r0:=zAA (i:=0) hx5 rfl;have r1:=zAA (i:=1) hx5 rfl;have r2:=zAA (i:=2) hx5 rfl;have r3:=zAA (i:=3) hx5 rfl
  have y0:=zAC (i:=0) hx5;have y1:=zAC (i:=1) hx5;have y2:=zAC (i:=2) hx5;have y3:=zAC (i:=3) hx5
  clear hxf5 hx5 hT4 hp5 hj5 q3 hlt3 hs4 hltw
  go_wp2
  have g0:=zBg (W:=w5) (b:=W.heap.size) (.int .i64 (v:Int)) (.slice A3 k c3) (.slice E3 k d3) (.int .i64 (G:Int))
  have hx5:=zAF (zAF (zAF (zAF HX5.out 0 (.int .i64 (v:Int))) 1 (.slice A3 k c3)) 2 (.slice E3 k d3)) 3 (.int .i64 (G:Int))
  refine bodyPost_ret (zBl Tryz.results27 _ _ W.heap.size _ _ (0,0) _ rfl hx5 Tryz.underlying48 rfl (by kernel_rfl)) rfl ?_
  have ht:Turn (fun k =>k=W.heap.size) w5 _:=(Turn.refl _ _).grown g0 (fun i e _ =>(Option.some.inj e).symm)
  have hro5:=HRO5.out.kept g0 HLT.out
  have hin:=(HRO.out.inT (T:=T)).wide (T':=fun j =>T j∨(W.heap.size≤j∧j<(w3.alloc (.cells #[.int .i64 (v:Int),.slice A3 k c3,.slice E3 k d3,.int .i64 (G:Int)] 48)).heap.size)) fun j hj =>hj.imp id fun h =>⟨by have:=HLT.out;omega,h.2⟩
  refine ⟨⟨A3,E3,c3,d3,zs,by rw [HGE.out];rfl,HSAY.out,HZN.out,hro5.less (Nat.le_of_lt HLT.out),?_⟩,fun j hj =>(g0.block j (by have:=HJ.out.lt j hj;have:=HL5.out;omega) (fun e =>by have:=HJ.out.lt j hj;have:=Option.some.inj e;omega)).trans (HPW.out j hj),?_⟩
  ·rw [← HPRE.out]
   exact (HJ5.out.kept ht (fun j e =>by subst e;exact ⟨.inr ⟨Nat.le_refl _,by have:=HB4.out.size;have:=HXF.out;have:=(Array.getElem?_eq_some_iff.1 HX4.out).1;omega⟩,HUB.out.2⟩)).pack2 hin
  ·exact Nat.le_trans (Nat.le_of_lt HL5.out) ht.2.2.2.1
end
end Go.Proofs.YtekchkfjgofnkaaGreatDoor
