/- Texts of one proof. -/
import Derived.Test.YtekchkfjgofnkaaGreatDoorMy47
set_option maxRecDepth 100000
set_option maxHeartbeats 8000000
namespace Go.Proofs.YtekchkfjgofnkaaGreatDoor
open Go.RowKit
structure Qs (w:World) (base p b ps:Nat) (T:Nat→Prop) (σ:FsSt) (m:Nat) (X:Sx) (s v N:Nat) (W:World):Prop where
 at_:StAt w base p b ps T σ m X W
 inv:StI X σ
 ov:X.ov=false
 v_:X.v=v
 q:zBb σ
 log:σ.fl [108,111,103]=some ⟨zAS X.v (X.v:Int) X.zs,s⟩
 n_:X.n≤N
 m_:m≤12+2 * N
theorem Qs.below {w W w':World} {base p b ps:Nat} {T:Nat→Prop} {σ:FsSt} {m:Nat} {X:Sx} {s v N:Nat} (h:Qs w base p b ps T σ m X s v N W) (hb:Below W.heap.size W w'):Qs w base p b ps T σ m X s v N w':=⟨h.at_.below hb,h.inv,h.ov,h.v_,h.q,h.log,h.n_,h.m_⟩
theorem OpnS.qs {w W w':World} {base p b m ps v:Nat} {T T':Nat→Prop} {τ:FsSt} {X:Sx} (h:OpnS w base p b m T v [] 0 W ps T' τ X w') (hv:1≤v∧v≤3) (hm:m=0):∃ s,Qs w base p b ps T' τ 12 X s v 0 w':=by
 subst hm
 have h0:X.zs=[]:=by have:=h.say;simpa using this
 have hl:=h.jz.log
 refine ⟨(zAS v (v:Int) []).length,h.at_.room (by omega),h.inv hv (fun x hx =>by cases hx) (fun x hx =>by cases hx) (Nat.le_refl _) (by omega),h.ov,h.v_,h.jz.q,?_,by rw [h.n_];exact Nat.le_refl _,by omega⟩
 rw [hl,h0,h.v_]
 rfl
theorem zCu.qs {w W w':World} {base p b ps:Nat} {T:Nat→Prop} {σ:FsSt} {m:Nat} {X:Sx} {s v N:Nat} {x:Rw} {z:Int} (h:Qs w base p b ps T σ m X s v N W) (hN:N≤800) (hfx:Fits x.r x.l) (hnx:Nums x.r x.l) (hp:zCu w base p b ps m T σ X x W z w') :
  ∃ T' σ' m' X' s',Qs w base p b ps T' σ' m' X' s' v (N+1) w'∧(∀ k,T k→T' k):=by
 have hX:({ X with ov:=false }:Sx)=X:=by rw [← h.ov]
 rcases hp with ⟨h1,_⟩ | ⟨_,_,_,h1,_⟩ | ⟨_,hk,hm,h1,τ,h2,h3⟩
 ·rw [h.ov] at h1;cases h1
 ·exact ⟨T,σ,m,X,s,⟨h1,h.inv,h.ov,h.v_,h.q,h.log,by have:=h.n_;omega,by have:=h.m_;omega⟩,fun _ h =>h⟩
 ·obtain ⟨rfl,_,hq⟩:=zDI h.q (by simp [refC,h.q.1]) h2
  have hlen:=zGH h.inv h.at_.len hm hnx
  obtain ⟨a1,a2,a3,a4,a5,a6⟩:=zIA h.inv.sz h.inv.hf h.inv.hg h.q.1 h.log (by have:=h.inv.good;omega) h2
  rcases h3 with ⟨_,T',A',E',c',d',zs',g1,g2,g3,g4⟩ | ⟨h3,_⟩
  ·have hmore:=h.inv.more (r:=x.r) (l:=x.l) g4 rfl rfl (by have:=h.n_;omega) (by rw [g3,List.map_append];rfl) (by
    intro u hu
    rcases List.mem_append.1 hu with hu | hu
    ·exact h.inv.one u hu
    ·obtain rfl:=List.mem_singleton.1 hu;rfl) rfl hm hfx hnx a4 a1 a2
   refine ⟨T',τ,m+2,_,s,⟨g4,hmore.1,rfl,h.v_,hq,?_,by have:=h.n_;show X.n+1≤_;omega,by have:=h.m_;omega⟩,g1⟩
   rcases a6 with ⟨_,_,e⟩ | ⟨h8,_⟩ | ⟨h7,_⟩
   ·rw [e,hmore.2]
   ·cases h8
   ·cases h7
  ·exact absurd rfl h3
theorem zCT.past {W w':World} {T:Nat→Prop} {base n:Nat} {va:Value} {zs:List Rw} (h:zCT W base va n zs) (hp:Past T W w') (hT:∀ k,base≤k→k<W.heap.size→T k):zCT w' base va n zs :=
 ⟨hp.row h.1 (fun k hk =>hT k (zAG h.1 k hk) (zAP h.1 k hk)),fun z hz =>⟨hp.row (h.2 z hz).1 (fun k hk =>hT k (zAG (h.2 z hz).1 k hk) (zAP (h.2 z hz).1 k hk)),(h.2 z hz).2⟩⟩
theorem JT.read {w W:World} {base p b m:Nat} {T:Nat→Prop} {σ:FsSt} (h:JT w base p b T (fun y =>y=σ) m W) {C:List UInt8} {s:Nat} (hlog:σ.fl [108,111,103]=some ⟨C,s⟩) (hC:C.length≤1073741824) :
  Calls Tryz.prog 19 #[.pointer (some ⟨p,0,none⟩),.string (tx [108,111,103])] W fun e w' =>(∃ A' c',e=.returned (.tuple #[.slice A' C.length c',.int .i64 0])∧w'.ownsRow W.heap.size 5 1 (.slice A' C.length c') C.length (C.map bv))∧Below W.heap.size W w':=by
 obtain ⟨N,F,h1,_⟩:=h.at_
 refine (zFp p b N base σ.down σ.f σ.g σ.fl F [108,111,103] (by unfold maxLen;simp) ⟨C,s⟩ hlog hC W h1.1 h1.2).mono ?_
 rintro e w' ⟨⟨A',c',rfl,_,ho⟩,hb⟩
 exact ⟨⟨A',c',rfl,ho⟩,hb⟩
theorem zFa.under {w W w':World} {base p b ps m:Nat} {T:Nat→Prop} {σ:FsSt} {X:Sx} {o:Oq} {z:Int} (h:zFa w base p b ps m T σ X o W z w'):Below base w w':=by
 have hadd:∀ {D:List UInt8} {x:Rw},zCQ w base p b ps m T σ X D x W z w'→Below base w w':=by
  intro D x ⟨_,τ,_,h3⟩
  rcases h3 with ⟨_,T',A',E',c',d',zs',_,_,_,g⟩ | ⟨_,g⟩
  ·exact g.jt.under.1
  ·exact g.jt.under.1
 rcases h with ⟨_,h⟩ | ⟨_,h⟩ | ⟨_,h⟩ | ⟨_,h⟩
 ·rcases h with ⟨_,_,h,_⟩ | ⟨_,_,_,h,_⟩ | ⟨_,_,_,h⟩
  ·exact h.jt.under.1
  ·exact h.jt.under.1
  ·exact hadd h
 ·rcases h with ⟨_,_,h,_⟩ | ⟨_,_,h,_⟩ | ⟨_,_,_,h⟩
  ·exact h.jt.under.1
  ·exact h.jt.under.1
  ·exact hadd h
 ·rcases h.2 with ⟨_,_,h⟩ | ⟨_,τ,_,h⟩
  ·exact h.jt.under.1
  ·exact h.jt.under.1
 ·rcases h with ⟨_,_,h,_⟩ | ⟨_,_,h,_⟩ | ⟨_,v,_,_,_,_,_,τ,_,h⟩
  ·exact h.jt.under.1
  ·exact h.jt.under.1
  ·rcases h with ⟨_,T',A',E',c',d',zs',_,_,_,g⟩ | ⟨_,g⟩
   ·exact g.jt.under.1
   ·exact g.jt.under.1
theorem zPZ (W:World) (o:Oq):zAD (W.alloc (.cells #[.int .i64 o.k,.int .i64 o.x.r.kind,.string (tx o.x.r.target),.int .u64 o.x.r.rule,.slice o.x.A o.x.n o.x.c,.int .u64 o.x.r.out,.int .u64 o.x.r.time,.string (tx o.x.r.tag),.string (tx o.nm),.slice o.A o.n o.c,.int .i64 o.v,.int .i64 o.m] 43)) (W.alloc (.cells #[.int .i64 o.k,.int .i64 o.x.r.kind,.string (tx o.x.r.target),.int .u64 o.x.r.rule,.slice o.x.A o.x.n o.x.c,.int .u64 o.x.r.out,.int .u64 o.x.r.time,.string (tx o.x.r.tag),.string (tx o.nm),.slice o.A o.n o.c,.int .i64 o.v,.int .i64 o.m] 43)).heap.size 12 (some ⟨W.heap.size,0,none⟩) 1 (oqs [o]):=by
 have h:=zAE W (.cells #[.int .i64 o.k,.int .i64 o.x.r.kind,.string (tx o.x.r.target),.int .u64 o.x.r.rule,.slice o.x.A o.x.n o.x.c,.int .u64 o.x.r.out,.int .u64 o.x.r.time,.string (tx o.x.r.tag),.string (tx o.nm),.slice o.A o.n o.c,.int .i64 o.v,.int .i64 o.m] 43)
 refine ⟨rfl,fun _ =>⟨_,rfl,by simp,fun j u hu =>?_⟩⟩
 have hj:j<12:=(List.getElem?_eq_some_iff.1 hu).1
 have e2:(⟨W.heap.size,0,none⟩:Addr).add j=⟨W.heap.size,j,none⟩:=by simp [Addr.add];exact fun h =>h.symm
 rw [e2]
 refine zAA (i:=j) h ?_
 have e3:(oqs [o])[j]? = (#[.int .i64 o.k,.int .i64 o.x.r.kind,.string (tx o.x.r.target),.int .u64 o.x.r.rule,.slice o.x.A o.x.n o.x.c,.int .u64 o.x.r.out,.int .u64 o.x.r.time,.string (tx o.x.r.tag),.string (tx o.nm),.slice o.A o.n o.c,.int .i64 o.v,.int .i64 o.m]:Array Value)[j]?:=by
  rw [← Array.getElem?_toList]
  show (o.cells++[])[j]? = _
  rw [List.append_nil]
  rfl
 rw [← e3]
 exact hu
theorem zKk (A:Option Addr) (n c:Nat) (xs:List Rw) (hn:n≤maxLen) (hf:∀ x ∈ xs,(Fits x.r x.l∧x.n≤maxLen)∧Nums x.r x.l) (o:Oq) (q:Nat) (hq:q<256) (w:World) (hl:Laid w) (h:Recs w w.heap.size A n xs) (ho:OIn w w.heap.size o) :
  Calls Tryz.prog 4 #[.slice A n c,.agg #[.int .i64 o.k,.int .i64 o.x.r.kind,.string (tx o.x.r.target),.int .u64 o.x.r.rule,.slice o.x.A o.x.n o.x.c,.int .u64 o.x.r.out,.int .u64 o.x.r.time,.string (tx o.x.r.tag),.string (tx o.nm),.slice o.A o.n o.c,.int .i64 o.v,.int .i64 o.m],.int .u8 (q:Int)] w fun e w' =>e=.returned (.bool true)∧Below w.heap.size w w':=by
 have hb0:=(Below.refl w.heap.size w).alloc (Nat.le_refl _) (.cells #[.int .i64 o.k,.int .i64 o.x.r.kind,.string (tx o.x.r.target),.int .u64 o.x.r.rule,.slice o.x.A o.x.n o.x.c,.int .u64 o.x.r.out,.int .u64 o.x.r.time,.string (tx o.x.r.tag),.string (tx o.nm),.slice o.A o.n o.c,.int .i64 o.v,.int .i64 o.m] 43)
 have e0:=zAE w (.cells #[.int .i64 o.k,.int .i64 o.x.r.kind,.string (tx o.x.r.target),.int .u64 o.x.r.rule,.slice o.x.A o.x.n o.x.c,.int .u64 o.x.r.out,.int .u64 o.x.r.time,.string (tx o.x.r.tag),.string (tx o.nm),.slice o.A o.n o.c,.int .i64 o.v,.int .i64 o.m] 43)
 have HFX:=yh (fun (W:World) (hb:Below w.heap.size w W) =>zJy W (hl.below hb))
 have HL:=yh (fun (W:World) (hb:Below w.heap.size w W) =>hl.below hb)
 have HGL:=yh (zHO A n c xs hn (fun x hx =>(hf x hx).1) (w.alloc (.cells #[.int .i64 o.k,.int .i64 o.x.r.kind,.string (tx o.x.r.target),.int .u64 o.x.r.rule,.slice o.x.A o.x.n o.x.c,.int .u64 o.x.r.out,.int .u64 o.x.r.time,.string (tx o.x.r.tag),.string (tx o.nm),.slice o.A o.n o.c,.int .i64 o.v,.int .i64 o.m] 43)) ((h.below hb0).more hb0.size))
 have HGO:=yh (fun (W:World) (hb:Below w.heap.size w W) =>zLp (some ⟨W.heap.size,0,none⟩) 1 1 [o] (by unfold maxLen;omega) (W.alloc (.cells #[.int .i64 o.k,.int .i64 o.x.r.kind,.string (tx o.x.r.target),.int .u64 o.x.r.rule,.slice o.x.A o.x.n o.x.c,.int .u64 o.x.r.out,.int .u64 o.x.r.time,.string (tx o.x.r.tag),.string (tx o.nm),.slice o.A o.n o.c,.int .i64 o.v,.int .i64 o.m] 43)) (zPZ W o) (fun o' hm =>by
  obtain rfl:=List.mem_singleton.1 hm
  have hbb:=hb.alloc hb.size (.cells #[.int .i64 o'.k,.int .i64 o'.x.r.kind,.string (tx o'.x.r.target),.int .u64 o'.x.r.rule,.slice o'.x.A o'.x.n o'.x.c,.int .u64 o'.x.r.out,.int .u64 o'.x.r.time,.string (tx o'.x.r.tag),.string (tx o'.nm),.slice o'.A o'.n o'.c,.int .i64 o'.v,.int .i64 o'.m] 43)
  exact (ho.below hbb).more hbb.size))
 have HR:=yh (fun (W:World) (hb:Below w.heap.size w W) =>(h.below hb).more hb.size)
 have HOI:=yh (fun (W:World) (hb:Below w.heap.size w W) =>(ho.below hb).more hb.size)
 have HFT:=yh hf
 have HXL:Hid (xs.length=n):=h.len
 have HE0:=yh e0
 have HB0:=yh hb0
 have HQ:=yh hq
 obtain ⟨W0,hW0⟩:∃ x,x=w.alloc (.cells #[.int .i64 o.k,.int .i64 o.x.r.kind,.string (tx o.x.r.target),.int .u64 o.x.r.rule,.slice o.x.A o.x.n o.x.c,.int .u64 o.x.r.out,.int .u64 o.x.r.time,.string (tx o.x.r.tag),.string (tx o.nm),.slice o.A o.n o.c,.int .i64 o.v,.int .i64 o.m] 43):=⟨_,rfl⟩
 rw [← hW0] at HGL HE0 HB0
 have HW0:=yh hW0
 clear hb0 e0 hl h ho hf hW0 hq
 go_enter Tryz.func4,Tryz.ntmps4
 go_wp2_with fail
 rw [← HW0.out]
 refine HGL.out.mono ?_
 rintro e w1 ⟨ht,hb1⟩
 have HB1:=yh (HB0.out.trans (hb1.mono HB0.out.size))
 have hx1:=(hb1.block w.heap.size (zAJ HE0.out)).trans HE0.out
 have HX1:=yh hx1
 clear hb1
 by_cases h1:zCm xs
 ·obtain rfl:=ht.no (fun h =>h h1)
  have H1:=yh h1
  have k0:=zAA (i:=0) hx1 rfl
  have k1:=zAA (i:=1) hx1 rfl
  have k2:=zAA (i:=2) hx1 rfl
  have k3:=zAA (i:=3) hx1 rfl
  have k4:=zAA (i:=4) hx1 rfl
  have k5:=zAA (i:=5) hx1 rfl
  have k6:=zAA (i:=6) hx1 rfl
  have k7:=zAA (i:=7) hx1 rfl
  have k8:=zAA (i:=8) hx1 rfl
  have k9:=zAA (i:=9) hx1 rfl
  have k10:=zAA (i:=10) hx1 rfl
  have k11:=zAA (i:=11) hx1 rfl
  clear ht h1 hx1
  go_wp2_with fail
  refine (HGO.out w1 HB1.out).mono ?_
  rintro e w2 ⟨ht,hb2⟩
  have hb12:=HB1.out.alloc HB1.out.size (.cells #[.int .i64 o.k,.int .i64 o.x.r.kind,.string (tx o.x.r.target),.int .u64 o.x.r.rule,.slice o.x.A o.x.n o.x.c,.int .u64 o.x.r.out,.int .u64 o.x.r.time,.string (tx o.x.r.tag),.string (tx o.nm),.slice o.A o.n o.c,.int .i64 o.v,.int .i64 o.m] 43)
  have HB2:=yh (hb12.trans (hb2.mono hb12.size))
  have hx2:=(hb2.block w.heap.size (by have h1:=hb12.size;have h2:=zAJ HX1.out;simp;omega)).trans ((Below.heap_alloc w1 (.cells #[.int .i64 o.k,.int .i64 o.x.r.kind,.string (tx o.x.r.target),.int .u64 o.x.r.rule,.slice o.x.A o.x.n o.x.c,.int .u64 o.x.r.out,.int .u64 o.x.r.time,.string (tx o.x.r.tag),.string (tx o.nm),.slice o.A o.n o.c,.int .i64 o.v,.int .i64 o.m] 43) w.heap.size (zAJ HX1.out)).trans HX1.out)
  have HX2:=yh hx2
  have p0:=zAA (i:=0) hx2 rfl
  clear hb2 hb12 k0 k1 k2 k3 k4 k5 k6 k7 k8 k9 k10 k11 hx2
  by_cases h2:zCP o
  ·obtain rfl:=ht.no (fun h =>h ⟨fun o' hm =>(by obtain rfl:=List.mem_singleton.1 hm;exact h2),by simp⟩)
   have H2:=yh h2
   clear ht h2
   by_cases hk:0≤o.k∧o.k≤3
   ·have HK:=yh hk
    obtain ⟨hk0,hk3⟩:=hk
    go_wp2_with fail
    refine (zNN w2).mono ?_
    rintro e w3 ⟨rfl,hj3,hb3⟩
    have HB3:=yh (HB2.out.trans (hb3.mono HB2.out.size))
    have HX3:=yh ((hb3.block w.heap.size (zAJ HX2.out)).trans HX2.out)
    have HLW:Hid (∀ W',Below w2.heap.size w2 W'→Laid W'):=fun W' hb =>HL.out W' (HB2.out.trans (hb.mono HB2.out.size))
    have HOP:=yh (zJf hj3 (by omega) HLW.out 3 (by omega))
    clear hb3 hj3 p0
    go_wp2_with fail
    refine HOP.out.mono ?_
    rintro e w4 ⟨ps,T4,τ4,X4,rfl,hop⟩
    obtain ⟨s4,hq4⟩:=hop.qs (by omega) rfl
    have HQ4:Hid (∃ T σ m X s,Qs w2 w2.heap.size (w2.heap.size+1) w2.heap.size ps T σ m X s 3 0 w4):=⟨_,_,_,_,_,hq4⟩
    clear hop hq4 HOP
    have hn30:n≤30:=by have h1:=H1.out.2;have h2:=HXL.out;omega
    go_wp2
    go_loopw [51] (fun v51 wr =>∃ i:Nat,i≤n∧v51=.int .i64 (i:Int)∧∃ T σ m X s,Qs w2 w2.heap.size (w2.heap.size+1) w2.heap.size ps T σ m X s 3 i wr) (fun v51 _ =>n - (intOf v51).toNat)
    case atStart =>exact ⟨0,Nat.zero_le _,rfl,HQ4.out⟩
    case round =>
     obtain ⟨i,hi,rfl,T5,σ5,m5,X5,s5,hq5⟩:=hrel
     have HQ5:=yh hq5
     have HB5:=yh (HB2.out.trans (hq5.at_.jt.under.1.mono HB2.out.size))
     have HN30:Hid (n≤30):=hn30
     clear hq5
     by_cases hlt:i<n
     ·obtain ⟨x,hx⟩:∃ x,xs[i]? = some x:=⟨_,List.getElem?_eq_getElem (by have:=HXL.out;omega)⟩
      have hxm:=List.mem_of_getElem? hx
      have hrr:=HR.out wr HB5.out
      obtain ⟨ad,rfl,_,k0,k1,k2,k3,k4,k5,k6⟩:=zBX hrr.1 i x hx
      have hxn:x.n≤60:=by
       have h1:=(hrr.2 x hxm).1.1
       rw [zAn] at h1
       have h2:=(H1.out.1 x hxm).2.1
       omega
      have hal:Below wr.heap.size wr (wr.alloc (.cells #[.int .i64 x.r.kind,.string (tx x.r.target),.int .u64 x.r.rule,.slice x.A x.n x.c,.int .u64 x.r.out,.int .u64 x.r.time,.string (tx x.r.tag)] 41)):=(Below.refl _ wr).alloc (Nat.le_refl _) _
      have hnew:=zAE wr (.cells #[.int .i64 x.r.kind,.string (tx x.r.target),.int .u64 x.r.rule,.slice x.A x.n x.c,.int .u64 x.r.out,.int .u64 x.r.time,.string (tx x.r.tag)] 41)
      have q0:=zAA (i:=0) hnew rfl
      have q1:=zAA (i:=1) hnew rfl
      have q2:=zAA (i:=2) hnew rfl
      have q3:=zAA (i:=3) hnew rfl
      have q4:=zAA (i:=4) hnew rfl
      have q5:=zAA (i:=5) hnew rfl
      have q6:=zAA (i:=6) hnew rfl
      have HQ6:=yh (HQ5.out.below hal)
      have HPT:=yh (zGt HQ6.out.at_ HQ6.out.inv (by have:=HQ6.out.m_;have:=HN30.out;omega) (HLW.out _ HQ6.out.at_.jt.under.1) x.r x.A x.n x.c x.l (HFT.out x hxm).1.1 (HFT.out x hxm).2 (by omega) (hrr.2 x hxm).2 (fun W' _ hb =>((HR.out W' (HB2.out.trans (hb.mono HB2.out.size))).2 x hxm).1))
      have HFX1:Hid (Fits x.r x.l∧Nums x.r x.l):=⟨(HFT.out x hxm).1.1,(HFT.out x hxm).2⟩
      have hi0:(0:Int)≤(i:Int):=by omega
      have hi1:(i:Int)<(n:Int):=by omega
      obtain ⟨⟨k,t,u,oo,m0,g⟩,A6,n6,c6,l6⟩:=x
      simp only at k0 k1 k2 k3 k4 k5 k6 q0 q1 q2 q3 q4 q5 q6 HPT
      clear hx hxm hrr hxn hal hnew
      go_wp2_with fail
      refine HPT.out.mono ?_
      rintro e w6 ⟨z,rfl,hps⟩
      obtain ⟨T7,σ7,m7,X7,s7,hq7,_⟩:=zCu.qs HQ6.out (by have:=HN30.out;omega) HFX1.out.1 HFX1.out.2 hps
      have HQ7:=yh hq7
      clear hps hq7 q0 q1 q2 q3 q4 q5 q6 k0 k1 k2 k3 k4 k5 k6 HPT
      go_wp2
      exact ⟨⟨i+1,by omega,by go_num,T7,σ7,m7,X7,s7,HQ7.out⟩,by simp [intOf];omega⟩
     ·obtain rfl:i=n:=by omega
      have hxk:∀ x ∈ X5.zs,x.t.length≤maxLen∧x.n≤1000:=fun x hx =>⟨(HQ5.out.inv.ok x hx).1.1,(HQ5.out.inv.ok x hx).2.2⟩
      have HXK:=yh hxk
      have HXN:Hid (X5.n≤900):=HQ5.out.inv.few
      have HRC:=yh (zFt HQ5.out.at_ (by have:=HXN.out;omega) (fun x hx =>by have:=(hxk x hx).2;omega))
      have hfl:(fo Rw.k Rw.t X5.zs).length≤900:=by have:=zJO (k:=Rw.k) (t:=Rw.t) X5.zs;have:=HQ5.out.at_.len;have:=HXN.out;omega
      have HFL:=yh hfl
      clear hxk hfl
      go_wp2_with fail
      refine HRC.out.mono ?_
      rintro e w6 ⟨A6,c6,zs6,rfl,hsay6,hown6,hb6⟩
      have hst6:=HQ5.out.at_.wide hb6
      have HS6:=yh hst6
      have HY6:=yh hsay6
      have HW6:=yh hown6
      have HZ6:Hid (wr.heap.size≤w6.heap.size):=hb6.size
      have HAL:=yh (zGs hst6 (by have:=HXN.out;omega) (fun x hx =>⟨(HXK.out x hx).1,by have:=(HXK.out x hx).2;omega⟩))
      obtain ⟨F,hF⟩:∃ F,F=fo Rw.k Rw.t X5.zs:=⟨_,rfl⟩
      rw [← hF] at HAL HFL
      obtain ⟨fl,hfl⟩:∃ fl,fl=F.length:=⟨_,rfl⟩
      rw [← hfl] at HAL HFL
      have HF:=yh hF
      have HFLE:=yh hfl
      obtain ⟨nx,hnx⟩:∃ nx,nx=X5.n:=⟨_,rfl⟩
      rw [← hnx] at HW6 ⊢
      have HNX:=yh hnx
      clear hst6 hsay6 hown6 hb6 HRC hF hfl hnx
      go_wp2_with fail
      refine HAL.out.mono ?_
      rintro e w7 ⟨A7,c7,zs7,rfl,hsay7,hsi7,hb7⟩
      have hst7:=HS6.out.wide hb7
      have HS7:=yh hst7
      have HY7:=yh hsay7
      have HW7:Hid (zCT w7 w6.heap.size (.slice A7 fl c7) fl zs7):=⟨hsi7.1,hsi7.2.2⟩
      have HW67:=yh (HW6.out.below hb7)
      have HZ7:Hid (w6.heap.size≤w7.heap.size):=hb7.size
      have hlog5:=HQ5.out.log
      obtain ⟨C,hC⟩:∃ C,C=zAS X5.v (X5.v:Int) X5.zs:=⟨_,rfl⟩
      rw [← hC] at hlog5
      have HCL:Hid (C.length≤40000000):=(HQ5.out.inv.sz _ _ hlog5).1
      have HLOG:=yh hlog5
      have HRD:=yh (hst7.jt.read hlog5 (by have:=HCL.out;omega))
      obtain ⟨cl,hcl⟩:∃ cl,cl=C.length:=⟨_,rfl⟩
      rw [← hcl] at HRD HCL
      have HCLE:=yh hcl
      have HCE:=yh hC
      clear hst7 hsay7 hsi7 hb7 HAL hlog5 hC hcl
      go_wp2_with fail
      refine HRD.out.mono ?_
      rintro e w8 ⟨⟨A8,c8,rfl,ho8⟩,hb8⟩
      have HS8:=yh (HS7.out.wide hb8)
      have HO8:=yh ho8
      have HW68:=yh (HW67.out.below hb8)
      have HW78:=yh (HW7.out.below hb8)
      have HZ8:Hid (w7.heap.size≤w8.heap.size):=hb8.size
      obtain ⟨y,hy⟩:∃ y,y=q % 4:=⟨_,rfl⟩
      have hy4:y<4:=by omega
      have hrem:Int.tmod (q:Int) 4=(y:Int):=by rw [hy];rfl
      have hwu:IntKind.u8.wrap (y:Int)=(y:Int):=by rw [IntKind.wrap_u8];omega
      have HFA:=yh (zRD HS8.out.jt (y:Int))
      clear ho8 hb8 HRD hy
      go_wp2_with fail
      refine HFA.out.mono ?_
      rintro e w9 ⟨rfl,hp9,hj9⟩
      have HP9:=yh hp9
      have hst9:=HS8.out.past hj9 hp9
      have hi9:StI X5 ⟨σ5.fl,σ5.down,zCn (y:Int),σ5.g⟩:=⟨HQ5.out.inv.v13,HQ5.out.inv.ok,HQ5.out.inv.may,HQ5.out.inv.few,HQ5.out.inv.one,HQ5.out.inv.good,HQ5.out.inv.sz,zOZ (by omega),HQ5.out.inv.hg⟩
      have HS9:=yh hst9
      have HI9:=yh hi9
      have HXW:Hid (∀ W',Below w2.heap.size w2 W'→W'.heap[w.heap.size]? = some (.cells #[.int .i64 o.k,.int .i64 o.x.r.kind,.string (tx o.x.r.target),.int .u64 o.x.r.rule,.slice o.x.A o.x.n o.x.c,.int .u64 o.x.r.out,.int .u64 o.x.r.time,.string (tx o.x.r.tag),.string (tx o.nm),.slice o.A o.n o.c,.int .i64 o.v,.int .i64 o.m] 43 (0,0))):=fun W' hb =>(hb.block w.heap.size (zAJ HX2.out)).trans HX2.out
      have hx9:=HXW.out w9 hst9.jt.under.1
      have k0:=zAA (i:=0) hx9 rfl
      have k1:=zAA (i:=1) hx9 rfl
      have k2:=zAA (i:=2) hx9 rfl
      have k3:=zAA (i:=3) hx9 rfl
      have k4:=zAA (i:=4) hx9 rfl
      have k5:=zAA (i:=5) hx9 rfl
      have k6:=zAA (i:=6) hx9 rfl
      have k7:=zAA (i:=7) hx9 rfl
      have k8:=zAA (i:=8) hx9 rfl
      have k9:=zAA (i:=9) hx9 rfl
      have k10:=zAA (i:=10) hx9 rfl
      have k11:=zAA (i:=11) hx9 rfl
      have HDO:=yh (zLJ hst9 hi9 (fun _ =>HQ5.out.q.1) (by have:=HQ5.out.m_;omega) HLW.out o (HOI.out w2 HB2.out) H2.out HK.out (Nat.le_refl _))
      clear hp9 hj9 hst9 hi9 hx9 HFA hrem hwu
      go_wp2_with fail
      refine HDO.out.mono ?_
      rintro e w10 ⟨z,rfl,hdo⟩
      have hout:=zRy hdo HI9.out HS9.out.len HQ5.out.ov HQ5.out.q.1 HQ5.out.q.2.2 HQ5.out.log ⟨(HOI.out w2 HB2.out).fits,(HOI.out w2 HB2.out).nums⟩
      have HU10:=yh hdo.under
      have HB10:=yh (HB2.out.trans (hdo.under.mono HB2.out.size))
      have HOUT:=yh hout
      clear hdo hout k0 k1 k2 k3 k4 k5 k6 k7 k8 k9 k10 k11 HDO
      by_cases hz8:z=8
      ·subst hz8
       obtain ⟨hval,τ,hst10,hp10,hq10,hsz10,hlog10⟩:=HOUT.out.2 rfl
       have HVAL:=yh hval
       have HS10:=yh hst10
       have HP10:=yh hp10
       have HQ10:=yh hq10
       have HSZ10:=yh hsz10
       have hlog10b:τ.fl [108,111,103]=some ⟨C,s5⟩:=by rw [hlog10];exact HLOG.out
       have HLG10:=yh hlog10b
       have hps:ps<wr.heap.size:=HQ5.out.at_.lt
       have HPS:=yh hps
       have hrd:=hst10.jt.read hlog10b (by have:=HCL.out;have:=HCLE.out;omega)
       rw [← HCLE.out] at hrd
       have HRD2:=yh hrd
       have HPC:Hid (∀ k,wr.heap.size≤k→k<w8.heap.size→w10.heap[k]? = w8.heap[k]?):=fun k h1 h2 =>by
        have hin:((T5 k∨(wr.heap.size≤k∧k<w6.heap.size))∨(w6.heap.size≤k∧k<w7.heap.size))∨(w7.heap.size≤k∧k<w8.heap.size):=by
         by_cases h7:k<w7.heap.size
         ·refine .inl ?_
          by_cases h6:k<w6.heap.size
          ·exact .inl (.inr ⟨h1,h6⟩)
          ·exact .inr ⟨by omega,h7⟩
         ·exact .inr ⟨by omega,h2⟩
        exact (HP10.out k ⟨hin,by have:=HPS.out;omega⟩).trans (HP9.out k hin)
       have HOW8:=yh (zAR HO8.out (fun k hk =>HPC.out k (by have:=zAG HO8.out k hk;have:=HZ6.out;have:=HZ7.out;omega) (zAP HO8.out k hk)))
       have HWAS:=yh (HW68.out.past (T:=fun k =>wr.heap.size≤k∧k<w8.heap.size) (fun k hk =>HPC.out k hk.1 hk.2) (fun k h1 h2 =>⟨h1,h2⟩))
       have HALS:=yh (HW78.out.past (T:=fun k =>wr.heap.size≤k∧k<w8.heap.size) (fun k hk =>HPC.out k hk.1 hk.2) (fun k h1 h2 =>⟨Nat.le_trans HZ6.out h1,h2⟩))
       clear hval hst10 hp10 hq10 hsz10 hlog10 hlog10b hps hrd HW68 HW78 HO8
       go_wp2_with fail
       refine HRD2.out.mono ?_
       rintro e w11 ⟨⟨A11,c11,rfl,ho11⟩,hb11⟩
       have HS11:=yh (HS10.out.below hb11)
       have hcb:=zBV (P:=Tryz.prog) (w:=w11) (src:=59) (dst:=9) (c:=c8) Tryz.underlying59 Tryz.underlying5 Tryz.underlying9 (zAD.of_own (zAK HOW8.out hb11))
       have hcc:=zBV (P:=Tryz.prog) (w:=w11) (src:=59) (dst:=9) (c:=c11) Tryz.underlying59 Tryz.underlying5 Tryz.underlying9 (zAD.of_own ho11)
       have heq:((tx C).toList != (tx C).toList)=false:=by simp
       have HWAS11:=yh (HWAS.out.below hb11)
       have HALS11:=yh (HALS.out.below hb11)
       have hrc:=zFt HS11.out (by have:=HXN.out;omega) (fun x hx =>by have:=(HXK.out x hx).2;omega)
       rw [← HNX.out] at hrc
       have HRC2:=yh hrc
       generalize tx C=sC at *
       clear ho11 hb11 hrc HRD2
       go_wp2_with fail
       refine HRC2.out.mono ?_
       rintro e w12 ⟨A12,c12,zs12,rfl,hsay12,hown12,hb12⟩
       have HS12:=yh (HS11.out.below hb12)
       have HWAS12:=yh (HWAS11.out.below hb12)
       have HALS12:=yh (HALS11.out.below hb12)
       have HNZ:Hid (∀ zs:List Rw,zs.map Rw.say=X5.zs.map Rw.say→∀ z ∈ zs,z.l.length≤1000):=fun zs hs z hz =>by
        obtain ⟨y,hy,e1,e2⟩:=zGM hs hz
        rw [← e2,HQ5.out.at_.dlen y hy]
        exact (HXK.out y hy).2
       have hr12:=zJm A12 A6 nx nx c12 c6 zs12 zs6 (by have:=HNX.out;have:=HXN.out;unfold maxLen;omega) (by have:=HNX.out;have:=HXN.out;unfold maxLen;omega) (fun x hx =>by
        have h1:=HNZ.out zs12 hsay12 x hx
        have h2:=(hown12.2 x hx).1.1
        rw [zAn] at h2
        omega) w12 hown12.recs HWAS12.out.recs
       have HR12:=yh hr12
       have HY12:Hid (zs12.map Rw.say=zs6.map Rw.say):=yh (hsay12.trans HY6.out.symm)
       clear hsay12 hown12 hb12 hr12 hcb hcc heq
       go_wp2_with fail
       refine HR12.out.mono ?_
       rintro e w13 ⟨ht,hb13⟩
       obtain rfl:=ht.yes HY12.out
       have HS13:=yh (HS12.out.below hb13)
       have HALS13:=yh (HALS12.out.below hb13)
       have hal:=zGs HS13.out (by have:=HXN.out;omega) (fun x hx =>⟨(HXK.out x hx).1,by have:=(HXK.out x hx).2;omega⟩)
       rw [← HF.out,← HFLE.out] at hal
       have HAL2:=yh hal
       clear ht hb13 hal
       go_wp2_with fail
       refine HAL2.out.mono ?_
       rintro e w14 ⟨A14,c14,zs14,rfl,hsay14,hsi14,hb14⟩
       have HS14:=yh (HS13.out.below hb14)
       have HALS14:=yh (HALS13.out.below hb14)
       have HFZ:Hid (∀ zs:List Rw,zs.map Rw.say=F.map Rw.say→∀ z ∈ zs,z.l.length≤1000):=fun zs hs z hz =>by
        obtain ⟨y,hy,e1,e2⟩:=zGM hs hz
        rw [HF.out] at hy
        have hyx:=(zJP hy).1
        rw [← e2,HQ5.out.at_.dlen y hyx]
        exact (HXK.out y hyx).2
       have hr14:=zJm A14 A7 fl fl c14 c7 zs14 zs7 (by have:=HFL.out;unfold maxLen;omega) (by have:=HFL.out;unfold maxLen;omega) (fun x hx =>by
        have h1:=HFZ.out zs14 hsay14 x hx
        have h2:=(hsi14.2.2 x hx).1.1
        rw [zAn] at h2
        omega) w14 (zCT.recs ⟨hsi14.1,hsi14.2.2⟩) HALS14.out.recs
       have HR14:=yh hr14
       have HY14:Hid (zs14.map Rw.say=zs7.map Rw.say):=yh (hsay14.trans HY7.out.symm)
       clear hsay14 hsi14 hb14 hr14
       go_wp2_with fail
       refine HR14.out.mono ?_
       rintro e w15 ⟨ht,hb15⟩
       obtain rfl:=ht.yes HY14.out
       have HS15:=yh (HS14.out.below hb15)
       have hver:=zEO ps (w2.heap.size+1) X5 w15 HS15.out.box
       rw [HQ5.out.v_] at hver
       have hovr:=zOB ps (w2.heap.size+1) X5 w15 HS15.out.box
       rw [HQ5.out.ov] at hovr
       have HVER:=yh hver
       have HOVR:=yh hovr
       clear ht hb15 hver hovr
       go_wp2_with fail
       refine HVER.out.mono ?_
       rintro e w16 ⟨rfl,hw⟩
       obtain rfl:=hw
       go_wp2_with fail
       refine HOVR.out.mono ?_
       rintro e w16 ⟨rfl,hw⟩
       obtain rfl:=hw
       go_wp2_with fail
       refine (HFX.out _ (HB2.out.trans (HS15.out.jt.under.1.mono HB2.out.size))).mono ?_
       rintro e w17 ⟨rfl,hb17⟩
       have hst17:=HS15.out.below hb17
       have hi17:StI X5 τ:=⟨HQ5.out.inv.v13,HQ5.out.inv.ok,HQ5.out.inv.may,HQ5.out.inv.few,HQ5.out.inv.one,HQ5.out.inv.good,HSZ10.out,(zCz HQ10.out).1,(zCz HQ10.out).2⟩
       have hx17:=HXW.out w17 hst17.jt.under.1
       have k0:=zAA (i:=0) hx17 rfl
       have k1:=zAA (i:=1) hx17 rfl
       have k2:=zAA (i:=2) hx17 rfl
       have k3:=zAA (i:=3) hx17 rfl
       have k4:=zAA (i:=4) hx17 rfl
       have k5:=zAA (i:=5) hx17 rfl
       have k6:=zAA (i:=6) hx17 rfl
       have k7:=zAA (i:=7) hx17 rfl
       have k8:=zAA (i:=8) hx17 rfl
       have k9:=zAA (i:=9) hx17 rfl
       have k10:=zAA (i:=10) hx17 rfl
       have k11:=zAA (i:=11) hx17 rfl
       have HDO2:=yh (zLJ hst17 hi17 (fun _ =>HQ10.out.1) (by have:=HQ5.out.m_;omega) HLW.out o (HOI.out w2 HB2.out) H2.out HK.out (Nat.le_refl _))
       clear hb17 hst17 hi17 hx17
       go_wp2_with fail
       refine HDO2.out.mono ?_
       rintro e w18 ⟨z,rfl,hdo⟩
       obtain rfl:=zSp hdo HQ5.out.ov HQ10.out (by rw [HLG10.out];rfl) HVAL.out
       have HB18:=yh (HB2.out.trans (hdo.under.mono HB2.out.size))
       clear hdo k0 k1 k2 k3 k4 k5 k6 k7 k8 k9 k10 k11 HDO2
       go_wp2
       go_ret
       exact ⟨rfl,HB18.out⟩
      ·have hz7:(z != 7)=true:=by rw [bne_iff_ne];exact HOUT.out.1
       have hz8b:(z != 8)=true:=by rw [bne_iff_ne];exact hz8
       clear hz8
       go_wp2_with fail
       refine (HFX.out _ HB10.out).mono ?_
       rintro e w17 ⟨rfl,hb17⟩
       have HB17:=yh (HB10.out.trans (hb17.mono HB10.out.size))
       clear hb17
       go_wp2
       go_ret
       exact ⟨rfl,HB17.out⟩
   ·have hkk:o.k<0∨3<o.k:=by omega
    rcases hkk with hk | hk
    ·have hk9:=hk
     go_wp2_with fail
     refine (HFX.out _ HB2.out).mono ?_
     rintro e w9 ⟨rfl,hb9⟩
     have HB9:=yh (HB2.out.trans (hb9.mono HB2.out.size))
     clear hb9
     go_wp2
     go_ret
     exact ⟨rfl,HB9.out⟩
    ·have hk0:0≤o.k:=by omega
     go_wp2_with fail
     refine (HFX.out _ HB2.out).mono ?_
     rintro e w9 ⟨rfl,hb9⟩
     have HB9:=yh (HB2.out.trans (hb9.mono HB2.out.size))
     clear hb9
     go_wp2
     go_ret
     exact ⟨rfl,HB9.out⟩
  ·obtain rfl:=ht.yes (fun h =>h2 (h.1 o (List.mem_singleton.2 rfl)))
   clear ht h2
   go_wp2_with fail
   refine (HFX.out _ HB2.out).mono ?_
   rintro e w9 ⟨rfl,hb9⟩
   have HB9:=yh (HB2.out.trans (hb9.mono HB2.out.size))
   clear hb9
   go_wp2
   go_ret
   exact ⟨rfl,HB9.out⟩
 ·obtain rfl:=ht.yes h1
  clear ht h1 hx1
  go_wp2_with fail
  refine (HFX.out _ HB1.out).mono ?_
  rintro e w9 ⟨rfl,hb9⟩
  have HB9:=yh (HB1.out.trans (hb9.mono HB1.out.size))
  clear hb9
  go_wp2
  go_ret
  exact ⟨rfl,HB9.out⟩
open Go.ChangeShapes Go.WideShapes Go.ChangeAt Go.RowKit Go.Deep
theorem c_op:Tryz.prog.cellsOf 43=12:=by kernel_rfl
theorem zOd:Tryz.prog.cellsOf 33=1:=by kernel_rfl
theorem zHw {H:Type} {enc:TypeId×Value→H} {W:World} {fuel:Nat} {cs:List Value} {x:DataW H×List MemPlace} (hf:DataW.trod enc Tryz.prog W 0 (fun _ =>true) true fuel 33 cs=some x) :
  ∃ (A:Option Addr) (n c:Nat) (xs:List Rw),cs=[.slice A n c]∧n≤c∧n≤maxLen∧(A=none→c=0)∧(∀ x ∈ xs,(Fits x.r x.l∧x.n≤maxLen)∧Nums x.r x.l)∧Recs W W.heap.size A n xs:=by
 rcases Go.Deep.open_slice Tryz.underlying33 hf with ⟨hcs,_⟩ | ⟨ad,n,c,m,k,D,Pl,hcs,_,hl,hmx,hm,_,hi⟩
 ·exact ⟨none,0,0,[],hcs,Nat.le_refl _,by omega,fun _ =>rfl,by simp,Recs.nil _ _ _⟩
 ·have hnm:n≤m:=by rw [hm];simp;exact hl
  have hall:∀ i,i<n→∃ x:Rw,((((Fits x.r x.l∧x.n≤maxLen)∧Nums x.r x.l)∧(zAD W W.heap.size 3 x.A x.n (dps x.l)∧(x.A=none→x.c=0))))∧∀ k u,x.cells[k]? = some u→W.cell? (ad.add (i * 7+k))=some u:=by
   intro i hin
   obtain ⟨cs,hcell,htr⟩:=hi i (by omega)
   rw [zIt] at hcell
   obtain ⟨_,_,hat⟩:=World.cells?_some hcell
   obtain ⟨r,A,n',c',l,rfl,h2,h3,h4,h5⟩:=zEf htr
   refine ⟨⟨r,A,n',c',l⟩,⟨⟨⟨h4,h2⟩,zEh htr h5⟩,h5,h3⟩,fun k u hu =>?_⟩
   have hk:k<7:=(List.getElem?_eq_some_iff.1 hu).1
   have h:=hat k (by omega)
   rw [zCL] at h
   rw [h]
   exact hu
  obtain ⟨xs,h1,h2,h3⟩:=zGm W ad _ n hall
  refine ⟨some ad,n,c,xs,hcs,hl,by omega,fun h =>(by cases h),fun x hx =>(h2 x hx).1,⟨by rw [zCh,h1],fun hn =>⟨ad,rfl,?_,fun j u hu =>?_⟩⟩,fun x hx =>(h2 x hx).2⟩
  ·obtain ⟨x,_,h4⟩:=hall 0 hn
   have:=zHm (h4 0 _ rfl)
   rwa [zAQ] at this
  ·obtain ⟨x,g1,g2⟩:=zGr xs j u hu
   have:=h3 _ x g1 _ u g2
   rwa [show j / 7 * 7+j % 7=j by omega] at this
theorem zKY {H:Type} {enc:TypeId×Value→H} {W:World} {fuel:Nat} {cs:List Value} {x:DataW H×List MemPlace} (hf:DataW.trod enc Tryz.prog W 0 (fun _ =>true) true fuel 43 cs=some x) :
  ∃ o:Oq,cs=o.cells∧OIn W W.heap.size o:=by
 obtain ⟨y0,y1,y2,y3,y4,y5,n',hl,g0,g1,g2,g3,g4,g5⟩:=zKH Tryz.underlying43 hf
 rw [c_op] at hl
 rw [zHB] at g0
 rw [zIt] at g1
 rw [zGG] at g2
 rw [zOd] at g3
 rw [zHB] at g4
 rw [zHB] at g5
 obtain ⟨z0,e0,_⟩:=DataW.trod_int Tryz.underlying3 g0
 obtain ⟨r,A,n,c,l,e1,h2,h3,h4,h5⟩:=zEf g1
 have h6:Nums r l:=by rw [e1] at g1;exact zEh g1 h5
 obtain ⟨z2,e2,_,w2⟩:=DataW.trod_string Tryz.underlying9 g2
 obtain ⟨A',n'',c',xs,e3,k1,k2,k3,k4,k5⟩:=zHw g3
 obtain ⟨z4,e4,_⟩:=DataW.trod_int Tryz.underlying3 g4
 obtain ⟨z5,e5,_⟩:=DataW.trod_int Tryz.underlying3 g5
 refine ⟨⟨z0,⟨r,A,n,c,l⟩,z2.data.toList,A',n'',c',xs,z4,z5⟩,?_,⟨h4,h6,h2,h3,h5,by rw [Array.length_toList];exact w2,k2,k3,k1,k4,k5⟩⟩
 match cs,hl with
 | [b0,b1,b2,b3,b4,b5,b6,b7,b8,b9,b10,b11],_ =>
  have f0:=zAy e0
  have f2:=zAy e2
  have f3:=zAy e3
  have f4:=zAy e4
  have f5:=zAy e5
  simp at f0 f2 f3 f4 f5
  subst f0 f2 f3 f4 f5
  simp [zAh] at e1
  obtain ⟨q0,q1,q2,q3,q4,q5,q6⟩:=e1
  subst q0 q1 q2 q3 q4 q5 q6
  unfold Oq.cells
  simp only [zFo]
theorem zRM {H:Type} {enc:TypeId×Value→H} {W:World} {v:Value} {d:DataW H} {ps:List MemPlace} {r0:Reach} {b0:Nat} (hval:Value.okWide Tryz.prog W r0 b0 43 v) (hd:DataW.Trod enc Tryz.prog W 0 (fun _ =>true) true 43 v d ps) :
  ∃ o:Oq,v=.agg #[.int .i64 o.k,.int .i64 o.x.r.kind,.string (tx o.x.r.target),.int .u64 o.x.r.rule,.slice o.x.A o.x.n o.x.c,.int .u64 o.x.r.out,.int .u64 o.x.r.time,.string (tx o.x.r.tag),.string (tx o.nm),.slice o.A o.n o.c,.int .i64 o.v,.int .i64 o.m]∧OIn W W.heap.size o:=by
 obtain ⟨cs,rfl,_⟩:=okWide_struct Tryz.underlying43 hval
 obtain ⟨fuel,hf⟩:=hd
 obtain ⟨o,h1,h2⟩:=zKY hf
 refine ⟨o,?_,h2⟩
 have:cs=o.cells.toArray:=by
  apply Array.ext'
  simpa [Value.cells] using h1
 rw [this]
 rfl
end Go.Proofs.YtekchkfjgofnkaaGreatDoor
