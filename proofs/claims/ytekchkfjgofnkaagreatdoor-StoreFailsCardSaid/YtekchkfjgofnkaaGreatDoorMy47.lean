/- Texts of one proof. -/
import Derived.Test.YtekchkfjgofnkaaGreatDoorMy46
set_option maxRecDepth 100000
set_option maxHeartbeats 8000000
namespace Go.Proofs.YtekchkfjgofnkaaGreatDoor
open Go.RowKit
section
variable {w W W':World} {base p b ps m:Nat} {T:Nat→Prop} {σ:FsSt} {X:Sx} {z:Int} {w':World}
theorem zDx (h:Past (fun k =>T k∧k≠ps) W' w') (hb:Below W.heap.size W W') (hT:∀ k,T k→k<W.heap.size):Past (fun k =>T k∧k≠ps) W w':=fun k hk =>(h k hk).trans (hb.block k (hT k hk.1))
theorem zEg (h:Past T W' w') (hb:Below W.heap.size W W') (hT:∀ k,T k→k<W.heap.size):Past T W w':=fun k hk =>(h k hk).trans (hb.block k (hT k hk))
theorem zCu.ahead {x:Rw} (h:zCu w base p b ps m T σ X x W' z w') (hb:Below W.heap.size W W') (hT:∀ k,T k→k<W.heap.size):zCu w base p b ps m T σ X x W z w':=by
 rcases h with ⟨h1,h2,h3,h4⟩ | ⟨h1,h2,h3,h4,h5⟩ | ⟨h1,h2,h3,h4⟩
 ·exact .inl ⟨h1,h2,h3,zEg h4 hb hT⟩
 ·exact .inr (.inl ⟨h1,h2,h3,h4,zDx h5 hb hT⟩)
 ·exact .inr (.inr ⟨h1,h2,h3,h4.ahead hb hT⟩)
theorem zDB.ahead {t:List UInt8} (h:zDB w base p b ps m T σ X t W' z w') (hb:Below W.heap.size W W') (hT:∀ k,T k→k<W.heap.size):zDB w base p b ps m T σ X t W z w':=by
 rcases h with ⟨h1,h2,h3,h4⟩ | ⟨h1,h2,h3,h4⟩ | ⟨h1,h2,h3,h4⟩
 ·exact .inl ⟨h1,h2,h3,zEg h4 hb hT⟩
 ·exact .inr (.inl ⟨h1,h2,h3,zDx h4 hb hT⟩)
 ·exact .inr (.inr ⟨h1,h2,h3,h4.ahead hb hT⟩)
theorem zCf.ahead (h:zCf w base p b ps m T σ X W' z w') (hb:Below W.heap.size W W') (hT:∀ k,T k→k<W.heap.size):zCf w base p b ps m T σ X W z w':=⟨zDx h.1 hb hT,h.2⟩
theorem zCk.ahead {ver:Int} {n:Nat} {xs:List Rw} (h:zCk w base p b ps m T σ X ver n xs W' z w') (hb:Below W.heap.size W W') (hT:∀ k,T k→k<W.heap.size) (hp:T ps) (hi:InT T (.slice X.A X.n X.c) (.slice X.E X.n X.d) X.zs):zCk w base p b ps m T σ X ver n xs W z w':=by
 rcases h with ⟨h1,h2,h3,h4⟩ | ⟨h1,h2,h3,h4⟩ | ⟨h1,v,h2,h3,h4,h5,h6⟩
 ·exact .inl ⟨h1,h2,h3,zEg h4 hb hT⟩
 ·exact .inr (.inl ⟨h1,h2,h3,zDx h4 hb hT⟩)
 ·exact .inr (.inr ⟨h1,v,h2,h3,h4,h5,h6.ahead (fun _ h =>h) (fun _ h =>.inl h) hb hT hp hi⟩)
end
def zFa (w:World) (base p b ps m:Nat) (T:Nat→Prop) (σ:FsSt) (X:Sx) (o:Oq) (W:World) (z:Int) (w':World):Prop :=
 (o.k=0∧zCu w base p b ps m T σ X o.x W z w')∨(o.k=1∧zDB w base p b ps m T σ X o.nm W z w')∨(o.k=2∧zCf w base p b ps m T σ X W z w')∨(o.k=3∧zCk w base p b ps m T σ X o.v o.n o.xs W z w')
theorem zLJ {w W:World} {base p b ps m:Nat} {T:Nat→Prop} {σ:FsSt} {X:Sx} (h:StAt w base p b ps T σ m X W) (hi:StI X σ) (hdn:X.ov=false→σ.down=false) (hm:m≤40000) (hl:∀ W',Below base w W'→Laid W') (o:Oq) (ho:OIn w base o) (hs:zCP o) (hk:0≤o.k∧o.k≤3) (hbw:base≤w.heap.size) :
  Calls Tryz.prog 20 #[.pointer (some ⟨ps,0,none⟩),.agg #[.int .i64 o.k,.int .i64 o.x.r.kind,.string (tx o.x.r.target),.int .u64 o.x.r.rule,.slice o.x.A o.x.n o.x.c,.int .u64 o.x.r.out,.int .u64 o.x.r.time,.string (tx o.x.r.tag),.string (tx o.nm),.slice o.A o.n o.c,.int .i64 o.v,.int .i64 o.m]] W fun e w' =>∃ z:Int,e=.returned (.int .i64 z)∧zFa w base p b ps m T σ X o W z w':=by
 have hb1:=(Below.refl W.heap.size W).alloc (Nat.le_refl _) (.cells #[.int .i64 o.k,.int .i64 o.x.r.kind,.string (tx o.x.r.target),.int .u64 o.x.r.rule,.slice o.x.A o.x.n o.x.c,.int .u64 o.x.r.out,.int .u64 o.x.r.time,.string (tx o.x.r.tag),.string (tx o.nm),.slice o.A o.n o.c,.int .i64 o.v,.int .i64 o.m] 43)
 have e1:=zAE W (.cells #[.int .i64 o.k,.int .i64 o.x.r.kind,.string (tx o.x.r.target),.int .u64 o.x.r.rule,.slice o.x.A o.x.n o.x.c,.int .u64 o.x.r.out,.int .u64 o.x.r.time,.string (tx o.x.r.tag),.string (tx o.nm),.slice o.A o.n o.c,.int .i64 o.v,.int .i64 o.m] 43)
 have h1:=h.below hb1
 have hub:=h1.jt.under
 have hxl:o.x.n≤60:=by
  have:=ho.rd.1
  rw [zAn] at this
  have:=hs.1.2.1
  omega
 have hz:∀ x ∈ X.zs,x.t.length≤maxLen:=fun x hx =>(hi.ok x hx).1.1
 have hok:∀ x ∈ o.xs,Fits x.r x.l∧Nums x.r x.l∧x.n≤1000:=fun x hx =>⟨(ho.ok x hx).1.1,(ho.ok x hx).2,by
  have h2:=(ho.rs.2 x hx).1.1
  rw [zAn] at h2
  have h3:=(hs.2.1.1 x hx).2.1
  omega⟩
 have hlen:o.xs.length=o.n:=ho.rs.len
 have hn30:o.n≤900:=by have:=hs.2.1.2;omega
 have HPUT:=yh (zGt h1 hi hm (hl _ hub.1) o.x.r o.x.A o.x.n o.x.c o.x.l ho.fits ho.nums (by omega) ho.xA (fun W' _ hb =>(ho.rd.below hb).more (Nat.le_trans hbw hb.size)))
 have HDEL:=yh (zKi h1 hi hm (hl _ hub.1) hz o.nm ho.nm)
 have HCOM:=yh (zKh h1 hi hm)
 have HREW:=yh (zPu h1 hi hdn hm hl o.v o.A o.n o.c o.xs hok hlen hn30 (fun W' _ hb =>((ho.below hb).more (Nat.le_trans hbw hb.size)).rs))
 have HB1:=yh hb1
 have HH:=yh h
 have HK:=yh hk
 obtain ⟨kk,⟨⟨k,t,u,oo,m0,g⟩,A4,n4,c4,l4⟩,nm,A5,n5,c5,xs5,ver,mm⟩:=o
 simp only at HPUT HDEL HREW HK e1 ⊢
 have q0:=zAA (i:=0) e1 rfl
 have q1:=zAA (i:=1) e1 rfl
 have q2:=zAA (i:=2) e1 rfl
 have q3:=zAA (i:=3) e1 rfl
 have q4:=zAA (i:=4) e1 rfl
 have q5:=zAA (i:=5) e1 rfl
 have q6:=zAA (i:=6) e1 rfl
 have q7:=zAA (i:=7) e1 rfl
 have q8:=zAA (i:=8) e1 rfl
 have q9:=zAA (i:=9) e1 rfl
 have q10:=zAA (i:=10) e1 rfl
 have q11:=zAA (i:=11) e1 rfl
 have hk0:=HK.out.1
 have hk3:=HK.out.2
 clear hb1 e1 h1 hub hxl hz hok hlen hn30 h hi hdn hl ho hs hk
 by_cases e0:kk=0
 ·subst e0
  go_enter Tryz.func20,Tryz.ntmps20
  go_wp2_with fail
  refine HPUT.out.mono ?_
  rintro e w2 ⟨z,rfl,hq⟩
  have HQ:=yh hq
  clear hq
  go_wp2
  go_ret
  exact ⟨z,rfl,.inl ⟨rfl,HQ.out.ahead HB1.out HH.out.jt.lt⟩⟩
 by_cases e1:kk=1
 ·subst e1
  go_enter Tryz.func20,Tryz.ntmps20
  go_wp2_with fail
  refine HDEL.out.mono ?_
  rintro e w2 ⟨z,rfl,hq⟩
  have HQ:=yh hq
  clear hq
  go_wp2
  go_ret
  exact ⟨z,rfl,.inr (.inl ⟨rfl,HQ.out.ahead HB1.out HH.out.jt.lt⟩)⟩
 by_cases e2:kk=2
 ·subst e2
  go_enter Tryz.func20,Tryz.ntmps20
  go_wp2_with fail
  refine HCOM.out.mono ?_
  rintro e w2 ⟨z,rfl,hq⟩
  have HQ:=yh hq
  clear hq
  go_wp2
  go_ret
  exact ⟨z,rfl,.inr (.inr (.inl ⟨rfl,HQ.out.ahead HB1.out HH.out.jt.lt⟩))⟩
 ·obtain rfl:kk=3:=by omega
  go_enter Tryz.func20,Tryz.ntmps20
  go_wp2_with fail
  refine HREW.out.mono ?_
  rintro e w2 ⟨z,rfl,hq⟩
  have HQ:=yh hq
  clear hq
  go_wp2
  go_ret
  exact ⟨z,rfl,.inr (.inr (.inr ⟨rfl,HQ.out.ahead HB1.out HH.out.jt.lt HH.out.tp HH.out.inT⟩))⟩
def zMX (X:Sx) (o:Oq):Prop :=
 (o.k=0∧o.x.r.kind=1∧MayP (X.v:Int) o.x.r o.x.l)∨(o.k=1∧zBI o.nm=true∧(zAu (fo Rw.k Rw.t X.zs) o.nm).isSome=true)∨o.k=2∨(o.k=3∧∃ v:Nat,o.v=(v:Int)∧1≤v∧v≤3∧zAe (v:Int) o.xs)
section
variable {w W:World} {base p b ps m:Nat} {T:Nat→Prop} {σ:FsSt} {X:Sx} {z:Int} {w':World} {o:Oq}
theorem zRy (hd:zFa w base p b ps m T σ X o W z w') (hi:StI X σ) (hlx:X.zs.length=X.n) (hov:X.ov=false) (hdn:σ.down=false) (hg:σ.g.1=false) {s:Nat} (hlog:σ.fl [108,111,103]=some ⟨zAS X.v (X.v:Int) X.zs,s⟩) (ho:Fits o.x.r o.x.l∧Nums o.x.r o.x.l) :
  z≠7∧(z=8→zMX X o∧∃ τ,StAt w base p b ps T τ (m+8) X w'∧Past (fun k =>T k∧k≠ps) W w'∧zBb τ∧SzS 40000000 τ∧τ.fl [108,111,103]=σ.fl [108,111,103]):=by
 have hX:({ X with ov:=false }:Sx)=X:=by rw [← hov]
 have hadd:∀ {r:Rc} {l:List Dp} {x:Rw},MayP (X.v:Int) r l→Nums r l→zCQ w base p b ps m T σ X (frD X r l) x W z w'→z≠7∧(z=8→∃ τ,StAt w base p b ps T τ (m+8) X w'∧Past (fun k =>T k∧k≠ps) W w'∧zBb τ∧SzS 40000000 τ∧τ.fl [108,111,103]=σ.fl [108,111,103]):=by
  intro r l x hm hn ⟨h1,τ,h2,h3⟩
  have hlen:=zGH hi hlx hm hn
  obtain ⟨a1,a2,a3,a4,a5,a6⟩:=zIA hi.sz hi.hf hi.hg hdn hlog (by have:=hi.good;omega) h2
  rcases a6 with ⟨hz,_⟩ | ⟨hz,d,e,f,_⟩ | ⟨hz,_,_,g⟩
  ·exact ⟨by omega,fun h =>by omega⟩
  ·refine ⟨by omega,fun _ =>?_⟩
   rcases h3 with ⟨h4,_⟩ | ⟨_,h4⟩
   ·omega
   ·rw [hz,show ((8:Int) == 7)=false from rfl,hX] at h4
    exact ⟨τ,h4.room (by omega),h1,⟨d,f,a3.2 hg⟩,a4,by rw [e,hlog]⟩
  ·rw [hg] at g;cases g
 rcases hd with ⟨hk,hd⟩ | ⟨hk,hd⟩ | ⟨hk,hd⟩ | ⟨hk,hd⟩
 ·rcases hd with ⟨h,_⟩ | ⟨_,_,h,_⟩ | ⟨_,h1,h2,h3⟩
  ·rw [hov] at h;cases h
  ·exact ⟨by omega,fun h =>by omega⟩
  ·obtain ⟨b1,b2⟩:=hadd h2 ho.2 h3
   exact ⟨b1,fun hz =>⟨.inl ⟨hk,h1,h2⟩,b2 hz⟩⟩
 ·rcases hd with ⟨h,_⟩ | ⟨_,h,_⟩ | ⟨_,h1,h2,h3⟩
  ·rw [hov] at h;cases h
  ·rcases h with ⟨_,h⟩ | ⟨_,_,h⟩
   ·exact ⟨by omega,fun h =>by omega⟩
   ·exact ⟨by omega,fun h =>by omega⟩
  ·obtain ⟨b1,b2⟩:=hadd (zJS ⟨by have:=hi.v13;omega,by have:=hi.v13;omega⟩ h1) (zIU _) h3
   exact ⟨b1,fun hz =>⟨.inr (.inl ⟨hk,h1,h2⟩),b2 hz⟩⟩
 ·obtain ⟨h1,h2⟩:=hd
  rcases h2 with ⟨h,_⟩ | ⟨_,τ,h3,h4⟩
  ·rw [hov] at h;cases h
  ·obtain ⟨a1,a2,a3,a4,a5,a6⟩:=zPy hi.sz hi.hf hi.hg hdn hlog h3
   rcases a6 with ⟨hz,_⟩ | ⟨hz,d,e,f,_⟩ | ⟨hz,_,_,g⟩
   ·exact ⟨by omega,fun h =>by omega⟩
   ·refine ⟨by omega,fun _ =>⟨.inr (.inr (.inl hk)),?_⟩⟩
    rw [hz,show ((8:Int) == 7)=false from rfl,hX] at h4
    exact ⟨τ,h4.room (by omega),h1,⟨d,f,a3.2 hg⟩,a4,by rw [e,hlog]⟩
   ·rw [hg] at g;cases g
 ·rcases hd with ⟨h,_⟩ | ⟨_,h,_⟩ | ⟨_,v,h1,h2,h3,h4,h5,τ,h6,h7⟩
  ·rw [hov] at h;cases h
  ·rcases h with ⟨_,h⟩ | ⟨_,_,h⟩
   ·exact ⟨by omega,fun h =>by omega⟩
   ·exact ⟨by omega,fun h =>by omega⟩
  ·rcases h6.out with ⟨hz,_⟩ | ⟨hz,e,d,f,_⟩ | ⟨hz,_,_,g⟩
   ·exact ⟨by omega,fun h =>by omega⟩
   ·refine ⟨by omega,fun _ =>⟨.inr (.inr (.inr ⟨hk,v,h1,h2,h3,h4⟩)),?_⟩⟩
    rcases h7 with ⟨h8,_⟩ | ⟨_,h8⟩
    ·omega
    ·rw [hz] at h8
     have h9:StAt w base p b ps T τ (m+8) { X with ov:=false } w':=h8
     rw [hX] at h9
     exact ⟨τ,h9,h5,⟨d,f,h6.aq.2 hg⟩,h6.sz,e⟩
   ·rw [hg] at g;cases g
theorem zSp (hd:zFa w base p b ps m T σ X o W z w') (hov:X.ov=false) (hq:zBb σ) (hlog:(σ.fl [108,111,103]).isSome=true) (hv:zMX X o):z=0:=by
 obtain ⟨y,hy⟩:=Option.isSome_iff_exists.1 hlog
 have hadd:∀ {D:List UInt8} {x:Rw},zCQ w base p b ps m T σ X D x W z w'→z=0:=by
  intro D x ⟨h1,τ,h2,h3⟩
  exact (zDI hq (by simp [refC,hq.1]) h2).1
 rcases hd with ⟨hk,hd⟩ | ⟨hk,hd⟩ | ⟨hk,hd⟩ | ⟨hk,hd⟩
 ·rcases hd with ⟨h,_⟩ | ⟨_,h,_⟩ | ⟨_,h1,h2,h3⟩
  ·rw [hov] at h;cases h
  ·rcases hv with ⟨_,a⟩ | ⟨a,_⟩ | a | ⟨a,_⟩
   ·exact absurd a h
   all_goals omega
  ·exact hadd h3
 ·rcases hd with ⟨h,_⟩ | ⟨_,h,_⟩ | ⟨_,h1,h2,h3⟩
  ·rw [hov] at h;cases h
  ·rcases hv with ⟨a,_⟩ | ⟨_,a1,a2⟩ | a | ⟨a,_⟩
   ·omega
   ·rcases h with ⟨h,_⟩ | ⟨_,h,_⟩
    ·rw [a1] at h;cases h
    ·rw [h] at a2;cases a2
   all_goals omega
  ·exact hadd h3
 ·obtain ⟨h1,h2⟩:=hd
  rcases h2 with ⟨h,_⟩ | ⟨_,τ,h3,h4⟩
  ·rw [hov] at h;cases h
  ·exact (zDI hq (by simp [refC,hq.1,hy]) h3).1
 ·rcases hd with ⟨h,_⟩ | ⟨_,h,_⟩ | ⟨_,v,h1,h2,h3,h4,h5,τ,h6,h7⟩
  ·rw [hov] at h;cases h
  ·rcases hv with ⟨a,_⟩ | ⟨a,_⟩ | a | ⟨_,v,a1,a2,a3,a4⟩
   ·omega
   ·omega
   ·omega
   ·rcases h with ⟨h,_⟩ | ⟨_,h,_⟩
    ·rw [a1] at h;exact absurd (show (1:Int)≤(v:Int)∧(v:Int)≤3 by omega) h
    ·rw [a1] at h;exact absurd a4 h
  ·exact (zFn hq h6).1
end
end Go.Proofs.YtekchkfjgofnkaaGreatDoor
