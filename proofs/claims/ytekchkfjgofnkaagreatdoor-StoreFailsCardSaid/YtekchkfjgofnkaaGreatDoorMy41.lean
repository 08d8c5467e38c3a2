/- Texts of one proof. -/
import Derived.Test.YtekchkfjgofnkaaGreatDoorMy40
set_option maxRecDepth 100000
set_option maxHeartbeats 8000000
namespace Go.Proofs.YtekchkfjgofnkaaGreatDoor
open Go.RowKit
theorem JT.ex {w W:World} {base p b m:Nat} {T:Nat→Prop} {R:List UInt8→Nat→Prop} (h:JT w base p b T (fun σ =>∃ C q,R C q∧Jz (C.take q) σ) m W):∃ C q,R C q∧JT w base p b T (Jz (C.take q)) m W:=by
 obtain ⟨σ,N,F,h1,h2,h3,h4,hT,h5,C,q,hR,h6⟩:=h
 exact ⟨C,q,hR,σ,N,F,h1,h2,h3,h4,hT,h5,h6⟩
theorem JT.keptw {w W w':World} {base p b m:Nat} {S T:Nat→Prop} {P:FsSt→Prop} (h:JT w base p b T P m W) (ht:Turn S W w') (hS:∀ k,k<W.heap.size→S k→T k∧base≤k):JT w base p b (fun k =>T k∨(W.heap.size≤k∧k<w'.heap.size)) P m w':=by
 obtain ⟨σ,N,F,h1,h2,h3,h4,hT,h5,h6⟩:=h
 have hlt:=zHA h1.2 h1.1
 have ht':Turn (fun k =>S k∧k<W.heap.size) W w':=⟨ht.1,ht.2.1,ht.2.2.1,ht.2.2.2.1,fun k hk hn =>ht.2.2.2.2 k hk (fun hs =>hn ⟨hs,hk⟩)⟩
 exact ⟨σ,N,F,h1.past ht' (fun k hk hs =>(h3 k hk).2 (hS k hs.2 hs.1).1),h2,fun k hk =>⟨(h3 k hk).1,fun h =>by rcases h with h | h;exact (h3 k hk).2 h;have:=hlt k hk;omega⟩,Nat.le_trans h4 ht.2.2.2.1,fun k hk =>by rcases hk with hk | hk;exact Nat.lt_of_lt_of_le (hT k hk) ht.2.2.2.1;exact hk.2,h5.trans (ht'.below (fun k hk =>(hS k hk.2 hk.1).2) h4),h6⟩
structure Apt (g:Nat) (va ve:Value) (zs:List Rw):Prop where
 a:va.ownBlock≠some g
 e:ve.ownBlock≠some g
 d:∀ z ∈ zs,(Value.slice z.A z.n z.c).ownBlock≠some g
theorem zAj.apt {W:World} {g lo m:Nat} {va ve:Value} {zs:List Rw} {es:List Value} (h:zAj W lo m va ve zs es) (hg:g<lo∨W.heap.size≤g):Apt g va ve zs :=
 ⟨fun e =>by have:=zAG h.recs g e;have:=zAP h.recs g e;omega,fun e =>by have:=zAG h.ends g e;have:=zAP h.ends g e;omega,fun z hz e =>by have:=zAG (h.deps z hz) g e;have:=zAP (h.deps z hz) g e;omega⟩
theorem zAj.turned {W w':World} {S:Nat→Prop} {lo m:Nat} {va ve:Value} {zs:List Rw} {es:List Value} (h:zAj W lo m va ve zs es) (ht:Turn S W w') (hS:∀ g,g<W.heap.size→S g→Apt g va ve zs):zAj w' lo m va ve zs es :=
 ⟨zAR h.recs (fun k hk =>ht.2.2.2.2 k (zAP h.recs k hk) (fun hs =>(hS k (zAP h.recs k hk) hs).a hk)),fun z hz =>zAR (h.deps z hz) (fun k hk =>ht.2.2.2.2 k (zAP (h.deps z hz) k hk) (fun hs =>(hS k (zAP (h.deps z hz) k hk) hs).d z hz hk)),zAR h.ends (fun k hk =>ht.2.2.2.2 k (zAP h.ends k hk) (fun hs =>(hS k (zAP h.ends k hk) hs).e hk))⟩
theorem zIs {W w':World} {row:Option Nat} (h:W.grownBy w' row):Turn (fun k =>row=some k) W w':=(Turn.refl _ _).grown h (fun _ e _ =>e)
structure ApSt (w1:World) (base p b:Nat) (xs:List Rw) (n a syn bx mm:Nat) (v13:Value) (wr:World):Prop where
 ex:∃ T m A3 c3 E3 d3 zs lo s,JT w1 base p b T (Ja (zAS 3 3 (xs.take n)) s) m wr∧m≤mm∧eo 3 xs syn≤s∧wr.heap[bx]? = some (.cells #[.int .i64 3,.slice A3 n c3,.slice E3 n d3,.int .i64 (eo 3 xs n:Int)] 48 (0,0))∧zs.map Rw.say=(xs.take n).map Rw.say ∧
  zAj wr lo n (.slice A3 n c3) (.slice E3 n d3) zs (zDq 3 xs n)∧InT T (.slice A3 n c3) (.slice E3 n d3) zs∧T bx∧wr.ownsRow base 41 7 v13 a (rws (xs.take a))∧(∀ g,v13.ownBlock=some g→T g∧g≠bx∧Apt g (.slice A3 n c3) (.slice E3 n d3) zs)
 hb:base≤bx
 sy:syn≤n
 na:n≤a
 bw:Below base w1 wr∧base≤wr.heap.size
structure PoSt (w1:World) (base p b:Nat) (xs:List Rw) (u syn mm:Nat) (v13:Value) (wr:World):Prop where
 ex:∃ T m,JT w1 base p b T (fun σ =>∃ C s,(∃ u',syn≤u'∧u'≤u∧C=zAS 3 3 (xs.take u'))∧eo 3 xs syn≤s∧Ja C s σ) m wr∧m≤mm∧wr.ownsRow base 41 7 v13 u (rws (xs.take u))∧∀ g,v13.ownBlock=some g→T g
 sy:syn≤u
 bw:Below base w1 wr∧base≤wr.heap.size
section
variable {w1 wr w':World} {base p b n a syn bx mm:Nat} {xs:List Rw} {v13:Value}
theorem ApSt.post (h:ApSt w1 base p b xs n a syn bx mm v13 wr):PoSt w1 base p b xs a syn mm v13 wr:=by
 obtain ⟨T,m,A3,c3,E3,d3,zs,lo,s,h1,h2,h3,h4,h5,h6,h7,h9,h10,h11⟩:=h.ex
 exact ⟨⟨T,m,h1.imp fun σ hs =>⟨_,s,⟨n,h.sy,h.na,rfl⟩,h3,hs⟩,h2,h10,fun g hg =>(h11 g hg).1⟩,Nat.le_trans h.sy h.na,h.bw⟩
theorem ApSt.below (h:ApSt w1 base p b xs n a syn bx mm v13 wr) (hb:Below wr.heap.size wr w'):ApSt w1 base p b xs n a syn bx mm v13 w':=by
 obtain ⟨T,m,A3,c3,E3,d3,zs,lo,s,h1,h2,h3,h4,h5,h6,h7,h9,h10,h11⟩:=h.ex
 exact ⟨⟨T,m,A3,c3,E3,d3,zs,lo,s,h1.below hb,h2,h3,(hb.block bx (Array.getElem?_eq_some_iff.1 h4).1).trans h4,h5,h6.below hb,h7,h9,zAK h10 hb,h11⟩,h.hb,h.sy,h.na,h.bw.1.trans (hb.mono h.bw.2),Nat.le_trans h.bw.2 hb.size⟩
theorem ApSt.more {mm':Nat} (h:ApSt w1 base p b xs n a syn bx mm v13 wr) (hm:mm≤mm'):ApSt w1 base p b xs n a syn bx mm' v13 wr:=by
 obtain ⟨T,m,A3,c3,E3,d3,zs,lo,s,h1,h2,hr⟩:=h.ex
 exact ⟨⟨T,m,A3,c3,E3,d3,zs,lo,s,h1,Nat.le_trans h2 hm,hr⟩,h.hb,h.sy,h.na,h.bw⟩
theorem PoSt.below {u:Nat} (h:PoSt w1 base p b xs u syn mm v13 wr) (hb:Below wr.heap.size wr w'):PoSt w1 base p b xs u syn mm v13 w':=by
 obtain ⟨T,m,h1,h2,h3,h4⟩:=h.ex
 exact ⟨⟨T,m,h1.below hb,h2,zAK h3 hb,h4⟩,h.sy,h.bw.1.trans (hb.mono h.bw.2),Nat.le_trans h.bw.2 hb.size⟩
theorem ApSt.grow (h:ApSt w1 base p b xs n a syn bx mm v13 wr) {v14:Value} (hg:wr.grownBy w' v13.ownBlock) (ho:w'.ownsRow base 41 7 v14 (a+1) (rws (xs.take (a+1)))) (hv:v14.ownBlock=v13.ownBlock∨v14.ownBlock=some wr.heap.size):ApSt w1 base p b xs n (a+1) syn bx mm v14 w':=by
 obtain ⟨T,m,A3,c3,E3,d3,zs,lo,s,h1,h2,h3,h4,h5,h6,h7,h9,h10,h11⟩:=h.ex
 have ht:=zIs hg
 have hbx:bx<wr.heap.size:=(Array.getElem?_eq_some_iff.1 h4).1
 have hS:∀ k,k<wr.heap.size→v13.ownBlock=some k→T k∧base≤k:=fun k _ hk =>⟨(h11 k hk).1,zAG h10 k hk⟩
 refine ⟨⟨_,m,A3,c3,E3,d3,zs,lo,s,h1.keptw ht hS,h2,h3,(hg.block bx hbx (fun e =>(h11 bx e.symm).2.1 rfl)).trans h4,h5,h6.turned ht (fun g _ hk =>(h11 g hk).2.2),h7.wide (fun _ h =>.inl h),.inl h9,ho,fun g hk =>?_⟩,h.hb,h.sy,by have:=h.na;omega,h.bw.1.grown hg h.bw.2 (fun k hk =>zAG h10 k hk),Nat.le_trans h.bw.2 hg.size⟩
 rcases hv with hv | hv
 ·rw [hv] at hk
  exact ⟨.inl (h11 g hk).1,(h11 g hk).2⟩
 ·have hlt:=zAP ho g hk
  rw [hv] at hk
  obtain rfl:=Option.some.inj hk
  exact ⟨.inr ⟨Nat.le_refl _,hlt⟩,by omega,h6.apt (.inr (Nat.le_refl _))⟩
end
structure Sx where
 ov:Bool
 v:Nat
 A:Option Addr
 n:Nat
 c:Nat
 E:Option Addr
 d:Nat
 G:Nat
 zs:List Rw
 es:List Value
def Sx.cells (p:Nat) (X:Sx):Array Value:=#[.bool X.ov,.pointer (some ⟨p,0,none⟩),.int .i64 (X.v:Int),.slice X.A X.n X.c,.slice X.E X.n X.d,.int .i64 (X.G:Int)]
structure StAt (w:World) (base p b ps:Nat) (T:Nat→Prop) (σ:FsSt) (m:Nat) (X:Sx) (W:World):Prop where
 jt:JT w base p b T (fun y =>y=σ) m W
 box:W.heap[ps]? = some (.cells (X.cells p) 50 (0,0))
 tp:T ps
 bp:base≤ps
 rows:∃ lo,base≤lo∧zAj W lo X.n (.slice X.A X.n X.c) (.slice X.E X.n X.d) X.zs X.es
 inT:InT T (.slice X.A X.n X.c) (.slice X.E X.n X.d) X.zs
 apt:Apt ps (.slice X.A X.n X.c) (.slice X.E X.n X.d) X.zs
section
variable {w W w':World} {base p b ps m:Nat} {T:Nat→Prop} {σ τ:FsSt} {X:Sx}
theorem StAt.past (h:StAt w base p b ps T σ m X W) {m':Nat} (hj:JT w base p b T (fun y =>y=τ) m' w') (hp:Past T W w'):StAt w base p b ps T τ m' X w':=by
 obtain ⟨_,h2,h3,h4,⟨lo,h5,h6⟩,h7,h8⟩:=h
 exact ⟨hj,(hp ps h3).trans h2,h3,h4,⟨lo,h5,h6.past h7 hp⟩,h7,h8⟩
theorem StAt.below (h:StAt w base p b ps T σ m X W) (hb:Below W.heap.size W w'):StAt w base p b ps T σ m X w':=h.past (h.jt.below hb) (Past.of_below hb h.jt.lt)
theorem StAt.room (h:StAt w base p b ps T σ m X W) {m':Nat} (hm:m≤m'):StAt w base p b ps T σ m' X W:=⟨h.jt.room hm,h.box,h.tp,h.bp,h.rows,h.inT,h.apt⟩
theorem StAt.lt (h:StAt w base p b ps T σ m X W):ps<W.heap.size:=h.jt.lt ps h.tp
theorem StAt.less (h:StAt w base p b ps T σ m X W) {T':Nat→Prop} (hT:∀ k,T' k→T k) (hp:T' ps) (hi:InT T' (.slice X.A X.n X.c) (.slice X.E X.n X.d) X.zs):StAt w base p b ps T' σ m X W:=⟨h.jt.less hT,h.box,hp,h.bp,h.rows,hi,h.apt⟩
theorem StAt.wide (h:StAt w base p b ps T σ m X W) (hb:Below W.heap.size W w'):StAt w base p b ps (fun k =>T k∨(W.heap.size≤k∧k<w'.heap.size)) σ m X w':=by
 have h1:=h.below hb
 exact ⟨h.jt.wide hb,h1.box,.inl h1.tp,h1.bp,h1.rows,h1.inT.wide (fun _ h =>.inl h),h1.apt⟩
theorem StAt.kept (h:StAt w base p b ps T σ m X W) {S:Nat→Prop} (ht:Turn S W w') (hS:∀ k,S k→T k∧base≤k) (hp:¬ S ps) (ha:∀ g,g<W.heap.size→S g→Apt g (.slice X.A X.n X.c) (.slice X.E X.n X.d) X.zs):StAt w base p b ps T σ m X w':=by
 obtain ⟨h1,h2,h3,h4,⟨lo,h5,h6⟩,h7,h8⟩:=h
 exact ⟨h1.kept ht hS,(ht.2.2.2.2 ps (h1.lt ps h3) hp).trans h2,h3,h4,⟨lo,h5,h6.turned ht ha⟩,h7,h8⟩
theorem zEP {g:Nat} (h:W.grownBy w' (some g)):Turn (fun k =>k=g) W w':=(Turn.refl _ _).grown h (fun _ e _ =>(Option.some.inj e).symm)
theorem StAt.setov (h:StAt w base p b ps T σ m X W) (q:Bool):StAt w base p b ps T σ m { X with ov:=q } (W.setCell ⟨ps,0,none⟩ (.bool q))∧Turn (fun k =>k=ps) W (W.setCell ⟨ps,0,none⟩ (.bool q)):=by
 obtain ⟨c1,c2⟩:=zAo (i:=0) h.box (.bool q)
 have ht:=zEP c2
 obtain ⟨h1,h2,h3,h4,⟨lo,h5,h6⟩,h7,h8⟩:=h
 exact ⟨⟨h1.kept ht (fun k e =>by subst e;exact ⟨h3,h4⟩),c1,h3,h4,⟨lo,h5,h6.turned ht (fun g _ e =>by subst e;exact h8)⟩,h7,h8⟩,ht⟩
theorem StAt.setfile (h:StAt w base p b ps T σ m X W) (v n c d G lo:Nat) (A E:Option Addr) (zs:List Rw) (es:List Value) (hlo:base≤lo) (hr:zAj W lo n (.slice A n c) (.slice E n d) zs es) (hi:InT T (.slice A n c) (.slice E n d) zs) (ha:Apt ps (.slice A n c) (.slice E n d) zs) :
  StAt w base p b ps T σ m ⟨X.ov,v,A,n,c,E,d,G,zs,es⟩ ((((W.setCell ⟨ps,2,none⟩ (.int .i64 (v:Int))).setCell ⟨ps,3,none⟩ (.slice A n c)).setCell ⟨ps,4,none⟩ (.slice E n d)).setCell ⟨ps,5,none⟩ (.int .i64 (G:Int))) ∧
  Turn (fun k =>k=ps) W ((((W.setCell ⟨ps,2,none⟩ (.int .i64 (v:Int))).setCell ⟨ps,3,none⟩ (.slice A n c)).setCell ⟨ps,4,none⟩ (.slice E n d)).setCell ⟨ps,5,none⟩ (.int .i64 (G:Int))):=by
 obtain ⟨c1,d1⟩:=zAo (i:=2) h.box (.int .i64 (v:Int))
 obtain ⟨c2,d2⟩:=zAo (i:=3) c1 (.slice A n c)
 obtain ⟨c3,d3⟩:=zAo (i:=4) c2 (.slice E n d)
 obtain ⟨c4,d4⟩:=zAo (i:=5) c3 (.int .i64 (G:Int))
 have ht:=((zEP d1).trans (zEP d2) (fun _ _ h =>h)).trans ((zEP d3).trans (zEP d4) (fun _ _ h =>h)) (fun _ _ h =>h)
 obtain ⟨h1,h2,h3,h4,_,h7,h8⟩:=h
 exact ⟨⟨h1.kept ht (fun k e =>by subst e;exact ⟨h3,h4⟩),c4,h3,h4,⟨lo,hlo,hr.turned ht (fun g _ e =>by subst e;exact ha)⟩,hi,ha⟩,ht⟩
end
theorem zOB (ps p:Nat) (X:Sx) (W:World) (h:W.heap[ps]? = some (.cells (X.cells p) 50 (0,0))) :
  Calls Tryz.prog 11 #[.pointer (some ⟨ps,0,none⟩)] W fun e w' =>e=.returned (.bool X.ov)∧W=w':=by
 have c0:W.cell? ⟨ps,0,none⟩=some (.bool X.ov):=zAA (i:=0) h rfl
 clear h
 go_enter Tryz.func11,Tryz.ntmps11
 go_wp2
 go_ret
 exact ⟨rfl,rfl⟩
theorem zEO (ps p:Nat) (X:Sx) (W:World) (h:W.heap[ps]? = some (.cells (X.cells p) 50 (0,0))) :
  Calls Tryz.prog 22 #[.pointer (some ⟨ps,0,none⟩)] W fun e w' =>e=.returned (.int .i64 (X.v:Int))∧W=w':=by
 have c2:W.cell? ⟨ps,2,none⟩=some (.int .i64 (X.v:Int)):=zAA (i:=2) h rfl
 clear h
 go_enter Tryz.func22,Tryz.ntmps22
 go_wp2
 go_ret
 exact ⟨rfl,rfl⟩
theorem zDi (ps p:Nat) (X:Sx) (W:World) (h:W.heap[ps]? = some (.cells (X.cells p) 50 (0,0))) (ho:X.ov=true) (k:FuncId) (cap:Array Value) :
  Calls Tryz.prog 34 #[.pointer (some ⟨ps,0,none⟩),.func (.func k) #[] cap] W fun e w' =>e=.returned (.int .i64 7)∧W=w':=by
 have c0:W.cell? ⟨ps,0,none⟩=some (.bool true):=by rw [← ho];exact zAA (i:=0) h rfl
 clear h
 go_enter Tryz.func34,Tryz.ntmps34
 go_wp2
 go_ret
 exact ⟨rfl,rfl⟩
theorem zDh (ps p:Nat) (X:Sx) (W:World) (h:W.heap[ps]? = some (.cells (X.cells p) 50 (0,0))) (ho:X.ov=false) (k:FuncId) (cap:Array Value) (hen:Enters Tryz.prog k) (Q:Int→World→Prop)
  (hQ:∀ z w1,Q z w1→∃ Y:Sx,w1.heap[ps]? = some (.cells (Y.cells p) 50 (0,0))) (hc:Calls Tryz.prog k cap W fun e w' =>∃ z:Int,e=.returned (.int .i64 z)∧Q z w') :
  Calls Tryz.prog 34 #[.pointer (some ⟨ps,0,none⟩),.func (.func k) #[] cap] W fun e w' =>∃ (z:Int) (w1:World),e=.returned (.int .i64 z)∧Q z w1∧w'=w1.setCell ⟨ps,0,none⟩ (.bool (z == 7)):=by
 have c0:W.cell? ⟨ps,0,none⟩=some (.bool false):=by rw [← ho];exact zAA (i:=0) h rfl
 have hen2:∀ (args:Array Value) (w:World),(callFunc k args).run Tryz.prog w=.ok (.enter k args) w:=hen
 have HC:=yh hc
 have HQ:=yh hQ
 clear h hc hQ hen ho
 go_enter Tryz.func34,Tryz.ntmps34
 go_wp2_with fail
 refine HC.out.mono ?_
 rintro e w1 ⟨z,rfl,hq⟩
 obtain ⟨Y,hy⟩:=HQ.out z w1 hq
 have HQ1:=yh hq
 have d0:w1.cell? ⟨ps,0,none⟩=some (.bool Y.ov):=zAA (i:=0) hy rfl
 have f0:w1.frozen? ⟨ps,0,none⟩=false:=zAC (i:=0) hy
 clear hq hy c0
 go_wp2
 go_ret
 exact ⟨z,w1,rfl,HQ1.out,rfl⟩
theorem zJz {w W:World} {base p b ps m:Nat} {T:Nat→Prop} {σ:FsSt} {X:Sx} (h:StAt w base p b ps T σ m X W) (v n c d G lo:Nat) (A E:Option Addr) (zs:List Rw) (es:List Value) (hlo:base≤lo) (hr:zAj W lo n (.slice A n c) (.slice E n d) zs es) (hi:InT T (.slice A n c) (.slice E n d) zs) (ha:Apt ps (.slice A n c) (.slice E n d) zs) :
  Calls Tryz.prog 54 #[.pointer (some ⟨ps,0,none⟩),.agg #[.int .i64 (v:Int),.slice A n c,.slice E n d,.int .i64 (G:Int)],.int .i64 0] W fun e w' =>e=.returned (.int .i64 0)∧StAt w base p b ps T σ m ⟨X.ov,v,A,n,c,E,d,G,zs,es⟩ w'∧Turn (fun k =>k=ps) W w':=by
 have hb1:=(Below.refl W.heap.size W).alloc (Nat.le_refl _) (.cells #[.int .i64 (v:Int),.slice A n c,.slice E n d,.int .i64 (G:Int)] 48)
 have e1:=zAE W (.cells #[.int .i64 (v:Int),.slice A n c,.slice E n d,.int .i64 (G:Int)] 48)
 have h1:=h.below hb1
 have HF:=yh (h1.setfile v n c d G lo A E zs es hlo (hr.below hb1) hi ha)
 have HB:=yh hb1
 have k0:=zAA (i:=0) e1 rfl
 have k1:=zAA (i:=1) e1 rfl
 have k2:=zAA (i:=2) e1 rfl
 have k3:=zAA (i:=3) e1 rfl
 have c2:=zAA (i:=2) h1.box rfl
 have c3:=zAA (i:=3) h1.box rfl
 have c4:=zAA (i:=4) h1.box rfl
 have c5:=zAA (i:=5) h1.box rfl
 have f2:=zAC (i:=2) h1.box
 have f3:=zAC (i:=3) h1.box
 have f4:=zAC (i:=4) h1.box
 have f5:=zAC (i:=5) h1.box
 clear hb1 e1 h1 h hr hi ha hlo
 go_enter Tryz.func54,Tryz.ntmps54
 go_wp2
 go_ret
 exact ⟨rfl,HF.out.1,(Turn.of_below HB.out).trans HF.out.2 (fun _ _ h =>h)⟩
theorem zPs (ps:Nat) (v G:Int) (va ve:Value) (z:Int) (hz:z≠0) (W:World) :
  Calls Tryz.prog 54 #[.pointer (some ⟨ps,0,none⟩),.agg #[.int .i64 v,va,ve,.int .i64 G],.int .i64 z] W fun e w' =>e=.returned (.int .i64 z)∧Below W.heap.size W w':=by
 have HB:=yh ((Below.refl W.heap.size W).alloc (Nat.le_refl _) (.cells #[.int .i64 v,va,ve,.int .i64 G] 48))
 have hze:(z == 0)=false:=by simpa using hz
 clear hz
 go_enter Tryz.func54,Tryz.ntmps54
 go_wp2
 go_ret
 exact ⟨rfl,HB.out⟩
theorem Past.lt {T:Nat→Prop} {W w':World} (h:Past T W w') {k:Nat} (hk:T k) (hl:k<W.heap.size):k<w'.heap.size:=by
 rcases Nat.lt_or_ge k w'.heap.size with h6 | h6
 ·exact h6
 ·have h4:=h k hk
  rw [Array.getElem?_eq_none h6,Array.getElem?_eq_getElem hl] at h4
  cases h4
structure StI (X:Sx) (σ:FsSt):Prop where
 v13:1≤X.v∧X.v≤3
 ok:∀ x ∈ X.zs,Fits x.r x.l∧Nums x.r x.l∧x.n≤1000
 may:zAe (X.v:Int) X.zs
 few:X.n≤900
 one:∀ u ∈ X.es,u.oneCell'=true
 good:X.G=(zAS X.v (X.v:Int) X.zs).length
 sz:SzS 40000000 σ
 hf:zAN σ.f
 hg:zAN σ.g
theorem StAt.past2 {w W w':World} {base p b ps m:Nat} {T:Nat→Prop} {σ τ:FsSt} {X:Sx} (h:StAt w base p b ps T σ m X W) {m':Nat} {T':Nat→Prop} (hT:∀ k,T k→T' k) (hj:JT w base p b T' (fun y =>y=τ) m' w') (hp:Past T W w'):StAt w base p b ps T' τ m' X w':=by
 obtain ⟨_,h2,h3,h4,⟨lo,h5,h6⟩,h7,h8⟩:=h
 exact ⟨hj,(hp ps h3).trans h2,hT _ h3,h4,⟨lo,h5,h6.past h7 hp⟩,h7.wide hT,h8⟩
def frD (X:Sx) (r:Rc) (l:List Dp):List UInt8:=frs (payL (X.v:Int) (zAV (X.v:Int) [] X.zs) r l)
theorem zEY {v:Nat} {xs:List Rw} (h:zAe (v:Int) xs) (hl:xs.length≤1000):(zAS v (v:Int) xs).length≤39178008:=by
 obtain ⟨_,_,f3,_⟩:=zCx h hl
 unfold zAS
 rw [List.length_append,zBk]
 omega
theorem zIK (v:Nat) (zs:List Rw) (x:Rw):zAS v (v:Int) (zs++[x])=zAS v (v:Int) zs++frs (payL (v:Int) (zAV (v:Int) [] zs) x.r x.l):=by
 have hx:(zs++[x])[zs.length]? = some x:=by simp
 have hsn:=zFf (ver:=(v:Int)) hx
 rw [List.take_of_length_le (by simp),List.take_left] at hsn
 unfold zAS
 rw [hsn.1,List.append_assoc]
theorem zGH {X:Sx} {σ:FsSt} (h:StI X σ) (hl:X.zs.length=X.n) {r:Rc} {l:List Dp} (hm:MayP (X.v:Int) r l) (hn:Nums r l):X.G+(frD X r l).length≤39178008:=by
 have h1:=zIK X.v X.zs ⟨r,none,0,0,l⟩
 have h2:zAe (X.v:Int) (X.zs++[⟨r,none,0,0,l⟩]):=fun x hx =>by
  rcases List.mem_append.1 hx with hx | hx
  ·exact h.may x hx
  ·obtain rfl:=List.mem_singleton.1 hx
   exact ⟨hm,hn⟩
 have h3:=zEY h2 (by rw [List.length_append];have:=h.few;simp;omega)
 rw [h1,List.length_append] at h3
 rw [h.good]
 exact h3
theorem StAt.len {w W:World} {base p b ps m:Nat} {T:Nat→Prop} {σ:FsSt} {X:Sx} (h:StAt w base p b ps T σ m X W):X.zs.length=X.n:=by
 obtain ⟨lo,_,hr⟩:=h.rows
 have:=hr.recs.1
 rw [zCh] at this
 omega
def zCR (w:World) (base p b ps m:Nat) (T:Nat→Prop) (σ:FsSt) (X:Sx) (D:List UInt8) (x:Rw) (W:World) (z:Int) (w':World):Prop :=
  Past (fun k =>T k∧k≠ps) W w'∧∃ τ,Outs σ ⟨0,[108,111,103],[],D,0,[]⟩ τ z ∧
    ((z=0∧∃ (T':Nat→Prop) (A' E':Option Addr) (c' d':Nat) (zs':List Rw),(∀ k,T k→T' k)∧(∀ k,T' k→T k∨W.heap.size≤k)∧zs'.map Rw.say=(X.zs++[x]).map Rw.say∧StAt w base p b ps T' τ (m+2) ⟨X.ov,X.v,A',X.n+1,c',E',d',X.G+D.length,zs',X.es++[.int .i64 ((X.G+D.length:Nat):Int)]⟩ w') ∨
     (z≠0∧StAt w base p b ps T τ (m+2) X w'))
theorem zJu {w W:World} {base p b ps m:Nat} {T:Nat→Prop} {σ:FsSt} {X:Sx} (h:StAt w base p b ps T σ m X W) (hi:StI X σ) (hm:m≤40000) (hl:Laid W) (r:Rc) (xA:Option Addr) (xn xc:Nat) (l:List Dp) (hmr:MayP (X.v:Int) r l) (hfr:Fits r l) (hnr:Nums r l) (hxn:xn≤1000000) (hxA:xA=none→xc=0)
  (hr:∀ W',Past T W W'→Below base w W'→zAD W' W'.heap.size 3 xA xn (dps l)) (D:List UInt8) (hD:D=frD X r l) :
  Calls Tryz.prog 37 #[.pointer (some ⟨ps,0,none⟩),.agg #[.int .i64 r.kind,.string (tx r.target),.int .u64 r.rule,.slice xA xn xc,.int .u64 r.out,.int .u64 r.time,.string (tx r.tag)]] W fun e w' =>∃ z:Int,e=.returned (.int .i64 z)∧zCR w base p b ps m T σ X D ⟨r,xA,xn,xc,l⟩ W z w':=by
 have hb1:=(Below.refl W.heap.size W).alloc (Nat.le_refl _) (.cells #[.int .i64 r.kind,.string (tx r.target),.int .u64 r.rule,.slice xA xn xc,.int .u64 r.out,.int .u64 r.time,.string (tx r.tag)] 41)
 have hbd:=hb1.drew
 have e1:(W.alloc (.cells #[.int .i64 r.kind,.string (tx r.target),.int .u64 r.rule,.slice xA xn xc,.int .u64 r.out,.int .u64 r.time,.string (tx r.tag)] 41)).drew.heap[W.heap.size]? = some (.cells #[.int .i64 r.kind,.string (tx r.target),.int .u64 r.rule,.slice xA xn xc,.int .u64 r.out,.int .u64 r.time,.string (tx r.tag)] 41 (0,0)):=zAE W (.cells #[.int .i64 r.kind,.string (tx r.target),.int .u64 r.rule,.slice xA xn xc,.int .u64 r.out,.int .u64 r.time,.string (tx r.tag)] 41)
 have hd:=h.wide hbd
 have hlen:=zGH hi h.len hmr hnr
 rw [← hD] at hlen
 have hzd:W.heap.size<(W.alloc (.cells #[.int .i64 r.kind,.string (tx r.target),.int .u64 r.rule,.slice xA xn xc,.int .u64 r.out,.int .u64 r.time,.string (tx r.tag)] 41)).drew.heap.size:=zAJ e1
 have hfrm:Hid (Calls Tryz.prog 61 #[.pointer (some ⟨p,0,none⟩),.string (tx [108,111,103]),.agg #[.int .i64 (X.v:Int),.slice X.A X.n X.c,.slice X.E X.n X.d,.int .i64 (X.G:Int)],.agg #[.int .i64 r.kind,.string (tx r.target),.int .u64 r.rule,.slice xA xn xc,.int .u64 r.out,.int .u64 r.time,.string (tx r.tag)]] (W.alloc (.cells #[.int .i64 r.kind,.string (tx r.target),.int .u64 r.rule,.slice xA xn xc,.int .u64 r.out,.int .u64 r.time,.string (tx r.tag)] 41)).drew
   (zKo w base p b m (fun k =>T k∨(W.heap.size≤k∧k<(W.alloc (.cells #[.int .i64 r.kind,.string (tx r.target),.int .u64 r.rule,.slice xA xn xc,.int .u64 r.out,.int .u64 r.time,.string (tx r.tag)] 41)).drew.heap.size)) σ X.v X.n X.G D X.zs ⟨r,xA,xn,xc,l⟩ X.es (W.alloc (.cells #[.int .i64 r.kind,.string (tx r.target),.int .u64 r.rule,.slice xA xn xc,.int .u64 r.out,.int .u64 r.time,.string (tx r.tag)] 41)).drew)):=by
  obtain ⟨lo,_,hro⟩:=hd.rows
  refine zJX X.v X.zs X.A X.E X.n X.c X.d lo X.G D X.es (by have:=hi.few;omega) hi.ok hi.may r xA xn xc l hmr hfr hnr hxn hxA hi.one (hl.below hbd) hro hd.inT (fun W' hp hb =>hr W' (fun k hk =>(hp k (.inl hk)).trans (hbd.block k (h.jt.lt k hk))) hb) (hi.sz.more (by omega)) hi.hf hi.hg hd.jt (by omega) hD (by omega) (by omega)
 have HAPP:=hfrm
 have HBD:=yh hbd
 have HD:=yh hd
 have HZD:=yh hzd
 have HE1:=yh e1
 have HH:=yh h
 have HSV:Hid (∀ v:World,v.heap[ps]? = some (.cells (X.cells p) 50 (0,0))→v.cell? ⟨ps,1,none⟩=some (.pointer (some ⟨p,0,none⟩))):=fun v hv =>zAA (i:=1) hv rfl
 have HS0:Hid ((W.alloc (.cells #[.int .i64 r.kind,.string (tx r.target),.int .u64 r.rule,.slice xA xn xc,.int .u64 r.out,.int .u64 r.time,.string (tx r.tag)] 41)).drew.cell? ⟨ps,1,none⟩=some (.pointer (some ⟨p,0,none⟩))∧(W.alloc (.cells #[.int .i64 r.kind,.string (tx r.target),.int .u64 r.rule,.slice xA xn xc,.int .u64 r.out,.int .u64 r.time,.string (tx r.tag)] 41)).drew.heap[W.heap.size]? = some (.cells #[.int .i64 r.kind,.string (tx r.target),.int .u64 r.rule,.slice xA xn xc,.int .u64 r.out,.int .u64 r.time,.string (tx r.tag)] 41 (0,0))):=⟨HSV.out _ hd.box,e1⟩
 clear hb1 hbd e1 hd hlen hzd hfrm h hi hl hr hD hmr hfr hnr
 go_enter Tryz.func37,Tryz.ntmps37
 go_wp2_with fail
 refine wp_region_held (S:=fun v:World =>v.cell? ⟨ps,1,none⟩=some (.pointer (some ⟨p,0,none⟩))∧v.heap[W.heap.size]? = some (.cells #[.int .i64 r.kind,.string (tx r.target),.int .u64 r.rule,.slice xA xn xc,.int .u64 r.out,.int .u64 r.time,.string (tx r.tag)] 41 (0,0))) (by kernel_rfl) ?_
 change wpAnyH _ _ _ _ _ _ _ _ (W.alloc (.cells #[.int .i64 r.kind,.string (tx r.target),.int .u64 r.rule,.slice xA xn xc,.int .u64 r.out,.int .u64 r.time,.string (tx r.tag)] 41)).drew
 generalize (W.alloc (.cells #[.int .i64 r.kind,.string (tx r.target),.int .u64 r.rule,.slice xA xn xc,.int .u64 r.out,.int .u64 r.time,.string (tx r.tag)] 41)).drew=Wd at *
 refine zAB 0 (.pointer (some ⟨ps,0,none⟩)) rfl (by kernel_rfl) (by kernel_rfl) (by kernel_rfl) (fun _ _ _ h =>h) (by kernel_rfl) HS0.out (fun _ _ =>by kernel_rfl) ?_
 refine zAB 1 (.pointer (some ⟨ps,0,none⟩)) rfl (by kernel_rfl) (by kernel_rfl) (by kernel_rfl) (fun _ _ _ h =>h) (by kernel_rfl) HS0.out (fun _ _ =>by kernel_rfl) ?_
 refine zAB 2 (.pointer (some ⟨ps,0,none⟩)) rfl (by kernel_rfl) (by kernel_rfl) (by kernel_rfl) (fun _ _ _ h =>h) (by kernel_rfl) HS0.out (fun _ _ =>by kernel_rfl) ?_
 refine zAB 3 (.pointer (some ⟨ps,1,none⟩)) rfl (by kernel_rfl) (by kernel_rfl) (by kernel_rfl) (fun _ _ _ h =>h) (by kernel_rfl) HS0.out (fun _ _ =>by kernel_rfl) ?_
 refine zAB 4 (.pointer (some ⟨p,0,none⟩)) rfl (by kernel_rfl) (by kernel_rfl) (by kernel_rfl) (fun _ _ _ h =>h) (by kernel_rfl) HS0.out (by intro v hv;have z:=hv.1;go_simp) ?_
 refine zAB 5 (.pointer (some ⟨ps,0,none⟩)) rfl (by kernel_rfl) (by kernel_rfl) (by kernel_rfl) (fun _ _ _ h =>h) (by kernel_rfl) HS0.out (fun _ _ =>by kernel_rfl) ?_
 refine zAB 6 (.pointer (some ⟨ps,0,none⟩)) rfl (by kernel_rfl) (by kernel_rfl) (by kernel_rfl) (fun _ _ _ h =>h) (by kernel_rfl) HS0.out (fun _ _ =>by kernel_rfl) ?_
 refine zAB 7 (.pointer (some ⟨ps,2,none⟩)) rfl (by kernel_rfl) (by kernel_rfl) (by kernel_rfl) (fun _ _ _ h =>h) (by kernel_rfl) HS0.out (fun _ _ =>by kernel_rfl) ?_
 refine zAB 9 (.agg #[.int .i64 r.kind,.string (tx r.target),.int .u64 r.rule,.slice xA xn xc,.int .u64 r.out,.int .u64 r.time,.string (tx r.tag)]) rfl (by kernel_rfl) (by kernel_rfl) (by kernel_rfl) (fun _ _ _ h =>h) (by kernel_rfl) HS0.out (by intro v hv;have k0:=zAA (i:=0) hv.2 rfl;have k1:=zAA (i:=1) hv.2 rfl;have k2:=zAA (i:=2) hv.2 rfl;have k3:=zAA (i:=3) hv.2 rfl;have k4:=zAA (i:=4) hv.2 rfl;have k5:=zAA (i:=5) hv.2 rfl;have k6:=zAA (i:=6) hv.2 rfl;go_simp) ?_
 refine zAO 8 rfl (by kernel_rfl) (by kernel_rfl) (fun K hK =>?_)
 have c2:=zAA (i:=2) HD.out.box rfl
 have c3:=zAA (i:=3) HD.out.box rfl
 have c4:=zAA (i:=4) HD.out.box rfl
 have c5:=zAA (i:=5) HD.out.box rfl
 go_simp
 refine hK _ _ HS0.out ?_
 clear hK K c2 c3 c4 c5
 refine zAO 10 rfl (by kernel_rfl) (by kernel_rfl) (fun K hK =>?_)
 go_simp
 refine HAPP.out.mono ?_
 rintro e w2 ⟨hp2,z,τ,ho,hcase⟩
 have HP2:=yh hp2
 have HO:=yh ho
 have HS2:Hid (w2.cell? ⟨ps,1,none⟩=some (.pointer (some ⟨p,0,none⟩))∧w2.heap[W.heap.size]? = some (.cells #[.int .i64 r.kind,.string (tx r.target),.int .u64 r.rule,.slice xA xn xc,.int .u64 r.out,.int .u64 r.time,.string (tx r.tag)] 41 (0,0))):=⟨HSV.out _ ((hp2 ps (.inl HH.out.tp)).trans HD.out.box),(hp2 W.heap.size (.inr ⟨Nat.le_refl _,HZD.out⟩)).trans HE1.out⟩
 have HPW:Hid (Past T W w2):=fun k hk =>(hp2 k (.inl hk)).trans (HBD.out.block k (HH.out.jt.lt k hk))
 clear hp2 ho HAPP
 rcases hcase with ⟨rfl,A',c',E',d',zs',lo,rfl,hsay,hro,hlo,hj⟩ | ⟨hz,rfl,hj⟩
 ·have HST:=yh (HD.out.past2 (fun k hk =>.inl hk) hj HP2.out)
  have HLO:Hid (base≤lo):=Nat.le_trans HH.out.jt.under.2 (Nat.le_trans HBD.out.size hlo)
  have HKP:=yh (zJz HST.out X.v (X.n+1) c' d' (X.G+D.length) lo A' E' zs' (X.es++[.int .i64 ((X.G+D.length:Nat):Int)]) HLO.out hro (hro.inT (T:=fun k =>T k∨(W.heap.size≤k∧k<Wd.heap.size))) (hro.apt (.inl (Nat.lt_of_lt_of_le HD.out.lt hlo))))
  have HSAY:=yh hsay
  have HLO2:Hid (W.heap.size≤lo):=Nat.le_trans HBD.out.size hlo
  clear hj hro hsay hlo HST
  refine hK _ _ HS2.out ?_
  clear hK K
  refine zAB 11 (.agg #[.int .i64 (X.v:Int),.slice A' (X.n+1) c',.slice E' (X.n+1) d',.int .i64 ((X.G+D.length:Nat):Int)]) rfl (by kernel_rfl) (by kernel_rfl) (by kernel_rfl) (fun _ _ _ h =>h) (by kernel_rfl) HS2.out (fun _ _ =>by kernel_rfl) ?_
  refine zAB 12 (.int .i64 0) rfl (by kernel_rfl) (by kernel_rfl) (by kernel_rfl) (fun _ _ _ h =>h) (by kernel_rfl) HS2.out (fun _ _ =>by kernel_rfl) ?_
  refine zAO 13 rfl (by kernel_rfl) (by kernel_rfl) (fun K hK =>?_)
  go_simp
  refine HKP.out.mono ?_
  rintro e w3 ⟨rfl,hst,ht⟩
  have HST:=yh hst
  have HT:=yh ht
  have HS3:Hid (w3.cell? ⟨ps,1,none⟩=some (.pointer (some ⟨p,0,none⟩))∧w3.heap[W.heap.size]? = some (.cells #[.int .i64 r.kind,.string (tx r.target),.int .u64 r.rule,.slice xA xn xc,.int .u64 r.out,.int .u64 r.time,.string (tx r.tag)] 41 (0,0))):=⟨zAA (i:=1) hst.box rfl,(ht.2.2.2.2 W.heap.size (zAJ HS2.out.2) (fun e =>by have:=HH.out.lt;omega)).trans HS2.out.2⟩
  clear hst ht
  refine hK _ _ HS3.out ?_
  clear hK K
  refine zAB 14 (.int .i64 0) rfl (by kernel_rfl) (by kernel_rfl) (by kernel_rfl) (fun _ _ _ h =>h) (by kernel_rfl) HS3.out (fun _ _ =>by kernel_rfl) ?_
  refine wpAnyH_done (by kernel_rfl) ?_ _
  go_simp
  go_wp2
  go_ret
  exact ⟨0,rfl,fun k hk =>(HT.out.2.2.2.2 k (HPW.out.lt hk.1 (HH.out.jt.lt k hk.1)) hk.2).trans (HPW.out k hk.1),τ,HO.out,.inl ⟨rfl,_,A',E',c',d',zs',fun k hk =>.inl (.inl hk),fun k hk =>by rcases hk with (hk | hk) | hk;exact .inl hk;exact .inr hk.1;exact .inr (Nat.le_trans HLO2.out hk.1),HSAY.out,HST.out⟩⟩
 ·have HST:=yh ((HD.out.past hj HP2.out).less (T':=T) (fun k hk =>.inl hk) HH.out.tp HH.out.inT)
  have HZ0:=yh hz
  have HKP:=yh (fun W' =>zPs ps 0 0 (.slice none 0 0) (.slice none 0 0) z HZ0.out W')
  clear hj hz
  refine hK _ _ HS2.out ?_
  clear hK K
  refine zAB 11 (.agg #[.int .i64 0,.slice none 0 0,.slice none 0 0,.int .i64 0]) rfl (by kernel_rfl) (by kernel_rfl) (by kernel_rfl) (fun _ _ _ h =>h) (by kernel_rfl) HS2.out (fun _ _ =>by kernel_rfl) ?_
  refine zAB 12 (.int .i64 z) rfl (by kernel_rfl) (by kernel_rfl) (by kernel_rfl) (fun _ _ _ h =>h) (by kernel_rfl) HS2.out (fun _ _ =>by kernel_rfl) ?_
  refine zAO 13 rfl (by kernel_rfl) (by kernel_rfl) (fun K hK =>?_)
  go_simp
  refine (HKP.out _).mono ?_
  rintro e w3 ⟨rfl,hb3⟩
  have HB3:=yh hb3
  have HS3:Hid (w3.cell? ⟨ps,1,none⟩=some (.pointer (some ⟨p,0,none⟩))∧w3.heap[W.heap.size]? = some (.cells #[.int .i64 r.kind,.string (tx r.target),.int .u64 r.rule,.slice xA xn xc,.int .u64 r.out,.int .u64 r.time,.string (tx r.tag)] 41 (0,0))):=⟨HSV.out _ ((hb3.block ps HST.out.lt).trans HST.out.box),(hb3.block W.heap.size (zAJ HS2.out.2)).trans HS2.out.2⟩
  clear hb3
  refine hK _ _ HS3.out ?_
  clear hK K
  refine zAB 14 (.int .i64 z) rfl (by kernel_rfl) (by kernel_rfl) (by kernel_rfl) (fun _ _ _ h =>h) (by kernel_rfl) HS3.out (fun _ _ =>by kernel_rfl) ?_
  refine wpAnyH_done (by kernel_rfl) ?_ _
  go_simp
  go_wp2
  go_ret
  exact ⟨z,rfl,fun k hk =>(HB3.out.block k (HST.out.jt.lt k hk.1)).trans (HPW.out k hk.1),τ,HO.out,.inr ⟨HZ0.out,HST.out.below HB3.out⟩⟩
end Go.Proofs.YtekchkfjgofnkaaGreatDoor
