/- Texts of one proof. -/
import Derived.Test.YtekchkfjgofnkaaGreatDoorMy21
set_option maxRecDepth 100000
set_option maxHeartbeats 8000000
namespace Go.Proofs.YtekchkfjgofnkaaGreatDoor
open Go.RowKit
def PNo (ver:Int) (tl ps:List (List UInt8)) (at_:Int) (e9:Int):Prop:=∀ (S:Nat→Prop) (bt N n c:Nat) (A:Option Addr) (w:World),N≤500000000→(∀ k,S k→k<w.heap.size)→Tab w S bt N tl→PlsT w w.heap.size S A n c ps→(A=none→n=0∧c=0) →
 Calls Tryz.prog 103 #[.int .i64 ver,.pointer (some ⟨bt,0,none⟩),.slice A n c,.int .i64 at_] w fun e w' =>∃ S':Nat→Prop,e=.returned (.tuple #[.agg #[.int .i64 0,.string ⟨#[]⟩,.int .u64 0,.slice none 0 0,.int .u64 0,.int .u64 0,.string ⟨#[]⟩],.int .i64 0,.int .i64 e9])∧(∃ N',N'≤N+100036∧Tab w' S' bt N' tl)∧(∀ k,S' k→k<w'.heap.size∧(S k∨w.heap.size≤k))∧Turn S w w'
def PYes (ver:Int) (tl ps:List (List UInt8)) (a nx:Nat) (r:Rc) (l:List Dp):Prop:=∀ (S:Nat→Prop) (bt N n c:Nat) (A:Option Addr) (w:World),N≤500000000→Tab w S bt N tl→PlsT w w.heap.size S A n c ps →
 Calls Tryz.prog 103 #[.int .i64 ver,.pointer (some ⟨bt,0,none⟩),.slice A n c,.int .i64 (a:Int)] w fun e w' =>∃ (A':Option Addr) (n' c':Nat) (S':Nat→Prop),e=.returned (.tuple #[rcv r A' n' c',.int .i64 (nx:Int),.int .i64 0])∧Deps w' w.heap.size A' n' c' l∧(∃ N',N'≤N+36∧Tab w' S' bt N' (tabT ver tl r l))∧(∀ k,S' k→k<w'.heap.size∧(S k∨w.heap.size≤k))∧Turn S w w'
theorem zHT {ver:Int} {tl ps:List (List UInt8)} {at_ e9:Int} (h:∀ (bt n c:Nat) (A:Option Addr) (w:World),PlsC w w.heap.size A n c ps→(A=none→n=0∧c=0)→Calls Tryz.prog 103 #[.int .i64 ver,.pointer (some ⟨bt,0,none⟩),.slice A n c,.int .i64 at_] w fun e w' =>e=.returned (.tuple #[.agg #[.int .i64 0,.string ⟨#[]⟩,.int .u64 0,.slice none 0 0,.int .u64 0,.int .u64 0,.string ⟨#[]⟩],.int .i64 0,.int .i64 e9])∧Below w.heap.size w w'):PNo ver tl ps at_ e9:=by
 intro S bt N n c A w _ hS hT hP hA
 refine (h bt n c A w hP.less hA).mono fun e w' ⟨h1,h2⟩ =>⟨S,h1,⟨N,by omega,hT.keep fun k _ hk =>h2.block k hk⟩,fun k hk =>⟨Nat.lt_of_lt_of_le (hS k hk) h2.size,.inl hk⟩,Turn.of_below h2⟩
theorem zOx (ver:Int) (hv:1≤ver∧ver≤3) (bt:Nat) (A:Option Addr) (n c:Nat) (at_:Int) (ha:at_<0) (w:World) :
  Calls Tryz.prog 103 #[.int .i64 ver,.pointer (some ⟨bt,0,none⟩),.slice A n c,.int .i64 at_] w fun e w' =>e=.returned (.tuple #[.agg #[.int .i64 0,.string ⟨#[]⟩,.int .u64 0,.slice none 0 0,.int .u64 0,.int .u64 0,.string ⟨#[]⟩],.int .i64 0,.int .i64 1])∧Below w.heap.size w w':=by
 have h0:=zAE w (.cells #[.int .i64 0,.string ⟨#[]⟩,.int .u64 0,.slice none 0 0,.int .u64 0,.int .u64 0,.string ⟨#[]⟩] 41)
 have HA0:=yh h0
 have HB0:=yh ((Below.refl w.heap.size w).alloc (Nat.le_refl _) (.cells #[.int .i64 0,.string ⟨#[]⟩,.int .u64 0,.slice none 0 0,.int .u64 0,.int .u64 0,.string ⟨#[]⟩] 41))
 have q0:=zAA (i:=0) h0 rfl
 have y0:=zAC (i:=0) h0
 have q1:=zAA (i:=1) h0 rfl
 have y1:=zAC (i:=1) h0
 have q2:=zAA (i:=2) h0 rfl
 have y2:=zAC (i:=2) h0
 have q3:=zAA (i:=3) h0 rfl
 have y3:=zAC (i:=3) h0
 have q4:=zAA (i:=4) h0 rfl
 have y4:=zAC (i:=4) h0
 have q5:=zAA (i:=5) h0 rfl
 have y5:=zAC (i:=5) h0
 have q6:=zAA (i:=6) h0 rfl
 have y6:=zAC (i:=6) h0
 clear h0
 have d1:decide (ver<1)=false:=decide_eq_false (by omega)
 have d2:decide (ver > 3)=false:=decide_eq_false (by omega)
 have hv1:=hv.1
 have hv3:=hv.2
 clear hv
 have d3:decide (at_<0)=true:=decide_eq_true ha
 go_enter Tryz.func103,Tryz.ntmps103
 go_wp2
 refine bodyPost_ret (zAp rfl _ _ _ _ _ _ _ rfl HA0.out Tryz.underlying41 rfl (by kernel_rfl)) rfl ?_
 exact ⟨rfl,HB0.out⟩
theorem zLo (ver:Int) (hv:1≤ver∧ver≤3) (bt:Nat) (A:Option Addr) (n c:Nat) (at_:Int) (ha:(n:Int)<at_) (w:World) :
  Calls Tryz.prog 103 #[.int .i64 ver,.pointer (some ⟨bt,0,none⟩),.slice A n c,.int .i64 at_] w fun e w' =>e=.returned (.tuple #[.agg #[.int .i64 0,.string ⟨#[]⟩,.int .u64 0,.slice none 0 0,.int .u64 0,.int .u64 0,.string ⟨#[]⟩],.int .i64 0,.int .i64 1])∧Below w.heap.size w w':=by
 have h0:=zAE w (.cells #[.int .i64 0,.string ⟨#[]⟩,.int .u64 0,.slice none 0 0,.int .u64 0,.int .u64 0,.string ⟨#[]⟩] 41)
 have HA0:=yh h0
 have HB0:=yh ((Below.refl w.heap.size w).alloc (Nat.le_refl _) (.cells #[.int .i64 0,.string ⟨#[]⟩,.int .u64 0,.slice none 0 0,.int .u64 0,.int .u64 0,.string ⟨#[]⟩] 41))
 have q0:=zAA (i:=0) h0 rfl
 have y0:=zAC (i:=0) h0
 have q1:=zAA (i:=1) h0 rfl
 have y1:=zAC (i:=1) h0
 have q2:=zAA (i:=2) h0 rfl
 have y2:=zAC (i:=2) h0
 have q3:=zAA (i:=3) h0 rfl
 have y3:=zAC (i:=3) h0
 have q4:=zAA (i:=4) h0 rfl
 have y4:=zAC (i:=4) h0
 have q5:=zAA (i:=5) h0 rfl
 have y5:=zAC (i:=5) h0
 have q6:=zAA (i:=6) h0 rfl
 have y6:=zAC (i:=6) h0
 clear h0
 have d1:decide (ver<1)=false:=decide_eq_false (by omega)
 have d2:decide (ver > 3)=false:=decide_eq_false (by omega)
 have hv1:=hv.1
 have hv3:=hv.2
 clear hv
 have d3:decide (at_<0)=false:=decide_eq_false (by omega)
 have d4:decide (at_ > (n:Int))=true:=decide_eq_true ha
 go_enter Tryz.func103,Tryz.ntmps103
 go_wp2
 refine bodyPost_ret (zAp rfl _ _ _ _ _ _ _ rfl HA0.out Tryz.underlying41 rfl (by kernel_rfl)) rfl ?_
 exact ⟨rfl,HB0.out⟩
theorem zOz (ver:Int) (hv:1≤ver∧ver≤3) (bt B a n c:Nat) (ps:List (List UInt8)) (A:Option Addr) (ha:a<n) (hn:n≤100000) (htx:zAf (ps.drop a)=n - a) (w:World) (hB:B≤w.heap.size) (hr:PlsC w B A n c ps) :
  Calls Tryz.prog 103 #[.int .i64 ver,.pointer (some ⟨bt,0,none⟩),.slice A n c,.int .i64 (a:Int)] w fun e w' =>e=.returned (.tuple #[.agg #[.int .i64 0,.string ⟨#[]⟩,.int .u64 0,.slice none 0 0,.int .u64 0,.int .u64 0,.string ⟨#[]⟩],.int .i64 0,.int .i64 6])∧Below w.heap.size w w':=by
 have hcn:n≤c:=hr.1
 have hrd:=hr.drop (k:=a) (by omega)
 rw [if_neg (by omega)] at hrd
 obtain ⟨ad,rfl⟩:∃ ad,A=some ad:=by
  obtain ⟨_,_,vs,h1,_⟩:=hr
  obtain ⟨ad,h2,_⟩:=h1.2 (by omega)
  exact ⟨ad,h2⟩
 have hb0:=(Below.refl w.heap.size w).alloc (Nat.le_refl _) (.cells #[.int .i64 0,.string ⟨#[]⟩,.int .u64 0,.slice none 0 0,.int .u64 0,.int .u64 0,.string ⟨#[]⟩] 41)
 have hta:=zDk B (n - a) (c - a) (ps.drop a) (some (ad.add a)) (by omega) (w.alloc (.cells #[.int .i64 0,.string ⟨#[]⟩,.int .u64 0,.slice none 0 0,.int .u64 0,.int .u64 0,.string ⟨#[]⟩] 41)) (hrd.below (hb0.mono hB))
 rw [htx] at hta
 have HAH:=yh hta
 have ha0:(0:Int)≤(a:Int):=by omega
 have ha1:(a:Int)<(n:Int):=by omega
 have hsum:(a:Int)+((n - a:Nat):Int)=(n:Int):=by omega
 have h0:=zAE w (.cells #[.int .i64 0,.string ⟨#[]⟩,.int .u64 0,.slice none 0 0,.int .u64 0,.int .u64 0,.string ⟨#[]⟩] 41)
 have HA0:=yh h0
 have HB0:=yh ((Below.refl w.heap.size w).alloc (Nat.le_refl _) (.cells #[.int .i64 0,.string ⟨#[]⟩,.int .u64 0,.slice none 0 0,.int .u64 0,.int .u64 0,.string ⟨#[]⟩] 41))
 have q0:=zAA (i:=0) h0 rfl
 have y0:=zAC (i:=0) h0
 have q1:=zAA (i:=1) h0 rfl
 have y1:=zAC (i:=1) h0
 have q2:=zAA (i:=2) h0 rfl
 have y2:=zAC (i:=2) h0
 have q3:=zAA (i:=3) h0 rfl
 have y3:=zAC (i:=3) h0
 have q4:=zAA (i:=4) h0 rfl
 have y4:=zAC (i:=4) h0
 have q5:=zAA (i:=5) h0 rfl
 have y5:=zAC (i:=5) h0
 have q6:=zAA (i:=6) h0 rfl
 have y6:=zAC (i:=6) h0
 clear h0
 have d1:decide (ver<1)=false:=decide_eq_false (by omega)
 have d2:decide (ver > 3)=false:=decide_eq_false (by omega)
 have hv1:=hv.1
 have hv3:=hv.2
 clear hv
 clear hr hrd hb0 hta htx
 go_enter Tryz.func103,Tryz.ntmps103
 go_wp2_with (go_at_call 115;refine HAH.out.mono ?_;rintro e w3 ⟨rfl,rfl⟩)
 refine bodyPost_ret (zAp rfl _ _ _ _ _ _ _ rfl HA0.out Tryz.underlying41 rfl (by kernel_rfl)) rfl ?_
 exact ⟨rfl,HB0.out⟩
theorem zDe {ver:Int} {tl ps:List (List UInt8)} {a nx:Nat} {r:Rc} {l:List Dp} (h1:a<nx) (h2:nx≤ps.length) (h:zCK ver tl ((ps.drop a).take (nx - a)) r l):zAf (ps.drop a)=nx - a - 1:=by
 obtain ⟨hm,_,_,hpay⟩:=h
 have e:ps.drop a=freT ver tl r l++payB ver (tabT ver tl r l) r l :: (ps.drop a).drop (nx - a):=by
  have h3:(freT ver tl r l++[payB ver (tabT ver tl r l) r l])++(ps.drop a).drop (nx - a)=ps.drop a:=by
   have h4:freT ver tl r l++[payB ver (tabT ver tl r l) r l]=(ps.drop a).take (nx - a):=hpay
   rw [h4,List.take_append_drop]
  rw [List.append_assoc] at h3
  exact h3.symm
 rw [e,zDM _ _ _ (fun t ht =>(zFA hm t ht).1) (zJk ver _ r l)]
 have h5:=congrArg List.length hpay
 unfold payL at h5
 rw [List.length_append,List.length_take,List.length_drop] at h5
 simp only [List.length_singleton] at h5
 omega
def NoF (ver:Int) (tl ps:List (List UInt8)) (at_:Int):Prop:=∀ (a nx:Nat) (r:Rc) (l:List Dp),at_=(a:Int)→a<nx→nx≤ps.length→¬ zCK ver tl ((ps.drop a).take (nx - a)) r l
theorem PlsT.more {w:World} {B B':Nat} {S:Nat→Prop} {A:Option Addr} {n c:Nat} {ps:List (List UInt8)} (h:PlsT w B S A n c ps) (hB:B≤B'):PlsT w B' S A n c ps:=by
 obtain ⟨h0,h2,vs,h1,ha,h3⟩:=h
 refine ⟨h0,h2,vs,h1.more hB,ha,fun i p hp =>?_⟩
 obtain ⟨A',c',h4,h5,h6,h7⟩:=h3 i p hp
 exact ⟨A',c',h4,h5,h6.more hB,h7⟩
theorem PlsT.below {w w':World} {S:Nat→Prop} {A:Option Addr} {n c:Nat} {ps:List (List UInt8)} (h:PlsT w w.heap.size S A n c ps) (hb:Below w.heap.size w w'):PlsT w' w'.heap.size S A n c ps :=
 (h.turn (Turn.of_below hb) (Nat.le_refl _)).more hb.size
def zIz (v:World) (base b:Nat) (r:Rc) (l:List Dp) (A:Option Addr) (n c:Nat):Prop :=
 v.heap[b]? = some (.cells #[.int .i64 r.kind,.string (tx r.target),.int .u64 r.rule,.slice A n c,.int .u64 r.out,.int .u64 r.time,.string (tx r.tag)] 41 (0,0))∧base≤b∧v.ownsRow base 95 3 (.slice A n c) n (dps l)
theorem zAg {w:World} {b:Nat} {o:Obj} (h:w.heap[b]? = some o):b<w.heap.size:=(Array.getElem?_eq_some_iff.1 h).1
theorem zIz.below {v v':World} {base b:Nat} {r:Rc} {l:List Dp} {A:Option Addr} {n c:Nat} (h:zIz v base b r l A n c) (hb:Below v.heap.size v v'):zIz v' base b r l A n c :=
 ⟨(hb.block b (zAg h.1)).trans h.1,h.2.1,zAK h.2.2 hb⟩
def UP (ver:Int) (tl ps:List (List UInt8)) (at_:Int) (r:Rc) (l:List Dp) (nx e9:Int) (tl9:List (List UInt8)):Prop:=∀ (S:Nat→Prop) (bt N n c:Nat) (A:Option Addr) (w:World),N≤500000000→(∀ k,S k→k<w.heap.size)→Tab w S bt N tl→PlsT w w.heap.size S A n c ps→(A=none→c=0) →
 Calls Tryz.prog 103 #[.int .i64 ver,.pointer (some ⟨bt,0,none⟩),.slice A n c,.int .i64 at_] w fun e w' =>∃ (A':Option Addr) (n' c':Nat) (S':Nat→Prop),e=.returned (.tuple #[.agg #[.int .i64 r.kind,.string (tx r.target),.int .u64 r.rule,.slice A' n' c',.int .u64 r.out,.int .u64 r.time,.string (tx r.tag)],.int .i64 nx,.int .i64 e9])∧w'.ownsRow w.heap.size 95 3 (.slice A' n' c') n' (dps l)∧(∃ N',N'≤N+100036∧Tab w' S' bt N' tl9)∧(∀ k,S' k→k<w'.heap.size∧(S k∨w.heap.size≤k))∧Turn S w w'
def rc0:Rc:=⟨0,[],0,0,0,[]⟩
theorem zQa {ver at_ e9:Int} {tl ps:List (List UInt8)} (h:PNo ver tl ps at_ e9):UP ver tl ps at_ rc0 [] 0 e9 tl:=by
 intro S bt N n c A w hN hS hT hP hA
 refine (h S bt N n c A w hN hS hT hP (fun e =>⟨by have:=hA e;have:=hP.1;omega,hA e⟩)).mono ?_
 rintro e w' ⟨S',rfl,h1,h2,h3⟩
 exact ⟨none,0,0,S',rfl,World.ownsRow_nil _ _ _ _,h1,h2,h3⟩
theorem zSb {ver:Int} {tl ps:List (List UInt8)} {a nx:Nat} {r:Rc} {l:List Dp} (h:PYes ver tl ps a nx r l):UP ver tl ps (a:Int) r l (nx:Int) 0 (tabT ver tl r l):=by
 intro S bt N n c A w hN hS hT hP hA
 refine (h S bt N n c A w hN hT hP).mono ?_
 rintro e w' ⟨A',n',c',S',rfl,h1,⟨N',h2,h3⟩,h4,h5⟩
 exact ⟨A',n',c',S',rfl,h1.1,⟨N',by omega,h3⟩,h4,h5⟩
theorem zCI {w w':World} {base size n g:Nat} {e:TypeId} {v:Value} {xs:List Value} (h:w.ownsRow base e size v n xs) (hg:w.grownBy w' (some g)) (hn:v.ownBlock≠some g):w'.ownsRow base e size v n xs :=
 zAR h fun k hk =>hg.block k (zAP h k hk) (fun e =>hn (by rw [hk,Option.some.inj e]))
abbrev Rdd:=Rc×List Dp×Nat
def tbO (ver:Int) (xs:List Rdd):List (List UInt8):=xs.foldl (fun t x =>tabT ver t x.1 x.2.1) []
def atO (xs:List Rdd):Nat:=xs.foldl (fun _ x =>x.2.2) 0
theorem zGu (ver:Int) (xs:List Rdd) (x:Rdd):tbO ver (xs++[x])=tabT ver (tbO ver xs) x.1 x.2.1:=by unfold tbO;rw [List.foldl_append];rfl
theorem zDU (xs:List Rdd) (x:Rdd):atO (xs++[x])=x.2.2:=by unfold atO;rw [List.foldl_append];rfl
theorem zHY {α:Type} (xs:List α):xs=[] ∨ ∃ ys y,xs=ys++[y]:=by
 rcases List.eq_nil_or_concat xs with h | ⟨ys,y,h⟩
 ·exact .inl h
 ·exact .inr ⟨ys,y,by rw [h];simp⟩
theorem zPt {α:Type} {P:List α→Prop} (h0:P []) (h1:∀ xs x,P xs→P (xs++[x])):∀ xs,P xs:=by
 have h:∀ n xs,List.length xs=n→P xs:=by
  intro n
  induction n with
  | zero =>intro xs h;rw [List.length_eq_zero_iff.1 h];exact h0
  | succ n ih =>
   intro xs h
   rcases zHY xs with rfl | ⟨ys,y,rfl⟩
   ·simp at h
   ·exact h1 ys y (ih ys (by simpa using h))
 exact fun xs =>h _ xs rfl
theorem zPz {ver:Int} {tl found:List (List UInt8)} {r:Rc} {l:List Dp} (h:zCK ver tl found r l):(tabT ver tl r l).length+1≤tl.length+found.length:=by
 have h1:=congrArg List.length h.2.2.2
 unfold payL at h1
 rw [List.length_append,List.length_singleton] at h1
 have h2:=zBc ((freT ver tl r l).map List.tail) tl
 rw [← zFh,List.length_map] at h2
 omega
theorem zMP {ver:Int} {tl:List (List UInt8)} {r:Rc} {l:List Dp} (hm:MayP ver r l) (h:∀ s ∈ tl,s.length≤3000):∀ s ∈ tabT ver tl r l,s.length≤3000:=by
 unfold tabT
 split
 ·exact h
 ·exact zEj 3000 _ _ h fun s hs =>Nat.le_trans ((zDA hm).1 s hs) (by omega)
theorem zIQ {ver:Int} {tl ps:List (List UInt8)} {a n1 n2:Nat} {r1 r2:Rc} {l1 l2:List Dp} (ht:tl.length≤100000) (hpl:ps.length≤100000) (g1:a<n1) (g2:n1≤ps.length) (g3:a<n2) (g4:n2≤ps.length) (h1:zCK ver tl ((ps.drop a).take (n1 - a)) r1 l1) (h2:zCK ver tl ((ps.drop a).take (n2 - a)) r2 l2):n1=n2∧r1=r2∧l1=l2:=by
 have e1:=zDe g1 g2 h1
 have e2:=zDe g3 g4 h2
 obtain rfl:n1=n2:=by omega
 refine ⟨rfl,?_⟩
 obtain ⟨p,hp⟩:∃ p,(ps.drop a)[n1 - a - 1]? = some p:=⟨_,List.getElem?_eq_getElem (by rw [List.length_drop];omega)⟩
 rw [show n1 - a=(n1 - a - 1)+1 by omega] at h1 h2
 have d1:=(zEz hp (by omega) h1).1
 have d2:=(zEz hp (by omega) h2).1
 have e:=d1.symm.trans d2
 simp only [Prod.mk.injEq,and_true] at e
 exact e
abbrev W32:=BitVec 32
def poly:W32:=0xedb88320#32
def st (s:W32):W32:=if s.getLsbD 0 then (s >>> 1) ^^^ poly else s >>> 1
def stn:Nat→W32→W32
 | 0,s =>s
 | k+1,s =>stn k (st s)
theorem zEq (a b:Nat) (s:W32):stn (a+b) s=stn b (stn a s):=by
 induction a generalizing s with
 | zero =>simp [stn]
 | succ a ih =>rw [Nat.succ_add];exact ih (st s)
theorem zSV (a b:W32):st (a ^^^ b)=st a ^^^ st b:=by
 unfold st
 rw [BitVec.getLsbD_xor,BitVec.ushiftRight_xor_distrib]
 cases a.getLsbD 0 <;> cases b.getLsbD 0 <;> simp
 ·ac_rfl
 ·ac_rfl
 ·have:(a >>> 1 ^^^ poly ^^^ (b >>> 1 ^^^ poly))=a >>> 1 ^^^ b >>> 1 ^^^ (poly ^^^ poly):=by ac_rfl
  rw [this];simp
theorem zGO (k:Nat) (a b:W32):stn k (a ^^^ b)=stn k a ^^^ stn k b:=by
 induction k generalizing a b with
 | zero =>rfl
 | succ k ih =>rw [stn,zSV,ih];rfl
theorem zPw (k:Nat):stn k 0#32=0#32:=by
 induction k with
 | zero =>rfl
 | succ k ih =>rw [stn,show st 0#32=0#32 by decide,ih]
theorem zLL (k:Nat) (a:W32) (hk:k≤32) (h:a.toNat<2 ^ (32 - k)):stn k (a <<< k)=a:=by
 induction k with
 | zero =>simp [stn]
 | succ k ih =>
  have e:a <<< (k+1)=(a <<< k) <<< 1:=BitVec.shiftLeft_add a k 1
  have hb:(a <<< k).getLsbD 31=false:=by
   rw [BitVec.getLsbD_shiftLeft]
   have:a.getLsbD (31 - k)=false:=by
    rw [BitVec.getLsbD,Nat.testBit_lt_two_pow]
    exact Nat.lt_of_lt_of_le h (Nat.pow_le_pow_right (by omega) (by omega))
   simp [this]
  have e2:st ((a <<< k) <<< 1)=a <<< k:=by
   unfold st
   have h0:((a <<< k) <<< 1).getLsbD 0=false:=by rw [BitVec.getLsbD_shiftLeft];simp
   rw [if_neg (by rw [h0];decide)]
   generalize a <<< k=b at hb
   apply BitVec.eq_of_getLsbD_eq
   intro i hi
   rw [BitVec.getLsbD_ushiftRight,BitVec.getLsbD_shiftLeft]
   by_cases h31:i=31
   ·subst h31;rw [hb];rfl
   ·have:1+i<32:=by omega
    simp [this,show 1+i - 1=i by omega]
  rw [e,stn,e2]
  exact ih (by omega) (Nat.lt_of_lt_of_le h (Nat.pow_le_pow_right (by omega) (by omega)))
def x32 (x:UInt8):W32:=BitVec.ofNat 32 x.toNat
theorem zGA (x:UInt8):(x32 x).toNat=x.toNat:=by
 simp [x32]
def up (s:W32) (x:UInt8):W32:=stn 8 (s ^^^ x32 x)
def ups (s:W32) (bs:List UInt8):W32:=bs.foldl up s
def ones:W32:=0xffffffff#32
def crc (bs:List UInt8):W32 := ~~~ (ups ones bs)
theorem zDz (s:W32) (a b:List UInt8):ups s (a++b)=ups (ups s a) b:=by simp [ups]
def tab:List Nat:=[0,498536548,997073096,651767980,1994146192,1802195444,1303535960,1342533948,3988292384,4027552580,3604390888,3412177804,2607071920,2262029012,2685067896,3183342108]
def tabN (i:Nat):Nat:=tab.getD i 0
def half (s:W32):W32:=(s >>> 4) ^^^ BitVec.ofNat 32 (tabN (s.toNat % 16))
theorem zSX:∀ j:Fin 16,stn 4 (BitVec.ofNat 32 j.val)=BitVec.ofNat 32 (tabN j.val):=by decide +kernel
theorem zLB (s:W32):half s=stn 4 s:=by
 have hj:s.toNat % 16<16:=Nat.mod_lt _ (by omega)
 have e:s=((s >>> 4) <<< 4) ^^^ BitVec.ofNat 32 (s.toNat % 16):=by
  apply BitVec.eq_of_getLsbD_eq
  intro i hi
  rw [BitVec.getLsbD_xor,BitVec.getLsbD_shiftLeft,BitVec.getLsbD_ushiftRight,BitVec.getLsbD_ofNat]
  have:(s.toNat % 16).testBit i=(decide (i<4) && s.getLsbD i):=by
   rw [show (16:Nat)=2 ^ 4 by rfl,Nat.testBit_mod_two_pow];rfl
  rw [this]
  by_cases h4:i<4
  ·simp [hi,h4]
  ·simp [hi,h4,show 4+(i - 4)=i by omega]
 have e2:stn 4 ((s >>> 4) <<< 4)=s >>> 4:=zLL 4 _ (by omega) (by
  rw [BitVec.toNat_ushiftRight,Nat.shiftRight_eq_div_pow]
  have:=s.isLt
  omega)
 have e3:=zSX ⟨s.toNat % 16,hj⟩
 unfold half
 conv =>rhs;rw [e,zGO,e2]
 rw [← e3]
theorem zOT (s:W32) (x:UInt8):half (half (s ^^^ x32 x))=up s x:=by
 rw [zLB,zLB,← zEq];rfl
theorem zRq (s d:W32) (q:List UInt8):ups (s ^^^ d) q=ups s q ^^^ stn (8 * q.length) d:=by
 induction q generalizing s d with
 | nil =>simp [ups,stn]
 | cons x q ih =>
  have e:up (s ^^^ d) x=up s x ^^^ stn 8 d:=by
   unfold up
   rw [← zGO]
   congr 1
   ac_rfl
  show ups (up (s ^^^ d) x) q=ups (up s x) q ^^^ _
  rw [e,ih,← zEq,List.length_cons]
  congr 2
  omega
theorem zLK (i:Nat) (hi:i<32):stn i (1#32 <<< i)=1#32:=zLL i 1#32 (by omega) (by
 have:2 ^ 1≤2 ^ (32 - i):=Nat.pow_le_pow_right (by omega) (by omega)
 exact Nat.lt_of_lt_of_le (by decide) this)
theorem zQL (s:W32) (bs:List UInt8) (j i:Nat) (y:UInt8) (hj:j<bs.length) (hi:i<8) (hy:x32 y=x32 bs[j] ^^^ (1#32 <<< i)) :
  ups s (bs.set j y)=ups s bs ^^^ stn (8 * bs.length - (8 * j+i)) 1#32:=by
 have hs:bs=bs.take j++bs[j] :: bs.drop (j+1):=by simp
 have ht:bs.set j y=bs.take j++y :: bs.drop (j+1):=by rw [List.set_eq_take_append_cons_drop,if_pos hj]
 rw [ht,zDz]
 conv =>rhs;arg 1;rw [hs,zDz]
 show ups (up _ y) _=ups (up _ bs[j]) _ ^^^ _
 have e:∀ r,up r y=up r bs[j] ^^^ stn (8 - i) 1#32:=by
  intro r
  unfold up
  rw [hy,← BitVec.xor_assoc,zGO]
  congr 1
  have:stn 8 (1#32 <<< i)=stn (i+(8 - i)) (1#32 <<< i):=by rw [show i+(8 - i)=8 by omega]
  rw [this,zEq,zLK i (by omega)]
 rw [e,zRq,← zEq]
 congr 2
 rw [List.length_drop]
 omega
def le4:List UInt8→W32
 | [] =>0#32
 | x :: q =>x32 x ^^^ (le4 q <<< 8)
theorem zJb:∀ q:List UInt8,q.length≤4→(le4 q).toNat<2 ^ (8 * q.length)
 | [],_ =>by simp [le4]
 | x :: q,h =>by
  have ih:=zJb q (by simp at h;omega)
  simp only [List.length_cons] at h
  have hx:=zGA x
  have hxl:=x.toNat_lt
  rw [le4,BitVec.toNat_xor,List.length_cons]
  apply Nat.xor_lt_two_pow
  ·rw [hx]
   exact Nat.lt_of_lt_of_le hxl (Nat.pow_le_pow_right (n:=2) (i:=8) (by omega) (by omega))
  ·rw [BitVec.toNat_shiftLeft,Nat.shiftLeft_eq]
   refine Nat.lt_of_le_of_lt (Nat.mod_le _ _) ?_
   rw [show 8 * (q.length+1)=8 * q.length+8 by omega,Nat.pow_add]
   omega
theorem zOO (s:W32) (c:List UInt8) (first k:Nat) (y:UInt8) (hk:k<32) (hat:first+k<8 * c.length) (hj:(first+k) / 8<c.length) (hy:x32 y=x32 c[(first+k) / 8] ^^^ (1#32 <<< ((first+k) % 8))) :
  ups s (c.set ((first+k) / 8) y)=ups s c ^^^ stn (8 * c.length - first) (1#32 <<< k):=by
 rw [zQL s c ((first+k) / 8) ((first+k) % 8) y hj (Nat.mod_lt _ (by omega)) hy]
 congr 1
 rw [show 8 * c.length - first=k+(8 * c.length - (first+k)) by omega,zEq,zLK k hk]
 congr 1
 omega
theorem zNV (m k:Nat) (hk:k<32) (hm:m<2 ^ k):BitVec.ofNat 32 (m+2 ^ k)=BitVec.ofNat 32 m ^^^ (1#32 <<< k):=by
 apply BitVec.eq_of_getLsbD_eq
 intro i hi
 have h:=Nat.testBit_two_pow_mul_add 1 hm i
 rw [Nat.mul_one] at h
 rw [BitVec.getLsbD_xor,BitVec.getLsbD_shiftLeft,BitVec.getLsbD_ofNat,BitVec.getLsbD_ofNat,Nat.add_comm,h]
 by_cases hlt:i<k
 ·simp [hi,hlt]
 ·have hmi:m.testBit i=false:=Nat.testBit_lt_two_pow (Nat.lt_of_lt_of_le hm (Nat.pow_le_pow_right (by omega) (by omega)))
  by_cases he:i=k
  ·subst he;simp [hi,hmi]
  ·have h1:Nat.testBit 1 (i - k)=false:=Nat.testBit_lt_two_pow (by
    have:2 ^ 1≤2 ^ (i - k):=Nat.pow_le_pow_right (by omega) (by omega)
    omega)
   have h2:(1#32).getLsbD (i - k)=false:=by rw [BitVec.getLsbD_ofNat];simp [h1]
   simp [hlt,hmi,h1,h2]
def zDj (c0 c:List UInt8) (first k m:Nat):Prop:=c.length=c0.length∧m<2 ^ k∧ups ones c=ups ones c0 ^^^ stn (8 * c0.length - first) (BitVec.ofNat 32 m)
theorem zDj.start (c0:List UInt8) (first:Nat):zDj c0 c0 first 0 0:=⟨rfl,by omega,by rw [zPw];simp⟩
theorem zDj.keep {c0 c:List UInt8} {first k m:Nat} (h:zDj c0 c first k m):zDj c0 c first (k+1) m:=⟨h.1,by have:=h.2.1;rw [Nat.pow_succ];omega,h.2.2⟩
theorem zDj.turn {c0 c:List UInt8} {first k m:Nat} (h:zDj c0 c first k m) (hk:k<32) (hat:first+k<8 * c0.length) (y:UInt8) (hj:(first+k) / 8<c.length)
  (hy:x32 y=x32 c[(first+k) / 8] ^^^ (1#32 <<< ((first+k) % 8))):zDj c0 (c.set ((first+k) / 8) y) first (k+1) (m+2 ^ k):=by
 refine ⟨by rw [List.length_set];exact h.1,by have:=h.2.1;rw [Nat.pow_succ];omega,?_⟩
 rw [zOO ones c first k y hk (by rw [h.1];exact hat) hj hy,h.2.2,zNV m k hk h.2.1,zGO,h.1,BitVec.xor_assoc]
def wv (s:W32):Value:=.int .u32 (s.toNat:Int)
def Laid (w:World):Prop:=∀ i,i<16→w.cell? ⟨0,i,none⟩=some (.int .u32 (tabN i:Int))
theorem zJU (s:W32) (c d i r:Nat) (hc:c=s.toNat) (hd:d=c / 16) (hi:i=c % 16) (hr:r=(half s).toNat) :
  bits .xor .u32 (d:Int) (tabN i:Int)=(r:Int):=by
 have hs:=s.isLt
 have ht:tabN i<4294967296:=by
  have:∀ j:Fin 16,tabN j.val<4294967296:=by decide
  exact this ⟨i,by omega⟩
 rw [u32_xor_nat d (tabN i) (by omega) ht,hr,half,BitVec.toNat_xor,BitVec.toNat_ushiftRight,BitVec.toNat_ofNat,Nat.shiftRight_eq_div_pow,hd,hc,hi,hc]
 rw [hi,hc] at ht
 rw [Nat.mod_eq_of_lt (a:=tabN (s.toNat % 16)) ht]
theorem zQR (c:Nat) (hc:c<4294967296):bits .and .u32 (c:Int) 15=((c % 16:Nat):Int):=by
 refine (u32_and_nat c 15 hc (by omega)).trans ?_
 congr 1
 exact Nat.and_two_pow_sub_one_eq_mod c 4
theorem zQJ (s:W32):bits .xor .u32 IntKind.u32.max ((s.toNat:Nat):Int)=(((~~~ s).toNat:Nat):Int):=by
 refine (u32_xor_nat 4294967295 s.toNat (by omega) s.isLt).trans ?_
 have:(BitVec.allOnes 32 ^^^ s).toNat=4294967295 ^^^ s.toNat:=by rw [BitVec.toNat_xor];rfl
 rw [← this,BitVec.allOnes_xor]
def PRow (w:World) (B:Nat) (v:Value) (bs:List UInt8):Prop:=∃ A n c,v=.slice A n c∧n≤c∧n≤1073741824∧zAD w B 1 A n (bs.map bv)
def zEt (w:World) (B:Nat) (vs:List Value) (ps:List (List UInt8)):Prop:=vs.length=ps.length∧∀ (i:Nat) (v:Value),vs[i]? = some v→∃ bs:List UInt8,ps[i]? = some bs∧PRow w B v bs
def IRel (s:W32) (bs:List UInt8) (w:World) (v idx:Value) (wr:World):Prop:=∃ j,j≤bs.length∧idx=.int .i64 (j:Int)∧v=wv (ups s (bs.take j))∧w=wr
def ORel (ps:List (List UInt8)) (w:World) (v idx:Value) (wr:World):Prop:=∃ j,j≤ps.length∧idx=.int .i64 (j:Int)∧v=wv (ups ones (ps.take j).flatten)∧w=wr
theorem zQS {bs:List UInt8} {i:Nat} {u:Value} (h:(bs.map bv)[i]? = some u):∃ x,u=.int .u8 (x.toNat:Int)∧bs[i]? = some x:=by
 rw [List.getElem?_map] at h
 obtain ⟨x,hx,rfl⟩:=Option.map_eq_some_iff.1 h
 exact ⟨x,rfl,hx⟩
theorem zRg (L:Option Addr) (m d:Nat) (vs:List Value) (ps:List (List UInt8)) (hm:m≤1073741824) (w:World) (hl:Laid w) (hr:zAD w w.heap.size 1 L m vs) (hp:zEt w w.heap.size vs ps) :
  Calls Tryz.prog 99 #[.slice L m d] w fun e w' =>e=.returned (wv (crc ps.flatten))∧w=w':=by
 have hml:ps.length=m:=by have:=hr.1;have:=hp.1;omega
 have HML:=yh hml
 have HP:=yh hp
 have HL:=yh hl
 clear hml hp hl
 go_enter Tryz.func99,Tryz.ntmps99
 go_wp2
 go_loopw [3,10] (fun v idx wr =>ORel ps w v idx wr) (fun v idx wr =>m - (intOf idx).toNat)
 case atStart =>exact ⟨0,by omega,rfl,rfl,rfl⟩
 case round =>
  obtain ⟨i,hi,rfl,rfl,rfl⟩:=hrel
  rw [HML.out] at hi
  by_cases hlt:i<m
  ·obtain ⟨ad,u,rfl,hadb,hx,hcell⟩:=hr.at_ hlt
   obtain ⟨bs,hbs,A,n,c,rfl,hnc,hnb,hrb⟩:=HP.out.2 i u hx
   have hbn:bs.length=n:=by have:=hrb.1;simpa using this
   have HBS:=yh hbs
   have HX:=yh hx
   clear hbs hx
   go_wp2
   obtain ⟨s0,hs0⟩:∃ s0,s0=ups ones (ps.take i).flatten:=⟨_,rfl⟩
   rw [← hs0]
   have HS0:=yh hs0
   clear hs0
   go_loopw [3,16] (fun v idx wr =>IRel s0 bs w v idx wr) (fun v idx wr =>n - (intOf idx).toNat)
   case atStart =>exact ⟨0,by omega,rfl,rfl,rfl⟩
   case round =>
    obtain ⟨j,hj,rfl,rfl,rfl⟩:=hrel
    by_cases hjn:j<n
    ·obtain ⟨adx,u,rfl,hadx,hy,hcx⟩:=hrb.at_ hjn
     obtain ⟨x,rfl,hxj⟩:=zQS hy
     obtain ⟨s1,hs1⟩:∃ s1,s1=ups s0 (bs.take j):=⟨_,rfl⟩
     have e1:up s1 x=ups s0 (bs.take (j+1)):=by rw [hs1,List.take_add_one,hxj,zDz];rfl
     rw [← hs1]
     have E1:=yh e1
     clear hs1 hxj hy e1
     obtain ⟨a,ha⟩:∃ a,a=s1.toNat:=⟨_,rfl⟩
     obtain ⟨c1,hc1⟩:∃ c1,c1=(s1 ^^^ x32 x).toNat:=⟨_,rfl⟩
     obtain ⟨c2,hc2⟩:∃ c2,c2=(half (s1 ^^^ x32 x)).toNat:=⟨_,rfl⟩
     obtain ⟨c3,hc3⟩:∃ c3,c3=(half (half (s1 ^^^ x32 x))).toNat:=⟨_,rfl⟩
     obtain ⟨b,hb⟩:∃ b,b=x.toNat:=⟨_,rfl⟩
     have hb256:b<256:=by rw [hb];exact x.toNat_lt
     have ha32:a<4294967296:=by rw [ha];exact s1.isLt
     have hc132:c1<4294967296:=by rw [hc1];exact (s1 ^^^ x32 x).isLt
     have hc232:c2<4294967296:=by rw [hc2];exact (half (s1 ^^^ x32 x)).isLt
     have k1:IntKind.u32.wrap (b:Int)=(b:Int):=by rw [IntKind.wrap_u32'];omega
     have k2:bits .xor .u32 (a:Int) (b:Int)=(c1:Int):=by rw [u32_xor_nat a b ha32 (by omega),hc1,BitVec.toNat_xor,zGA,ha,hb]
     obtain ⟨d1,hd1⟩:∃ d1,d1=c1 / 16:=⟨_,rfl⟩
     obtain ⟨i1,hi1⟩:∃ i1,i1=c1 % 16:=⟨_,rfl⟩
     obtain ⟨d2,hd2⟩:∃ d2,d2=c2 / 16:=⟨_,rfl⟩
     obtain ⟨i2,hi2⟩:∃ i2,i2=c2 % 16:=⟨_,rfl⟩
     have k3:(c1:Int) / 16=(d1:Int):=by omega
     have k4:bits .and .u32 (c1:Int) 15=(i1:Int):=by rw [zQR c1 hc132,hi1]
     have k5:bits .xor .u32 (d1:Int) (tabN i1:Int)=(c2:Int):=zJU _ c1 d1 i1 c2 hc1 hd1 hi1 hc2
     have k6:(c2:Int) / 16=(d2:Int):=by omega
     have k7:bits .and .u32 (c2:Int) 15=(i2:Int):=by rw [zQR c2 hc232,hi2]
     have k8:bits .xor .u32 (d2:Int) (tabN i2:Int)=(c3:Int):=zJU _ c2 d2 i2 c3 hc2 hd2 hi2 hc3
     have l1:=HL.out i1 (by omega)
     have l2:=HL.out i2 (by omega)
     have hi116:i1<16:=by omega
     have hi216:i2<16:=by omega
     have hv:wv s1=.int .u32 (a:Int):=by rw [wv,ha]
     have hv3:wv (up s1 x)=.int .u32 (c3:Int):=by rw [wv,← zOT,hc3]
     rw [hv]
     have HV3:=yh hv3
     rw [← hb] at hcx
     clear hv hv3 ha hc1 hc2 hc3 hb hd1 hd2 hi1 hi2 ha32 hc132 hc232
     generalize tabN i1=t1 at k5 l1
     generalize tabN i2=t2 at k8 l2
     go_wp2
     clear k1 k2 k3 k4 k5 k6 k7 k8 l1 l2
     exact ⟨⟨j+1,by omega,by go_num,by rw [← E1.out,HV3.out],rfl⟩,by simp [intOf];omega⟩
    ·obtain rfl:j=n:=by omega
     have hall:bs.take j=bs:=List.take_of_length_le (by omega)
     have e1:ups s0 (bs.take j)=ups ones (ps.take (i+1)).flatten:=by
      rw [hall,HS0.out,← zDz,List.take_add_one,HBS.out]
      simp
     rw [e1]
     have HN:=yh hbn
     clear e1 hall hbn
     generalize hq:wv (ups ones (ps.take (i+1)).flatten)=q
     have HQ:=yh hq
     clear hq
     go_wp2
     exact ⟨⟨i+1,by rw [HML.out];omega,by go_num,HQ.out.symm,rfl⟩,by simp [intOf];omega⟩
  ·obtain rfl:i=m:=by omega
   have hall:ps.take i=ps:=List.take_of_length_le (by rw [HML.out];omega)
   rw [hall]
   have hf:bits .xor .u32 IntKind.u32.max ((ups ones ps.flatten).toNat:Int)=((crc ps.flatten).toNat:Int):=zQJ _
   clear hall
   obtain ⟨a,ha⟩:∃ a,a=(ups ones ps.flatten).toNat:=⟨_,rfl⟩
   rw [← ha] at hf
   have hv:wv (ups ones ps.flatten)=.int .u32 (a:Int):=by rw [wv,ha]
   rw [hv]
   have HV:Hid (wv (crc ps.flatten)=.int .u32 ((crc ps.flatten).toNat:Int)):=yh rfl
   obtain ⟨z,hz⟩:∃ z,z=(crc ps.flatten).toNat:=⟨_,rfl⟩
   rw [← hz] at hf HV
   clear hv ha hz
   go_wp2
   go_ret
   exact ⟨HV.out.symm▸rfl,rfl⟩
theorem zNn (W:World) (e:TypeId) (bs:List UInt8) (fr:Nat×Nat):zAD (W.alloc (.cells (bs.map bv).toArray e fr)) (W.heap.size+1) 1 (some ⟨W.heap.size,0,none⟩) bs.length (bs.map bv) :=
 ⟨by simp,fun _ =>⟨_,rfl,by simp,fun j u hu =>by
  have h0:Addr.add ⟨W.heap.size,0,none⟩ j=⟨W.heap.size,j,none⟩:=by
   unfold Addr.add
   split
   ·rename_i h;rw [h]
   ·simp
  rw [h0]
  simp only [World.cell?,World.alloc,Array.getElem?_push_size]
  simpa using hu⟩⟩
theorem Laid.below {w w':World} (h:Laid w) (hb:Below w.heap.size w w'):Laid w':=fun i hi =>by
 have h1:=h i hi
 have h2:0<w.heap.size:=by
  rcases Nat.lt_or_ge 0 w.heap.size with hlt | hge
  ·exact hlt
  ·rw [World.cell?,Array.getElem?_eq_none hge] at h1
   cases h1
 exact (hb.cell (p:=⟨0,i,none⟩) h2).trans h1
theorem PRow.below {w w':World} {B:Nat} {v:Value} {bs:List UInt8} (h:PRow w B v bs) (hb:Below B w w'):PRow w' B v bs:=by
 obtain ⟨A,n,c,rfl,h1,h2,hr⟩:=h
 exact ⟨A,n,c,rfl,h1,h2,hr.below hb⟩
theorem PRow.more {w:World} {B B':Nat} {v:Value} {bs:List UInt8} (h:PRow w B v bs) (hB:B≤B'):PRow w B' v bs:=by
 obtain ⟨A,n,c,rfl,h1,h2,hr⟩:=h
 exact ⟨A,n,c,rfl,h1,h2,hr.more hB⟩
theorem zIB (W:World) (v:Value) (bs:List UInt8) (hl:Laid W) (hr:PRow W W.heap.size v bs) :
  Calls Tryz.prog 99 #[.slice (some ⟨W.heap.size,0,none⟩) 1 1] (W.alloc (.cells #[v] 59)) fun e w' =>e=.returned (wv (crc bs))∧W.alloc (.cells #[v] 59)=w':=by
 have hb:Below W.heap.size W (W.alloc (.cells #[v] 59)):=(Below.refl _ W).alloc (Nat.le_refl _) _
 have h:=zRg (some ⟨W.heap.size,0,none⟩) 1 1 [v] [bs] (by omega) (W.alloc (.cells #[v] 59)) (hl.below hb)
  ⟨rfl,fun _ =>⟨_,rfl,by simp,fun j u hu =>by
   cases j with
   | zero =>
    have hu':v=u:=by simpa using hu
    subst hu'
    simp [Addr.add]
   | succ j =>simp at hu⟩⟩
  ⟨rfl,fun i u hu =>by
   cases i with
   | zero =>
    have hu':v=u:=by simpa using hu
    subst hu'
    exact ⟨bs,rfl,(hr.below hb).more (by simp)⟩
   | succ i =>simp at hu⟩
 simpa using h
theorem zEt.below {w w':World} {B:Nat} {vs:List Value} {ps:List (List UInt8)} (h:zEt w B vs ps) (hb:Below B w w'):zEt w' B vs ps :=
 ⟨h.1,fun i v hv =>by
  obtain ⟨bs,h1,h2⟩:=h.2 i v hv
  exact ⟨bs,h1,h2.below hb⟩⟩
theorem zEt.more {w:World} {B B':Nat} {vs:List Value} {ps:List (List UInt8)} (h:zEt w B vs ps) (hB:B≤B'):zEt w B' vs ps :=
 ⟨h.1,fun i v hv =>by
  obtain ⟨bs,h1,h2⟩:=h.2 i v hv
  exact ⟨bs,h1,h2.more hB⟩⟩
theorem zRs (a x k:Nat) (ha:a<2 ^ k):a ^^^ (x * 2 ^ k)=a+x * 2 ^ k:=by
 apply Nat.eq_of_testBit_eq
 intro i
 have h:=Nat.testBit_two_pow_mul_add x ha i
 rw [Nat.add_comm a,Nat.mul_comm x,h,Nat.testBit_xor,Nat.mul_comm,Nat.testBit_mul_two_pow]
 by_cases hlt:i<k
 ·simp [hlt,show ¬ k≤i by omega]
 ·have:a.testBit i=false:=Nat.testBit_lt_two_pow (Nat.lt_of_lt_of_le ha (Nat.pow_le_pow_right (by omega) (by omega)))
  simp [hlt,this,show k≤i by omega]
theorem zBn (x:UInt8) (q:List UInt8) (h:q.length≤3):(le4 (x :: q)).toNat=x.toNat+(le4 q).toNat * 256:=by
 have h1:=zJb q (by omega)
 have h2:(le4 q).toNat<2 ^ 24:=Nat.lt_of_lt_of_le h1 (Nat.pow_le_pow_right (by omega) (by omega))
 have hx:=x.toNat_lt
 rw [le4,BitVec.toNat_xor,zGA,BitVec.toNat_shiftLeft,Nat.shiftLeft_eq,Nat.mod_eq_of_lt (by omega)]
 exact zRs x.toNat (le4 q).toNat 8 (by omega)
def nth (s:W32) (i:Nat):UInt8:=UInt8.ofNat (s.toNat / 2 ^ (8 * i) % 256)
def lb (s:W32):List UInt8:=[nth s 0,nth s 1,nth s 2,nth s 3]
theorem zSM (s:W32):le4 (lb s)=s:=by
 apply BitVec.eq_of_toNat_eq
 have hs:=s.isLt
 have e:∀ j,(nth s j).toNat=s.toNat / 2 ^ (8 * j) % 256:=fun j =>by simp [nth]
 rw [lb,zBn _ _ (by simp),zBn _ _ (by simp),zBn _ _ (by simp),zBn _ _ (by simp),e,e,e,e]
 simp [le4]
 omega
theorem zEM (s:W32):(lb s).length=4:=rfl
theorem zQN (x:UInt8):UInt8.ofNat x.toNat=x:=by simp
theorem zSL (a b c d:UInt8):lb (le4 [a,b,c,d])=[a,b,c,d]:=by
 have ha:=a.toNat_lt
 have hb:=b.toNat_lt
 have hc:=c.toNat_lt
 have hd:=d.toNat_lt
 have h:(le4 [a,b,c,d]).toNat=a.toNat+256 * b.toNat+65536 * c.toNat+16777216 * d.toNat:=by
  rw [zBn _ _ (by simp),zBn _ _ (by simp),zBn _ _ (by simp),zBn _ _ (by simp)]
  simp [le4]
  omega
 have e:∀ (i:Nat) (x:UInt8),(le4 [a,b,c,d]).toNat / 2 ^ (8 * i) % 256=x.toNat→nth (le4 [a,b,c,d]) i=x:=fun i x hx =>by rw [nth,hx,zQN]
 rw [lb,e 0 a (by rw [h];simp;omega),e 1 b (by rw [h];simp;omega),e 2 c (by rw [h];simp;omega),e 3 d (by rw [h];simp;omega)]
theorem zSu {t:List UInt8} (ht:t.length=4):lb (le4 t)=t:=by
 match t,ht with
 | [a,b,c,d],_ =>exact zSL a b c d
end Go.Proofs.YtekchkfjgofnkaaGreatDoor
