/- Texts of one proof. -/
import Derived.Test.YtoclafdidjpndaaGreatDoorMx40
import Derived.Test.YtoclafdidjpndaaGreatDoorMx41
set_option maxRecDepth 100000
set_option maxHeartbeats 8000000
namespace Go.Proofs.YtoclafdidjpndaaGreatDoor
open Go.RowKit
def PNo (ver:Int) (tl ps:List (List UInt8)) (at_:Int) (e9:Int):Prop:=∀ (S:Nat→Prop) (bt N n c:Nat) (A:Option Addr) (w:World),N≤500000000→(∀ k,S k→k<w.heap.size)→Tab w S bt N tl→PlsT w w.heap.size S A n c ps→(A=none→n=0∧c=0) →
 Calls Tryz.prog 44 #[.int .i64 ver,.pointer (some ⟨bt,0,none⟩),.slice A n c,.int .i64 at_] w fun e w' =>∃ S':Nat→Prop,e=.returned (.tuple #[.agg #[.int .i64 0,.string ⟨#[]⟩,.int .u64 0,.slice none 0 0,.int .u64 0,.int .u64 0,.string ⟨#[]⟩],.int .i64 0,.int .i64 e9])∧(∃ N',N'≤N+100036∧Tab w' S' bt N' tl)∧(∀ k,S' k→k<w'.heap.size∧(S k∨w.heap.size≤k))∧Turn S w w'
def DNo (ver:Int) (tl ps:List (List UInt8)) (at_:Int) (e9:Int):Prop:=∀ (T A:Option Addr) (tk n c B0:Nat) (w:World),B0≤w.heap.size→Own w B0 (.slice T tl.length tk) tl→zAE w w.heap.size 1 A n (ps.map tsv) →
 Calls Tryz.prog 25 #[.int .i64 ver,.slice T tl.length tk,.slice A n c,.int .i64 at_] w fun e w' =>e=.returned (.tuple #[.agg #[.int .i64 0,.string ⟨#[]⟩,.int .u64 0,.slice none 0 0,.int .u64 0,.int .u64 0,.string ⟨#[]⟩],.int .i64 0,.slice T tl.length tk,.int .i64 e9])∧Below w.heap.size w w'
def PYes (ver:Int) (tl ps:List (List UInt8)) (a nx:Nat) (r:Rc) (l:List Dp):Prop:=∀ (S:Nat→Prop) (bt N n c:Nat) (A:Option Addr) (w:World),N≤500000000→Tab w S bt N tl→PlsT w w.heap.size S A n c ps →
 Calls Tryz.prog 44 #[.int .i64 ver,.pointer (some ⟨bt,0,none⟩),.slice A n c,.int .i64 (a:Int)] w fun e w' =>∃ (A':Option Addr) (n' c':Nat) (S':Nat→Prop),e=.returned (.tuple #[rcv r A' n' c',.int .i64 (nx:Int),.int .i64 0])∧Deps w' w.heap.size A' n' c' l∧(∃ N',N'≤N+36∧Tab w' S' bt N' (tabT ver tl r l))∧(∀ k,S' k→k<w'.heap.size∧(S k∨w.heap.size≤k))∧Turn S w w'
def DYes (ver:Int) (tl ps:List (List UInt8)) (a nx:Nat) (r:Rc) (l:List Dp):Prop:=∀ (T A:Option Addr) (tk n c B0:Nat) (w:World),B0≤w.heap.size→Own w B0 (.slice T tl.length tk) tl→zAE w w.heap.size 1 A n (ps.map tsv) →
 Calls Tryz.prog 25 #[.int .i64 ver,.slice T tl.length tk,.slice A n c,.int .i64 (a:Int)] w fun e w' =>∃ (A':Option Addr) (c':Nat) (v2:Value),e=.returned (.tuple #[rcv r A' l.length c',.int .i64 (nx:Int),v2,.int .i64 0])∧w'.ownsRow w.heap.size 73 3 (.slice A' l.length c') l.length (dps l)∧Own w' B0 v2 (tabT ver tl r l)∧Below w.heap.size w w'
theorem zGr {ver:Int} {tl ps:List (List UInt8)} {at_ e9:Int} (h:∀ (bt n c:Nat) (A:Option Addr) (w:World),PlsC w w.heap.size A n c ps→(A=none→n=0∧c=0)→Calls Tryz.prog 44 #[.int .i64 ver,.pointer (some ⟨bt,0,none⟩),.slice A n c,.int .i64 at_] w fun e w' =>e=.returned (.tuple #[.agg #[.int .i64 0,.string ⟨#[]⟩,.int .u64 0,.slice none 0 0,.int .u64 0,.int .u64 0,.string ⟨#[]⟩],.int .i64 0,.int .i64 e9])∧Below w.heap.size w w'):PNo ver tl ps at_ e9:=by
 intro S bt N n c A w _ hS hT hP hA
 refine (h bt n c A w hP.less hA).mono fun e w' ⟨h1,h2⟩ =>⟨S,h1,⟨N,by omega,hT.keep fun k _ hk =>h2.block k hk⟩,fun k hk =>⟨Nat.lt_of_lt_of_le (hS k hk) h2.size,.inl hk⟩,Turn.of_below h2⟩
theorem zGb {ver:Int} {tl ps:List (List UInt8)} {at_ e9:Int} (h:∀ (T A:Option Addr) (tk n c B0:Nat) (w:World),B0≤w.heap.size→Own w B0 (.slice T tl.length tk) tl→zAE w w.heap.size 1 A n (ps.map tsv)→ps.length=n→Calls Tryz.prog 25 #[.int .i64 ver,.slice T tl.length tk,.slice A n c,.int .i64 at_] w fun e w' =>e=.returned (.tuple #[.agg #[.int .i64 0,.string ⟨#[]⟩,.int .u64 0,.slice none 0 0,.int .u64 0,.int .u64 0,.string ⟨#[]⟩],.int .i64 0,.slice T tl.length tk,.int .i64 e9])∧Below w.heap.size w w'):DNo ver tl ps at_ e9:=by
 intro T A tk n c B0 w h1 h2 h3
 exact h T A tk n c B0 w h1 h2 h3 (by have:=h3.1;simpa using this)
theorem zMT (ver:Int) (hv:1≤ver∧ver≤3) (bt:Nat) (A:Option Addr) (n c:Nat) (at_:Int) (ha:at_<0) (w:World) :
  Calls Tryz.prog 44 #[.int .i64 ver,.pointer (some ⟨bt,0,none⟩),.slice A n c,.int .i64 at_] w fun e w' =>e=.returned (.tuple #[.agg #[.int .i64 0,.string ⟨#[]⟩,.int .u64 0,.slice none 0 0,.int .u64 0,.int .u64 0,.string ⟨#[]⟩],.int .i64 0,.int .i64 1])∧Below w.heap.size w w':=by
 have h0:=zAG w (.cells #[.int .i64 0,.string ⟨#[]⟩,.int .u64 0,.slice none 0 0,.int .u64 0,.int .u64 0,.string ⟨#[]⟩] 45)
 have HA0:=yh h0
 have HB0:=yh ((Below.refl w.heap.size w).alloc (Nat.le_refl _) (.cells #[.int .i64 0,.string ⟨#[]⟩,.int .u64 0,.slice none 0 0,.int .u64 0,.int .u64 0,.string ⟨#[]⟩] 45))
 have q0:=zAA (i:=0) h0 rfl
 have y0:=zAC (i:=0) h0
 have q1:=zAA (i:=1) h0 rfl
 have y1:=zAC (i:=1) h0
 have q2:=zAA (i:=2) h0 rfl
 have y2:=zAC (i:=2) h0
 have q3:=zAA (i:=3) h0 rfl
 have y3:=zAC (i:=3) h0
 have q4:=zAA (i:=4) h0 rfl
 have y4:=zAC (i:=4) h0
 have q5:=zAA (i:=5) h0 rfl
 have y5:=zAC (i:=5) h0
 have q6:=zAA (i:=6) h0 rfl
 have y6:=zAC (i:=6) h0
 clear h0
 have d1:decide (ver<1)=false:=decide_eq_false (by omega)
 have d2:decide (ver > 3)=false:=decide_eq_false (by omega)
 have hv1:=hv.1
 have hv3:=hv.2
 clear hv
 have d3:decide (at_<0)=true:=decide_eq_true ha
 go_enter Tryz.func44,Tryz.ntmps44
 go_wp2
 refine bodyPost_ret (zAo rfl _ _ _ _ _ _ _ rfl HA0.out Tryz.underlying45 rfl (by kernel_rfl)) rfl ?_
 exact ⟨rfl,HB0.out⟩
theorem zKK (ver:Int) (hv:1≤ver∧ver≤3) (bt:Nat) (A:Option Addr) (n c:Nat) (at_:Int) (ha:(n:Int)<at_) (w:World) :
  Calls Tryz.prog 44 #[.int .i64 ver,.pointer (some ⟨bt,0,none⟩),.slice A n c,.int .i64 at_] w fun e w' =>e=.returned (.tuple #[.agg #[.int .i64 0,.string ⟨#[]⟩,.int .u64 0,.slice none 0 0,.int .u64 0,.int .u64 0,.string ⟨#[]⟩],.int .i64 0,.int .i64 1])∧Below w.heap.size w w':=by
 have h0:=zAG w (.cells #[.int .i64 0,.string ⟨#[]⟩,.int .u64 0,.slice none 0 0,.int .u64 0,.int .u64 0,.string ⟨#[]⟩] 45)
 have HA0:=yh h0
 have HB0:=yh ((Below.refl w.heap.size w).alloc (Nat.le_refl _) (.cells #[.int .i64 0,.string ⟨#[]⟩,.int .u64 0,.slice none 0 0,.int .u64 0,.int .u64 0,.string ⟨#[]⟩] 45))
 have q0:=zAA (i:=0) h0 rfl
 have y0:=zAC (i:=0) h0
 have q1:=zAA (i:=1) h0 rfl
 have y1:=zAC (i:=1) h0
 have q2:=zAA (i:=2) h0 rfl
 have y2:=zAC (i:=2) h0
 have q3:=zAA (i:=3) h0 rfl
 have y3:=zAC (i:=3) h0
 have q4:=zAA (i:=4) h0 rfl
 have y4:=zAC (i:=4) h0
 have q5:=zAA (i:=5) h0 rfl
 have y5:=zAC (i:=5) h0
 have q6:=zAA (i:=6) h0 rfl
 have y6:=zAC (i:=6) h0
 clear h0
 have d1:decide (ver<1)=false:=decide_eq_false (by omega)
 have d2:decide (ver > 3)=false:=decide_eq_false (by omega)
 have hv1:=hv.1
 have hv3:=hv.2
 clear hv
 have d3:decide (at_<0)=false:=decide_eq_false (by omega)
 have d4:decide (at_ > (n:Int))=true:=decide_eq_true ha
 go_enter Tryz.func44,Tryz.ntmps44
 go_wp2
 refine bodyPost_ret (zAo rfl _ _ _ _ _ _ _ rfl HA0.out Tryz.underlying45 rfl (by kernel_rfl)) rfl ?_
 exact ⟨rfl,HB0.out⟩
theorem zNj (ver:Int) (hv:1≤ver∧ver≤3) (bt B a n c:Nat) (ps:List (List UInt8)) (A:Option Addr) (ha:a<n) (hn:n≤100000) (htx:zAh (ps.drop a)=n - a) (w:World) (hB:B≤w.heap.size) (hr:PlsC w B A n c ps) :
  Calls Tryz.prog 44 #[.int .i64 ver,.pointer (some ⟨bt,0,none⟩),.slice A n c,.int .i64 (a:Int)] w fun e w' =>e=.returned (.tuple #[.agg #[.int .i64 0,.string ⟨#[]⟩,.int .u64 0,.slice none 0 0,.int .u64 0,.int .u64 0,.string ⟨#[]⟩],.int .i64 0,.int .i64 6])∧Below w.heap.size w w':=by
 have hcn:n≤c:=hr.1
 have hrd:=hr.drop (k:=a) (by omega)
 rw [if_neg (by omega)] at hrd
 obtain ⟨ad,rfl⟩:∃ ad,A=some ad:=by
  obtain ⟨_,_,vs,h1,_⟩:=hr
  obtain ⟨ad,h2,_⟩:=h1.2 (by omega)
  exact ⟨ad,h2⟩
 have hb0:=(Below.refl w.heap.size w).alloc (Nat.le_refl _) (.cells #[.int .i64 0,.string ⟨#[]⟩,.int .u64 0,.slice none 0 0,.int .u64 0,.int .u64 0,.string ⟨#[]⟩] 45)
 have hta:=zDW B (n - a) (c - a) (ps.drop a) (some (ad.add a)) (by omega) (w.alloc (.cells #[.int .i64 0,.string ⟨#[]⟩,.int .u64 0,.slice none 0 0,.int .u64 0,.int .u64 0,.string ⟨#[]⟩] 45)) (hrd.below (hb0.mono hB))
 rw [htx] at hta
 have HAH:=yh hta
 have ha0:(0:Int)≤(a:Int):=by omega
 have ha1:(a:Int)<(n:Int):=by omega
 have hsum:(a:Int)+((n - a:Nat):Int)=(n:Int):=by omega
 have h0:=zAG w (.cells #[.int .i64 0,.string ⟨#[]⟩,.int .u64 0,.slice none 0 0,.int .u64 0,.int .u64 0,.string ⟨#[]⟩] 45)
 have HA0:=yh h0
 have HB0:=yh ((Below.refl w.heap.size w).alloc (Nat.le_refl _) (.cells #[.int .i64 0,.string ⟨#[]⟩,.int .u64 0,.slice none 0 0,.int .u64 0,.int .u64 0,.string ⟨#[]⟩] 45))
 have q0:=zAA (i:=0) h0 rfl
 have y0:=zAC (i:=0) h0
 have q1:=zAA (i:=1) h0 rfl
 have y1:=zAC (i:=1) h0
 have q2:=zAA (i:=2) h0 rfl
 have y2:=zAC (i:=2) h0
 have q3:=zAA (i:=3) h0 rfl
 have y3:=zAC (i:=3) h0
 have q4:=zAA (i:=4) h0 rfl
 have y4:=zAC (i:=4) h0
 have q5:=zAA (i:=5) h0 rfl
 have y5:=zAC (i:=5) h0
 have q6:=zAA (i:=6) h0 rfl
 have y6:=zAC (i:=6) h0
 clear h0
 have d1:decide (ver<1)=false:=decide_eq_false (by omega)
 have d2:decide (ver > 3)=false:=decide_eq_false (by omega)
 have hv1:=hv.1
 have hv3:=hv.2
 clear hv
 clear hr hrd hb0 hta htx
 go_enter Tryz.func44,Tryz.ntmps44
 go_wp2_with (go_at_call 60;refine HAH.out.mono ?_;rintro e w3 ⟨rfl,rfl⟩)
 refine bodyPost_ret (zAo rfl _ _ _ _ _ _ _ rfl HA0.out Tryz.underlying45 rfl (by kernel_rfl)) rfl ?_
 exact ⟨rfl,HB0.out⟩
theorem zLw (ver:Int) (tl:List (List UInt8)):(zBa ver tl []).2.2=false:=rfl
theorem zJy (ver:Int) (hv:1≤ver∧ver≤3) (tl ps:List (List UInt8)) (htl:tl.length≤1000) (hts:∀ s ∈ tl,s.length≤3000) (hpl:ps.length≤1000) (hps:∀ s ∈ ps,s.length≤3000) (a j:Nat) (ha:a+j<ps.length) (htx:zAh (ps.drop a)=j) :
  (PNo ver tl ps (a:Int) 3∧DNo ver tl ps (a:Int) 3∧¬ ∃ r l,zCe ver tl ((ps.drop a).take (j+1)) r l) ∨ ∃ r l,zCe ver tl ((ps.drop a).take (j+1)) r l∧PYes ver tl ps a (a+j+1) r l∧DYes ver tl ps a (a+j+1) r l:=by
 have hver:ver=1∨ver=2∨ver=3:=by omega
 obtain ⟨p,hp⟩:∃ p,ps[a+j]? = some p:=⟨_,List.getElem?_eq_getElem ha⟩
 obtain ⟨qs,hqs⟩:∃ qs,qs=ps.drop a:=⟨_,rfl⟩
 have hqp:qs[j]? = some p:=by rw [hqs,List.getElem?_drop];exact hp
 have hql:qs.length=ps.length - a:=by rw [hqs,List.length_drop]
 have hqb:∀ s ∈ qs,s.length≤3000:=fun s hs =>hps s (List.mem_of_mem_drop (by rw [← hqs];exact hs))
 rw [← hqs] at htx
 have hpt:zBh p=false:=zEo qs p (by rw [htx];exact hqp)
 have hp3:p.length≤3000:=hqb p (List.mem_of_getElem? hqp)
 have htake:qs.take (j+1)=qs.take j++[p]:=by rw [List.take_add_one,hqp];rfl
 have htxt:∀ t ∈ qs.take j,zBh t=true∧t≠[]∧t.length≤1000000:=fun t ht =>by
  obtain ⟨i,hi⟩:=List.getElem?_of_mem ht
  rw [List.getElem?_take] at hi
  split at hi
  ·rename_i hij
   obtain ⟨t',ht'⟩:=zED qs i (by omega)
   rw [hi] at ht'
   have h3:=hqb t (List.mem_of_getElem? hi)
   have h4:t=0 :: t':=Option.some.inj ht'
   refine ⟨by rw [h4];rfl,by rw [h4];simp,by omega⟩
  ·cases hi
 have htb:=zKR 3000 tl qs j hts hqb
 have htbl:=zEZ tl qs j
 have hsplit:ps=ps.take a++((qs.take j++[p])++qs.drop (j+1)):=by
  rw [← htake,List.take_append_drop,hqs,List.take_append_drop]
 have hal:(ps.take a).length=a:=by rw [List.length_take];omega
 have hlast:=zKp ver (tblA tl qs j) p 3000 (by omega) (by unfold maxLen;omega) htb
 have hput:∀ (r:Rc) (l:List Dp),Fits r l→Nums r l→l.length≤100000→∀ (e9:Int) (pl9 tl9:List (List UInt8)),((MayP ver r l∧e9=0∧pl9=payL ver tl r l∧tl9=tabT ver tl r l)∨(¬ MayP ver r l∧e9=1∧pl9=[]∧tl9=tl))→∀ (T:Option Addr) (tk B0:Nat),Hid (∀ (A:Option Addr) (c:Nat) (W:World),B0≤W.heap.size→Own W B0 (.slice T tl.length tk) tl→zAE W W.heap.size 3 A l.length (dps l)→Calls Tryz.prog 17 #[.int .i64 ver,.slice T tl.length tk,.agg #[.int .i64 r.kind,.string (tx r.target),.int .u64 r.rule,.slice A l.length c,.int .u64 r.out,.int .u64 r.time,.string (tx r.tag)]] W fun e w' =>∃ v1 v2,e=.returned (.tuple #[v1,v2,.int .i64 e9])∧Own w' W.heap.size v1 pl9∧Own w' B0 v2 tl9∧Below W.heap.size W w'):=fun r l hfit hnu hl e9 pl9 tl9 h9 T tk B0 =>yh fun A c W hB hO hR =>by
  rcases h9 with ⟨hm,rfl,rfl,rfl⟩ | ⟨hm,rfl,rfl,h9⟩
  ·exact zLy ver tl r A l.length c l hm hnu hfit _ (by omega) W B0 hB hO hR
  ·rw [h9]
   obtain ⟨k,t,u,o,m,g⟩:=r
   refine (zLH ver k t g u o m A l.length c l hm hl hfit T tl.length tk W hR).mono ?_
   rintro e w' ⟨v1,rfl,h1,h2⟩
   exact ⟨v1,_,by rw [show zDb ver=1 from if_pos hv],h1,zAF hO h2,h2⟩
 have hdoc:∀ (T A:Option Addr) (tk n c B0:Nat) (w:World),B0≤w.heap.size→Own w B0 (.slice T tl.length tk) tl→zAE w w.heap.size 1 A n (ps.map tsv)→∀ (r:Rc) (l:List Dp) (ok:Bool) (e9:Int) (pl9 tl9:List (List UInt8)),((MayP ver r l∧e9=0∧pl9=payL ver tl r l∧tl9=tabT ver tl r l)∨(¬ MayP ver r l∧e9=1∧pl9=[]∧tl9=tl))→zBa ver (tblA tl qs j) p=(r,l,ok)→Calls Tryz.prog 25 #[.int .i64 ver,.slice T tl.length tk,.slice A n c,.int .i64 (a:Int)] w fun e w' =>zNo w B0 T tl.length tk (a+j+1) r.kind (tx r.target) r.rule l r.out r.time (tx r.tag) tl9 (ok=true∧e9=0∧pl9=qs.take (j+1)) e w'∧Below w.heap.size w w':=fun T A tk n c B0 w hB hO hR r l ok e9 pl9 tl9 h9 hd =>by
  rw [hd] at hlast
  obtain ⟨h1,h2,h3⟩:=hlast
  have h3:l.length≤p.length+1:=h3
  have hn:ps.length=n:=by have:=hR.1;simpa using this
  have hp9:pl9.length≤100000:=by
   rcases h9 with ⟨hm,_,rfl,_⟩ | ⟨_,_,rfl,_⟩
   ·have:=zCR (tl:=tl) hm;omega
   ·simp
  rw [hqs]
  refine zKO ver hv tl ps T A tk n c a B0 (by omega) (by omega) hps (by omega) w hB hO hR j (by rw [← hqs];exact htx) p hp r.kind r.rule r.out r.time (tx r.target) (tx r.tag) l ok e9 pl9 tl9 hp9 (fun e =>by rw [e] at hd;have h1:(zBa ver (tblA tl qs j) []).2.2=false:=zLw _ _;rw [hd] at h1;exact h1) (yh fun v W hBW hOW =>?_) (hput r l h1 h2 (by omega) e9 pl9 tl9 h9 T tk B0)
  obtain ⟨T2,k2,rfl,_⟩:=zAH hOW
  have h4:=zMY ver hver (tblA tl qs j) p (by omega) T2 (tblA tl qs j).length k2 (by omega) W (zAE.of_own (by rw [← hqs] at hOW;exact hOW))
  rw [hd] at h4
  rw [← hqs]
  exact h4
 by_cases hG:∃ r l,zCe ver tl (qs.take (j+1)) r l
 ·obtain ⟨r,l,hF⟩:=hG
  have hF2:=hF
  obtain ⟨hm,hnu,hfit,hpay⟩:=hF
  obtain ⟨hd,_⟩:=zEk hqp (by omega) hF2
  refine .inr ⟨r,l,by rw [← hqs];exact hF2,?_,?_⟩
  ·intro S bt N n c A w hN hT hP
   have hn:ps.length=n:=hP.2.1
   have hP2:PlsT w w.heap.size S A n c (ps.take a++(payL ver tl r l++qs.drop (j+1))):=by rw [hpay,htake,← hsplit];exact hP
   refine (zPK S bt w.heap.size N n c a ver tl r l (ps.take a) (qs.drop (j+1)) A hm hfit hnu (by omega) (by omega) (by omega) hal w (Nat.le_refl _) hT hP2).mono ?_
   rintro e w' ⟨A',n',c',S',rfl,h1,_,h2,h3,h4⟩
   refine ⟨A',n',c',S',?_,h1,h2,h3,h4⟩
   have h5:(payL ver tl r l).length=j+1:=by rw [hpay,List.length_take];omega
   rw [h5,← Nat.add_assoc]
  ·intro T A tk n c B0 w hB hO hR
   refine (hdoc T A tk n c B0 w hB hO hR r l true 0 _ _ (.inl ⟨hm,rfl,rfl,rfl⟩) hd).mono fun e w' ⟨h1,h2⟩ =>?_
   obtain ⟨A',c',v2,h3,h4,h5⟩:=h1.1 ⟨rfl,rfl,hpay⟩
   exact ⟨A',c',v2,h3,h4,h5,h2⟩
 ·refine .inl ⟨?_,?_,by rw [← hqs];exact hG⟩
  ·intro S bt N n c A w hN hS hT hP _
   have hn:ps.length=n:=hP.2.1
   obtain ⟨s,hs⟩:∃ s,s=zBt ver (tblA tl qs j) (Cu.new p 0).byte.1.toNat (zAa p):=⟨_,rfl⟩
   obtain ⟨⟨g1,g2,g3,g4,g5,g6⟩,glen⟩:=zOm ver (tblA tl qs j) 3000 (by omega) htb (Cu.new p 0).byte.1.toNat (zKJ 3000 p)
   rw [← hs] at g1 g2 g3 g4 g5 g6 glen
   have hfit:Fits s.r s.l:=⟨Nat.le_trans g1 (by unfold maxLen;omega),Nat.le_trans g2 (by unfold maxLen;omega),fun d hd =>Nat.le_trans (g6 d hd).1 (by unfold maxLen;omega)⟩
   have hnu:Nums s.r s.l:=⟨g3,g4,g5,fun d hd =>(g6 d hd).2⟩
   have hl16:s.l.length≤1000:=by have:(zAa p).l.length=0:=rfl;omega
   by_cases hm:MayP ver s.r s.l
   ·refine zPj S bt w.heap.size N n c a ver hver tl (qs.take j) (ps.take a) (qs.drop (j+1)) p A s.r s.l (tblA tl qs j) htxt hpt (by omega) rfl (by rw [← hs]) (by rw [← hs]) hfit hnu hm (fun he =>hG ⟨s.r,s.l,hm,hnu,hfit,by rw [he,htake]⟩) (by omega) (by omega) (by omega) hal w (Nat.le_refl _) hT (by rw [← hsplit];exact hP)
   ·exact zPf S bt w.heap.size N n c a ver hver tl (qs.take j) (ps.take a) (qs.drop (j+1)) p A s.r s.l (tblA tl qs j) htxt hpt (by omega) rfl (by rw [← hs]) (by rw [← hs]) hfit hnu hm hl16 (by omega) (by omega) (by omega) hal w (Nat.le_refl _) hT (by rw [← hsplit];exact hP)
  ·intro T A tk n c B0 w hB hO hR
   obtain ⟨r,l,ok,hd⟩:∃ r l ok,zBa ver (tblA tl qs j) p=(r,l,ok):=⟨_,_,_,rfl⟩
   by_cases hm:MayP ver r l
   ·refine (hdoc T A tk n c B0 w hB hO hR r l ok 0 _ _ (.inl ⟨hm,rfl,rfl,rfl⟩) hd).mono fun e w' ⟨h1,h2⟩ =>⟨h1.2 ?_,h2⟩
    rintro ⟨_,h4,h5⟩
    rw [hd] at hlast
    exact hG ⟨r,l,hm,hlast.2.1,hlast.1,h5⟩
   ·refine (hdoc T A tk n c B0 w hB hO hR r l ok 1 _ _ (.inr ⟨hm,rfl,rfl,rfl⟩) hd).mono fun e w' ⟨h1,h2⟩ =>⟨h1.2 ?_,h2⟩
    rintro ⟨_,h4,h5⟩
    omega
theorem zDT {ver:Int} {tl ps:List (List UInt8)} {a nx:Nat} {r:Rc} {l:List Dp} (h1:a<nx) (h2:nx≤ps.length) (h:zCe ver tl ((ps.drop a).take (nx - a)) r l):zAh (ps.drop a)=nx - a - 1:=by
 obtain ⟨hm,_,_,hpay⟩:=h
 have e:ps.drop a=freT ver tl r l++payB ver (tabT ver tl r l) r l :: (ps.drop a).drop (nx - a):=by
  have h3:(freT ver tl r l++[payB ver (tabT ver tl r l) r l])++(ps.drop a).drop (nx - a)=ps.drop a:=by
   have h4:freT ver tl r l++[payB ver (tabT ver tl r l) r l]=(ps.drop a).take (nx - a):=hpay
   rw [h4,List.take_append_drop]
  rw [List.append_assoc] at h3
  exact h3.symm
 rw [e,zCu _ _ _ (fun t ht =>(zEw hm t ht).1) (zIM ver _ r l)]
 have h5:=congrArg List.length hpay
 unfold payL at h5
 rw [List.length_append,List.length_take,List.length_drop] at h5
 simp only [List.length_singleton] at h5
 omega
def NoF (ver:Int) (tl ps:List (List UInt8)) (at_:Int):Prop:=∀ (a nx:Nat) (r:Rc) (l:List Dp),at_=(a:Int)→a<nx→nx≤ps.length→¬ zCe ver tl ((ps.drop a).take (nx - a)) r l
theorem zHT (ver:Int) (tl ps:List (List UInt8)) (htl:tl.length≤1000) (hts:∀ s ∈ tl,s.length≤3000) (hpl:ps.length≤1000) (hps:∀ s ∈ ps,s.length≤3000) (at_:Int) :
  (∃ e9:Int,(e9=1∨e9=3∨e9=6∨e9=11)∧PNo ver tl ps at_ e9∧DNo ver tl ps at_ e9∧NoF ver tl ps at_) ∨ ∃ (a j:Nat) (r:Rc) (l:List Dp),at_=(a:Int)∧a+j+1≤ps.length∧zCe ver tl ((ps.drop a).take (j+1)) r l∧PYes ver tl ps a (a+j+1) r l∧DYes ver tl ps a (a+j+1) r l:=by
 by_cases hv:1≤ver∧ver≤3
 ·by_cases h0:at_<0
  ·exact .inl ⟨1,.inl rfl,zGr fun bt n c A w _ _ =>zMT ver hv bt A n c at_ h0 w,zGb fun T A tk n c B0 w _ _ _ _ =>zNB ver T A tl.length tk n c at_ hv h0 w,fun a nx r l e =>by omega⟩
  ·by_cases h1:(ps.length:Int)<at_
   ·exact .inl ⟨1,.inl rfl,zGr fun bt n c A w hP _ =>zKK ver hv bt A n c at_ (by rw [← hP.2.1];exact h1) w,zGb fun T A tk n c B0 w _ _ _ hn =>zIy ver T A tl.length tk n c at_ hv (by rw [← hn];exact h1) w,fun a nx r l e h3 h4 =>by omega⟩
   ·obtain ⟨a,rfl⟩:∃ a:Nat,at_=(a:Int):=⟨at_.toNat,by omega⟩
    have hal:a≤ps.length:=by omega
    have hle:=zHe (ps.drop a)
    rw [List.length_drop] at hle
    by_cases hfull:zAh (ps.drop a)=ps.length - a
    ·refine .inl ⟨6,.inr (.inr (.inl rfl)),zGr fun bt n c A w hP hA =>?_,zGb fun T A tk n c B0 w hB hO hR hn =>?_,fun a2 nx r l e h3 h4 hF =>?_⟩
     ·have hn:=hP.2.1
      by_cases hlt:a<n
      ·exact zNj ver hv bt w.heap.size a n c ps A hlt (by omega) (by omega) w (Nat.le_refl _) hP
      ·obtain rfl:a=n:=by omega
       exact zNL ver hv bt a c w.heap.size ps A hA (by omega) w (Nat.le_refl _) hP
     ·exact zKe ver hv tl ps T A tk n c a B0 (by omega) (by omega) hps (by omega) w hB hO hR (by omega)
     ·obtain rfl:a=a2:=by omega
      have:=zDT h3 h4 hF
      omega
    ·rcases zJy ver hv tl ps htl hts hpl hps a (zAh (ps.drop a)) (by omega) rfl with ⟨h2,h3,hno⟩ | ⟨r,l,h2,h3,h4⟩
     ·refine .inl ⟨3,.inr (.inl rfl),h2,h3,fun a2 nx r l e h5 h6 hF =>hno ?_⟩
      obtain rfl:a=a2:=by omega
      have h7:=zDT h5 h6 hF
      exact ⟨r,l,by rw [show zAh (ps.drop a)+1=nx - a by omega];exact hF⟩
     ·exact .inr ⟨a,_,r,l,rfl,by omega,h2,h3,h4⟩
 ·refine .inl ⟨11,.inr (.inr (.inr rfl)),zGr fun bt n c A w _ _ =>zPD ver hv _ A n c at_ w,zGb fun T A tk n c B0 w _ _ _ _ =>?_,fun a nx r l _ _ _ hF =>hv ⟨hF.1.1,hF.1.2.1⟩⟩
  by_cases h:ver<1
  ·exact zOP ver T A tl.length tk n c at_ h w
  ·exact zOY ver T A tl.length tk n c at_ (by omega) w
theorem PlsT.more {w:World} {B B':Nat} {S:Nat→Prop} {A:Option Addr} {n c:Nat} {ps:List (List UInt8)} (h:PlsT w B S A n c ps) (hB:B≤B'):PlsT w B' S A n c ps:=by
 obtain ⟨h0,h2,vs,h1,ha,h3⟩:=h
 refine ⟨h0,h2,vs,h1.more hB,ha,fun i p hp =>?_⟩
 obtain ⟨A',c',h4,h5,h6,h7⟩:=h3 i p hp
 exact ⟨A',c',h4,h5,h6.more hB,h7⟩
theorem PlsT.below {w w':World} {S:Nat→Prop} {A:Option Addr} {n c:Nat} {ps:List (List UInt8)} (h:PlsT w w.heap.size S A n c ps) (hb:Below w.heap.size w w'):PlsT w' w'.heap.size S A n c ps :=
 (h.turn (Turn.of_below hb) (Nat.le_refl _)).more hb.size
def zIR (v:World) (base b:Nat) (r:Rc) (l:List Dp) (A:Option Addr) (n c:Nat):Prop :=
 v.heap[b]? = some (.cells #[.int .i64 r.kind,.string (tx r.target),.int .u64 r.rule,.slice A n c,.int .u64 r.out,.int .u64 r.time,.string (tx r.tag)] 45 (0,0))∧base≤b∧v.ownsRow base 73 3 (.slice A n c) n (dps l)
theorem zAO {w:World} {b:Nat} {o:Obj} (h:w.heap[b]? = some o):b<w.heap.size:=(Array.getElem?_eq_some_iff.1 h).1
theorem zIR.below {v v':World} {base b:Nat} {r:Rc} {l:List Dp} {A:Option Addr} {n c:Nat} (h:zIR v base b r l A n c) (hb:Below v.heap.size v v'):zIR v' base b r l A n c :=
 ⟨(hb.block b (zAO h.1)).trans h.1,h.2.1,zAF h.2.2 hb⟩
def UP (ver:Int) (tl ps:List (List UInt8)) (at_:Int) (r:Rc) (l:List Dp) (nx e9:Int) (tl9:List (List UInt8)):Prop:=∀ (S:Nat→Prop) (bt N n c:Nat) (A:Option Addr) (w:World),N≤500000000→(∀ k,S k→k<w.heap.size)→Tab w S bt N tl→PlsT w w.heap.size S A n c ps→(A=none→c=0) →
 Calls Tryz.prog 44 #[.int .i64 ver,.pointer (some ⟨bt,0,none⟩),.slice A n c,.int .i64 at_] w fun e w' =>∃ (A':Option Addr) (n' c':Nat) (S':Nat→Prop),e=.returned (.tuple #[.agg #[.int .i64 r.kind,.string (tx r.target),.int .u64 r.rule,.slice A' n' c',.int .u64 r.out,.int .u64 r.time,.string (tx r.tag)],.int .i64 nx,.int .i64 e9])∧w'.ownsRow w.heap.size 73 3 (.slice A' n' c') n' (dps l)∧(∃ N',N'≤N+100036∧Tab w' S' bt N' tl9)∧(∀ k,S' k→k<w'.heap.size∧(S k∨w.heap.size≤k))∧Turn S w w'
def UD (ver:Int) (tl ps:List (List UInt8)) (at_:Int) (r:Rc) (l:List Dp) (nx e9:Int) (tl9:List (List UInt8)):Prop:=∀ (T A:Option Addr) (tk n c B0:Nat) (w:World),B0≤w.heap.size→Own w B0 (.slice T tl.length tk) tl→zAE w w.heap.size 1 A n (ps.map tsv) →
 Calls Tryz.prog 25 #[.int .i64 ver,.slice T tl.length tk,.slice A n c,.int .i64 at_] w fun e w' =>∃ (A':Option Addr) (c':Nat) (v2:Value),e=.returned (.tuple #[.agg #[.int .i64 r.kind,.string (tx r.target),.int .u64 r.rule,.slice A' l.length c',.int .u64 r.out,.int .u64 r.time,.string (tx r.tag)],.int .i64 nx,v2,.int .i64 e9])∧w'.ownsRow w.heap.size 73 3 (.slice A' l.length c') l.length (dps l)∧Own w' B0 v2 tl9∧Below w.heap.size w w'
def rc0:Rc:=⟨0,[],0,0,0,[]⟩
theorem zNv {ver at_ e9:Int} {tl ps:List (List UInt8)} (h:PNo ver tl ps at_ e9):UP ver tl ps at_ rc0 [] 0 e9 tl:=by
 intro S bt N n c A w hN hS hT hP hA
 refine (h S bt N n c A w hN hS hT hP (fun e =>⟨by have:=hA e;have:=hP.1;omega,hA e⟩)).mono ?_
 rintro e w' ⟨S',rfl,h1,h2,h3⟩
 exact ⟨none,0,0,S',rfl,World.ownsRow_nil _ _ _ _,h1,h2,h3⟩
theorem zNl {ver at_ e9:Int} {tl ps:List (List UInt8)} (h:DNo ver tl ps at_ e9):UD ver tl ps at_ rc0 [] 0 e9 tl:=by
 intro T A tk n c B0 w hB hO hR
 refine (h T A tk n c B0 w hB hO hR).mono ?_
 rintro e w' ⟨rfl,h1⟩
 exact ⟨none,0,_,rfl,World.ownsRow_nil _ _ _ _,zAF hO h1,h1⟩
theorem zPF {ver:Int} {tl ps:List (List UInt8)} {a nx:Nat} {r:Rc} {l:List Dp} (h:PYes ver tl ps a nx r l):UP ver tl ps (a:Int) r l (nx:Int) 0 (tabT ver tl r l):=by
 intro S bt N n c A w hN hS hT hP hA
 refine (h S bt N n c A w hN hT hP).mono ?_
 rintro e w' ⟨A',n',c',S',rfl,h1,⟨N',h2,h3⟩,h4,h5⟩
 exact ⟨A',n',c',S',rfl,h1.1,⟨N',by omega,h3⟩,h4,h5⟩
theorem zPG {ver:Int} {tl ps:List (List UInt8)} {a nx:Nat} {r:Rc} {l:List Dp} (h:DYes ver tl ps a nx r l):UD ver tl ps (a:Int) r l (nx:Int) 0 (tabT ver tl r l):=by
 intro T A tk n c B0 w hB hO hR
 refine (h T A tk n c B0 w hB hO hR).mono ?_
 rintro e w' ⟨A',c',v2,rfl,h1,h2,h3⟩
 exact ⟨A',c',v2,rfl,h1,h2,h3⟩
theorem zCF {w w':World} {base size n g:Nat} {e:TypeId} {v:Value} {xs:List Value} (h:w.ownsRow base e size v n xs) (hg:w.grownBy w' (some g)) (hn:v.ownBlock≠some g):w'.ownsRow base e size v n xs :=
 zAT h fun k hk =>hg.block k (zAV h k hk) (fun e =>hn (by rw [hk,Option.some.inj e]))
abbrev Rdd:=Rc×List Dp×Nat
def tbO (ver:Int) (xs:List Rdd):List (List UInt8):=xs.foldl (fun t x =>tabT ver t x.1 x.2.1) []
def atO (xs:List Rdd):Nat:=xs.foldl (fun _ x =>x.2.2) 0
theorem zCm (ver:Int) (xs:List Rdd) (x:Rdd):tbO ver (xs++[x])=tabT ver (tbO ver xs) x.1 x.2.1:=by unfold tbO;rw [List.foldl_append];rfl
theorem zBv (xs:List Rdd) (x:Rdd):atO (xs++[x])=x.2.2:=by unfold atO;rw [List.foldl_append];rfl
theorem zEY {α:Type} (xs:List α):xs=[] ∨ ∃ ys y,xs=ys++[y]:=by
 rcases List.eq_nil_or_concat xs with h | ⟨ys,y,h⟩
 ·exact .inl h
 ·exact .inr ⟨ys,y,by rw [h];simp⟩
theorem zGB {α:Type} {P:List α→Prop} (h0:P []) (h1:∀ xs x,P xs→P (xs++[x])):∀ xs,P xs:=by
 have h:∀ n xs,List.length xs=n→P xs:=by
  intro n
  induction n with
  | zero =>intro xs h;rw [List.length_eq_zero_iff.1 h];exact h0
  | succ n ih =>
   intro xs h
   rcases zEY xs with rfl | ⟨ys,y,rfl⟩
   ·simp at h
   ·exact h1 ys y (ih ys (by simpa using h))
 exact fun xs =>h _ xs rfl
structure Stp (ver:Int) (ps tl:List (List UInt8)) (a:Nat) (x:Rdd):Prop where
 lt:a<x.2.2
 le:x.2.2≤ps.length
 found:zCe ver tl ((ps.drop a).take (x.2.2 - a)) x.1 x.2.1
 up:UP ver tl ps (a:Int) x.1 x.2.1 (x.2.2:Int) 0 (tabT ver tl x.1 x.2.1)
 ud:UD ver tl ps (a:Int) x.1 x.2.1 (x.2.2:Int) 0 (tabT ver tl x.1 x.2.1)
def Chn (ver:Int) (ps:List (List UInt8)) (xs:List Rdd):Prop:=∀ (i:Nat) (x:Rdd),xs[i]? = some x→Stp ver ps (tbO ver (xs.take i)) (atO (xs.take i)) x
theorem Chn.snoc {ver:Int} {ps:List (List UInt8)} {xs:List Rdd} {x:Rdd} (h:Chn ver ps xs) (hx:Stp ver ps (tbO ver xs) (atO xs) x):Chn ver ps (xs++[x]):=by
 intro i y hy
 rcases Nat.lt_or_ge i xs.length with hi | hi
 ·rw [List.getElem?_append_left hi] at hy
  rw [List.take_append_of_le_length (Nat.le_of_lt hi)]
  exact h i y hy
 ·rw [List.getElem?_append_right hi] at hy
  have h0:i - xs.length=0:=by have:=(List.getElem?_eq_some_iff.1 hy).1;simpa using this
  rw [h0] at hy
  obtain rfl:x=y:=by simpa using hy
  obtain rfl:i=xs.length:=by omega
  rw [List.take_left' rfl]
  exact hx
theorem Chn.init {ver:Int} {ps:List (List UInt8)} {xs:List Rdd} {x:Rdd} (h:Chn ver ps (xs++[x])):Chn ver ps xs∧Stp ver ps (tbO ver xs) (atO xs) x:=by
 refine ⟨fun i y hy =>?_,?_⟩
 ·have hi:=(List.getElem?_eq_some_iff.1 hy).1
  have h1:=h i y (by rw [List.getElem?_append_left hi];exact hy)
  rwa [List.take_append_of_le_length (Nat.le_of_lt hi)] at h1
 ·have h1:=h xs.length x (by simp)
  rwa [List.take_left' rfl] at h1
theorem zND {ver:Int} {tl found:List (List UInt8)} {r:Rc} {l:List Dp} (h:zCe ver tl found r l):(tabT ver tl r l).length+1≤tl.length+found.length:=by
 have h1:=congrArg List.length h.2.2.2
 unfold payL at h1
 rw [List.length_append,List.length_singleton] at h1
 have h2:=zBN ((freT ver tl r l).map List.tail) tl
 rw [← zFL,List.length_map] at h2
 omega
theorem zKD {ver:Int} {tl:List (List UInt8)} {r:Rc} {l:List Dp} (hm:MayP ver r l) (h:∀ s ∈ tl,s.length≤3000):∀ s ∈ tabT ver tl r l,s.length≤3000:=by
 unfold tabT
 split
 ·exact h
 ·exact zEF 3000 _ _ h fun s hs =>Nat.le_trans ((zBn hm).1 s hs) (by omega)
theorem Chn.bounds {ver:Int} {ps:List (List UInt8)}:∀ xs:List Rdd,Chn ver ps xs→(tbO ver xs).length≤atO xs∧atO xs≤ps.length∧xs.length≤atO xs∧∀ s ∈ tbO ver xs,s.length≤3000:=by
 refine zGB ?_ ?_
 ·intro _
  exact ⟨Nat.zero_le _,Nat.zero_le _,Nat.zero_le _,fun s hs =>by cases hs⟩
 ·intro xs x ih h
  obtain ⟨h1,h2⟩:=h.init
  obtain ⟨a1,a2,a3,a4⟩:=ih h1
  rw [zCm,zBv,List.length_append,List.length_singleton]
  have h3:=zND h2.found
  rw [List.length_take,List.length_drop] at h3
  have h4:=h2.lt
  have h5:=h2.le
  exact ⟨by omega,h5,by omega,zKD h2.found.1 a4⟩
structure zGQ (ver:Int) (ps:List (List UInt8)) (xs:List Rdd):Prop where
 chn:Chn ver ps xs
 no:NoF ver (tbO ver xs) ps (atO xs:Int)
 stop:∃ e9:Int,(e9=1∨e9=3∨e9=6∨e9=11)∧UP ver (tbO ver xs) ps (atO xs:Int) rc0 [] 0 e9 (tbO ver xs)∧UD ver (tbO ver xs) ps (atO xs:Int) rc0 [] 0 e9 (tbO ver xs)
theorem zMl (ver:Int) (ps:List (List UInt8)) (hpl:ps.length≤1000) (hps:∀ s ∈ ps,s.length≤3000):∀ (k:Nat) (xs:List Rdd),Chn ver ps xs→ps.length≤atO xs+k→∃ ys,zGQ ver ps ys:=by
 intro k
 induction k with
 | zero =>
  intro xs h hk
  obtain ⟨a1,a2,a3,a4⟩:=Chn.bounds xs h
  rcases zHT ver (tbO ver xs) ps (by omega) a4 hpl hps (atO xs:Int) with ⟨e9,he,h1,h2,h3⟩ | ⟨a,j,r,l,ha,haj,hF,h1,h2⟩
  ·exact ⟨xs,h,h3,e9,he,zNv h1,zNl h2⟩
  ·omega
 | succ k ih =>
  intro xs h hk
  obtain ⟨a1,a2,a3,a4⟩:=Chn.bounds xs h
  rcases zHT ver (tbO ver xs) ps (by omega) a4 hpl hps (atO xs:Int) with ⟨e9,he,h1,h2,h3⟩ | ⟨a,j,r,l,ha,haj,hF,h1,h2⟩
  ·exact ⟨xs,h,h3,e9,he,zNv h1,zNl h2⟩
  ·obtain rfl:atO xs=a:=by omega
   have hs:Stp ver ps (tbO ver xs) (atO xs) (r,l,atO xs+j+1):=⟨by show atO xs<atO xs+j+1;omega,haj,by show zCe _ _ ((ps.drop _).take (atO xs+j+1 - atO xs)) _ _;rw [show atO xs+j+1 - atO xs=j+1 by omega];exact hF,zPF h1,zPG h2⟩
   exact ih _ (h.snoc hs) (by rw [zBv];show _≤atO xs+j+1+k;omega)
theorem zIZ (ver:Int) (ps:List (List UInt8)) (hpl:ps.length≤1000) (hps:∀ s ∈ ps,s.length≤3000):∃ xs,zGQ ver ps xs :=
 zMl ver ps hpl hps ps.length [] (fun i x hx =>by cases hx) (Nat.le_add_left _ _)
def rw0 (x:Rdd):Rw:=⟨x.1,none,0,0,x.2.1⟩
theorem zOI (ver:Int):∀ xs:List Rdd,zAb ver [] (xs.map rw0)=tbO ver xs:=by
 refine zGB rfl ?_
 intro xs x ih
 rw [List.map_append,List.map_singleton,zDS,zCm,ih]
 rfl
theorem Chn.again {ver:Int} {ps:List (List UInt8)}:∀ xs:List Rdd,Chn ver ps xs→zAL ver [] (xs.map rw0)=ps.take (atO xs):=by
 refine zGB (fun _ =>?_) ?_
 ·show []=ps.take 0
  simp
 ·intro xs x ih h
  obtain ⟨h1,h2⟩:=h.init
  rw [List.map_append,List.map_singleton,zCj,ih h1,zOI,zBv]
  show _++payL ver (tbO ver xs) x.1 x.2.1=_
  rw [h2.found.2.2.2]
  have h3:=h2.lt
  have h4:ps.take x.2.2=ps.take (atO xs+(x.2.2 - atO xs)):=by rw [show atO xs+(x.2.2 - atO xs)=x.2.2 by omega]
  rw [h4,List.take_add]
theorem zMH {ver:Int} {tl ps:List (List UInt8)} {a n1 n2:Nat} {r1 r2:Rc} {l1 l2:List Dp} (ht:tl.length≤100000) (hpl:ps.length≤100000) (g1:a<n1) (g2:n1≤ps.length) (g3:a<n2) (g4:n2≤ps.length) (h1:zCe ver tl ((ps.drop a).take (n1 - a)) r1 l1) (h2:zCe ver tl ((ps.drop a).take (n2 - a)) r2 l2):n1=n2∧r1=r2∧l1=l2:=by
 have e1:=zDT g1 g2 h1
 have e2:=zDT g3 g4 h2
 obtain rfl:n1=n2:=by omega
 refine ⟨rfl,?_⟩
 obtain ⟨p,hp⟩:∃ p,(ps.drop a)[n1 - a - 1]? = some p:=⟨_,List.getElem?_eq_getElem (by rw [List.length_drop];omega)⟩
 rw [show n1 - a=(n1 - a - 1)+1 by omega] at h1 h2
 have d1:=(zEk hp (by omega) h1).1
 have d2:=(zEk hp (by omega) h2).1
 have e:=d1.symm.trans d2
 simp only [Prod.mk.injEq,and_true] at e
 exact e
end Go.Proofs.YtoclafdidjpndaaGreatDoor
