/- Texts of one proof. -/
import Derived.Test.YtekchkfjgofnkaaGreatDoorMy6
set_option maxRecDepth 100000
set_option maxHeartbeats 8000000
namespace Go.Proofs.YtekchkfjgofnkaaGreatDoor
open Go.RowKit
def Nums (r:Rc) (l:List Dp):Prop:=(0≤r.rule∧r.rule<18446744073709551616)∧(0≤r.out∧r.out<18446744073709551616)∧(0≤r.time∧r.time<18446744073709551616)∧∀ d ∈ l,0≤d.hash∧d.hash<18446744073709551616
theorem zAc {z:Int} (h:0≤z∧z<18446744073709551616):z=((z.toNat:Nat):Int)∧z.toNat<top:=by unfold top;omega
def fTag (tl:List (List UInt8)) (r:Rc):List UInt8:=if r.tag=[] then vb 0 else vb (tnum tl r.tag+1)
def fDep (ver:Int) (tl:List (List UInt8)) (d:Dp):List UInt8:=depB ver tl d++vb d.hash.toNat
def zBu (ver:Int) (tl:List (List UInt8)) (l:List Dp):List UInt8:=vb l.length++l.flatMap (fDep ver tl)
theorem Wr.wide {w:World} {S S2:Nat→Prop} {bw bt:Nat} {ver:Int} {out:List UInt8} (h:Wr w S bw ver bt out) (hs:∀ k,S k→S2 k):Wr w S2 bw ver bt out:=by
 obtain ⟨h1,va,h2,h3,h4⟩:=h
 exact ⟨hs _ h1,va,h2,h3,fun k hk =>hs k (h4 k hk)⟩
theorem Wr.lt {w:World} {S:Nat→Prop} {bw bt:Nat} {ver:Int} {out:List UInt8} (h:Wr w S bw ver bt out):bw<w.heap.size:=by
 obtain ⟨h1,va,h2,h3,h4⟩:=h
 rcases Nat.lt_or_ge bw w.heap.size with h | h
 ·exact h
 ·rw [Array.getElem?_eq_none h] at h2;cases h2
theorem zSd {w:World} {S:Nat→Prop} {bw bt:Nat} {ver:Int} {out:List UInt8} (h:Wr w S bw ver bt out) (o:Obj):Wr (w.alloc o) (fun k =>S k∧k≠w.heap.size) bw ver bt out:=by
 have hlt:=h.lt
 obtain ⟨h1,va,h2,h3,h4⟩:=zFV h o
 obtain ⟨_,va',h2',h3',_⟩:=h
 have e:va=va':=by
  have hh:=(Below.heap_alloc w o bw hlt).trans h2'
  rw [h2] at hh
  simpa using hh
 subst e
 exact ⟨⟨h1,by omega⟩,va,h2,h3,fun k hk =>⟨h4 k hk,by have:=zAP h3' k hk;omega⟩⟩
theorem Turn.wide {w w':World} {S S2:Nat→Prop} (h:Turn S w w') (hs:∀ k,S k→S2 k):Turn S2 w w':=⟨h.1,h.2.1,h.2.2.1,h.2.2.2.1,fun k hk hn =>h.2.2.2.2 k hk (fun hk2 =>hn (hs k hk2))⟩
structure Env (w:World) (S T:Nat→Prop) (bt N:Nat) (tl:List (List UInt8)) (br:Nat) (r:Rc) (A:Option Addr) (n c:Nat) (l:List Dp) (B:Nat):Prop where
 tab:Tab w T bt N tl
 own:w.heap[br]? = some (.cells #[.int .i64 r.kind,.string (tx r.target),.int .u64 r.rule,.slice A n c,.int .u64 r.out,.int .u64 r.time,.string (tx r.tag)] 41 (0,0))
 deps:zAD w B 3 A n (dps l)
 apart:∀ k,T k→¬ S k
 ner:¬ S br
 up:∀ k,S k→B≤k
 new:∀ k,w.heap.size≤k→S k
 hB:B≤w.heap.size
theorem Env.lt {w:World} {S T:Nat→Prop} {bt N br n c B:Nat} {tl:List (List UInt8)} {r:Rc} {A:Option Addr} {l:List Dp} (h:Env w S T bt N tl br r A n c l B):br<w.heap.size:=by
 have h2:=h.own
 rcases Nat.lt_or_ge br w.heap.size with h | h
 ·exact h
 ·rw [Array.getElem?_eq_none h] at h2;cases h2
theorem Env.turn {w w':World} {S T:Nat→Prop} {bt N br n c B:Nat} {tl:List (List UInt8)} {r:Rc} {A:Option Addr} {l:List Dp} (h:Env w S T bt N tl br r A n c l B) (ht:Turn S w w'):Env w' S T bt N tl br r A n c l B where
 tab:=h.tab.turn ht (fun k hk _ =>h.apart k hk)
 own:=(ht.2.2.2.2 br h.lt h.ner).trans h.own
 deps:=h.deps.below (ht.below h.up h.hB)
 apart:=h.apart
 ner:=h.ner
 up:=h.up
 new:=fun k hk =>h.new k (Nat.le_trans ht.2.2.2.1 hk)
 hB:=Nat.le_trans h.hB ht.2.2.2.1
def Lays (fn:Nat) (S:Nat→Prop) (bw:Nat) (ver:Int) (bt br:Nat) (E:World→Prop) (f:List UInt8):Prop :=
 ∀ (w:World) (out:List UInt8),E w→out.length≤500000000→Wr w S bw ver bt out→Calls Tryz.prog fn #[.pointer (some ⟨bw,0,none⟩),.pointer (some ⟨br,0,none⟩)] w fun e w' =>e=.returned (.tuple #[])∧Wr w' S bw ver bt (out++f)∧Turn S w w'
section
variable (S T:Nat→Prop) (bw bt N br n c B:Nat) (ver:Int) (tl:List (List UInt8)) (r:Rc) (A:Option Addr) (l:List Dp) (ht:tl.length≤1073741824) (hn:Nums r l)
include ht in
theorem zKW (hs:r.target.length≤64):Lays 155 S bw ver bt br (fun w =>Env w S T bt N tl br r A n c l B) (nmB ver tl r.target):=by
 intro w out hE hbig h
 have q1:=zAA (i:=1) hE.own rfl
 have HC:=yh (zIo S T bw bt N ver out r.target tl hs ht (by omega) w hE.new h hE.tab)
 clear hE h
 go_enter Tryz.func155,Tryz.ntmps155
 go_wp2_with (go_at_call 174;refine HC.out.mono ?_;rintro e w3 ⟨rfl,hw3,ht3⟩)
 go_end0
 exact ⟨rfl,hw3,ht3⟩
include hn in
theorem zNQ:Lays 156 S bw ver bt br (fun w =>Env w S T bt N tl br r A n c l B) (vb r.rule.toNat):=by
 intro w out hE hbig h
 have q2:=zAA (i:=2) hE.own rfl
 have HC:=yh (zBx S bw bt r.rule.toNat ver out (zAc hn.1).2 (by omega) w hE.new h)
 clear hE h
 have e:=(zAc hn.1).1
 rw [← e] at HC
 clear e
 go_enter Tryz.func156,Tryz.ntmps156
 go_wp2_with (go_at_call 175;refine HC.out.mono ?_;rintro e w3 ⟨rfl,hw3,ht3⟩)
 go_end0
 exact ⟨rfl,hw3,ht3⟩
include hn in
theorem zPN:Lays 158 S bw ver bt br (fun w =>Env w S T bt N tl br r A n c l B) (vb r.out.toNat):=by
 intro w out hE hbig h
 have q4:=zAA (i:=4) hE.own rfl
 have HC:=yh (zBx S bw bt r.out.toNat ver out (zAc hn.2.1).2 (by omega) w hE.new h)
 clear hE h
 have e:=(zAc hn.2.1).1
 rw [← e] at HC
 clear e
 go_enter Tryz.func158,Tryz.ntmps158
 go_wp2_with (go_at_call 175;refine HC.out.mono ?_;rintro e w3 ⟨rfl,hw3,ht3⟩)
 go_end0
 exact ⟨rfl,hw3,ht3⟩
include hn in
theorem zNR:Lays 159 S bw ver bt br (fun w =>Env w S T bt N tl br r A n c l B) (vb r.time.toNat):=by
 intro w out hE hbig h
 have q5:=zAA (i:=5) hE.own rfl
 have HC:=yh (zBx S bw bt r.time.toNat ver out (zAc hn.2.2.1).2 (by omega) w hE.new h)
 clear hE h
 have e:=(zAc hn.2.2.1).1
 rw [← e] at HC
 clear e
 go_enter Tryz.func159,Tryz.ntmps159
 go_wp2_with (go_at_call 175;refine HC.out.mono ?_;rintro e w3 ⟨rfl,hw3,ht3⟩)
 go_end0
 exact ⟨rfl,hw3,ht3⟩
include ht in
theorem zPO (hs:r.tag.length≤64):Lays 160 S bw ver bt br (fun w =>Env w S T bt N tl br r A n c l B) (fTag tl r):=by
 intro w out hE hbig h
 have q6:=zAA (i:=6) hE.own rfl
 by_cases hz:r.tag=[]
 ·have HC:=yh (zBx S bw bt 0 ver out (zAm (by omega)) (by omega) w hE.new h)
  unfold fTag
  rw [if_pos hz]
  rw [hz] at q6
  have d0:(tx []).toList.isEmpty=true:=by rw [zBd];rfl
  clear hE h hz
  go_enter Tryz.func160,Tryz.ntmps160
  go_wp2_with (go_at_call 175;refine HC.out.mono ?_;rintro e w3 ⟨rfl,hw3,ht3⟩)
  first | go_end0 | (refine bodyPost_ret (results_none rfl _ _ _) rfl ?_)
  exact ⟨rfl,hw3,ht3⟩
 ·have HI:=yh (zGS S T bw bt N ver out r.tag tl hs w h hE.tab)
  have hle:=zBS (s:=r.tag) ht
  have HC:=yh (zBx S bw bt (tnum tl r.tag+1) ver out (zAm (by omega)) (by omega) w hE.new h)
  unfold fTag
  rw [if_neg hz]
  obtain ⟨m,hm⟩:∃ m,m=tnum tl r.tag:=⟨_,rfl⟩
  rw [← hm] at HI HC hle ⊢
  clear hm
  push_cast at HC
  have d0:(tx r.tag).toList.isEmpty=false:=by
   rw [zBd]
   cases hr:r.tag with
   | nil =>exact absurd hr hz
   | cons a b =>rfl
  obtain ⟨x,hx⟩:∃ x,x=tx r.tag:=⟨_,rfl⟩
  rw [← hx] at q6 HI d0
  clear hE h hz hx
  go_enter Tryz.func160,Tryz.ntmps160
  go_wp2_with (first
   | (go_at_call 175;refine HC.out.mono ?_;rintro e w3 ⟨rfl,hw3,ht3⟩)
   | (go_at_call 177;refine HI.out.mono ?_;rintro e w2 ⟨rfl,rfl⟩))
  first | go_end0 | (refine bodyPost_ret (results_none rfl _ _ _) rfl ?_)
  exact ⟨rfl,hw3,ht3⟩
theorem zOn {d:Dp} (hd:d.name.length≤64) (hh:0≤d.hash∧d.hash<18446744073709551616) (ht:tl.length≤1073741824):(fDep ver tl d).length≤84:=by
 unfold fDep
 rw [List.length_append]
 have h1:=zJI (ver:=ver) hd ht
 have h2:=zBQ _ (zAc hh).2
 omega
theorem zHF {m:Nat} (hd:∀ d ∈ l,d.name.length≤64) (hh:∀ d ∈ l,0≤d.hash∧d.hash<18446744073709551616) (ht:tl.length≤1073741824):((l.take m).flatMap (fDep ver tl)).length≤84 * m:=by
 induction m with
 | zero =>simp
 | succ m ih =>
  rw [List.take_add_one,List.flatMap_append,List.length_append]
  rcases hx:l[m]? with _ | x
  ·simp only [Option.toList_none,List.flatMap_nil,List.length_nil];omega
  ·have:=zOn ver tl (hd x (List.mem_of_getElem? hx)) (hh x (List.mem_of_getElem? hx)) ht
   simp only [Option.toList_some,List.flatMap_cons,List.flatMap_nil,List.append_nil];omega
def zSg (S:Nat→Prop) (bw:Nat) (ver:Int) (bt:Nat) (tl:List (List UInt8)) (l:List Dp) (n:Nat) (out:List UInt8) (w:World) (idx:Value) (wr:World):Prop :=
 ∃ i:Nat,i≤n∧idx=.int .i64 (i:Int)∧Wr wr S bw ver bt (out++(vb l.length++(l.take i).flatMap (fDep ver tl)))∧Turn S w wr
include ht hn in
theorem zNP (hd:∀ d ∈ l,d.name.length≤64) (hnn:n≤1000):Lays 157 S bw ver bt br (fun w =>Env w S T bt N tl br r A n c l B) (zBu ver tl l):=by
 intro w out hE hbig h
 have HL:Hid (l.length=n):=by have:=hE.deps.1;rw [zAn] at this;show _=_;omega
 have q3:=zAA (i:=3) hE.own rfl
 have HC:=yh (zBx S bw bt l.length ver out (zAm (by have:=HL.out;omega)) (by omega) w hE.new h)
 rw [HL.out] at HC
 have HE:=yh hE
 have HBIG:=yh hbig
 have HD:=yh hd
 have HH:=yh hn.2.2.2
 have HT:=yh ht
 clear hE h hd hn ht
 go_enter Tryz.func157,Tryz.ntmps157
 go_wp2_with (go_at_call 175;refine HC.out.mono ?_;rintro e w3 ⟨rfl,hw3,ht3⟩;have HW3:=yh hw3;have HT3:=yh ht3;have p3:=zAA (i:=3) (HE.out.turn ht3).own rfl;clear hw3 ht3)
 go_loopw [19] (fun idx wr =>zSg S bw ver bt tl l n out w idx wr) (fun idx wr =>n - (intOf idx).toNat)
 case atStart =>exact ⟨0,by omega,rfl,by rw [HL.out];simpa using HW3.out,HT3.out⟩
 case round =>
  obtain ⟨i,hi,rfl,hwr,htr⟩:=hrel
  by_cases hlt:i<n
  ·obtain ⟨x,hx⟩:∃ x,l[i]? = some x:=⟨_,List.getElem?_eq_getElem (by rw [HL.out];exact hlt)⟩
   have hm:=List.mem_of_getElem? hx
   have hxn:=HD.out x hm
   have hxh:=HH.out x hm
   have hEr:=HE.out.turn htr
   obtain ⟨ad,rfl,_,hcx⟩:=hEr.deps.2 (by omega)
   obtain ⟨x0,x1,x2⟩:=zCl l i x hx
   have k0:=hcx _ _ x0
   have k1:=hcx _ _ x1
   have k2:=hcx _ _ x2
   rw [zDR] at k1
   rw [zDT] at k2
   unfold rsv at k0
   have htake:(l.take (i+1)).flatMap (fDep ver tl)=(l.take i).flatMap (fDep ver tl)++fDep ver tl x:=by
    rw [List.take_add_one,hx,List.flatMap_append];simp
   have HTAKE:=yh htake
   have hlen:=zHF ver tl l (m:=i) HD.out HH.out HT.out
   have hvl:=zBQ l.length (zAm (by have:=HL.out;omega))
   obtain ⟨xn,xh,xo⟩:=x
   simp only at k0 k1 k2 hxn hxh
   have hW5:=zSd hwr (.cells #[.string (tx xn),.int .u64 xh,.bool xo] 95)
   have hT5:Turn (fun k =>S k∧k≠wr.heap.size) wr (wr.alloc (.cells #[.string (tx xn),.int .u64 xh,.bool xo] 95)):=Turn.of_below ((Below.refl _ wr).alloc (Nat.le_refl _) _)
   have hS5:∀ k,(wr.alloc (.cells #[.string (tx xn),.int .u64 xh,.bool xo] 95)).heap.size≤k→S k∧k≠wr.heap.size:=fun k hk =>⟨hEr.new k (by simp at hk;omega),by simp at hk;omega⟩
   have HDEP:=yh (zQp (fun k =>S k∧k≠wr.heap.size) T bw bt N ver _ ⟨xn,xh,xo⟩ tl hxn HT.out (by have:=HBIG.out;simp only [List.length_append];omega) _ hS5 hW5 (zCb hEr.tab _))
   have hbl:=zJI (ver:=ver) (d:=⟨xn,xh,xo⟩) hxn HT.out
   have HNUM:Hid (∀ W,(∀ k,W.heap.size≤k→S k)→Wr W S bw ver bt (out++(vb l.length++(l.take i).flatMap (fDep ver tl))++depB ver tl ⟨xn,xh,xo⟩)→Calls Tryz.prog 175 #[.pointer (some ⟨bw,0,none⟩),.int .u64 xh] W fun e w' =>e=.returned (.tuple #[])∧Wr w' S bw ver bt (out++(vb l.length++(l.take i).flatMap (fDep ver tl))++depB ver tl ⟨xn,xh,xo⟩++vb xh.toNat)∧Turn S W w'):=fun W hSW hWW =>by
    have h1:=zBx S bw bt xh.toNat ver _ (zAc hxh).2 (by have:=HBIG.out;simp only [List.length_append];omega) W hSW hWW
    rw [← (zAc hxh).1] at h1
    exact h1
   have HBOX:=yh (zAE wr (.cells #[.string (tx xn),.int .u64 xh,.bool xo] 95))
   have b0:=zAA (i:=0) HBOX.out rfl
   have b1:=zAA (i:=1) HBOX.out rfl
   have b2:=zAA (i:=2) HBOX.out rfl
   have HTR:=yh htr
   have HER:=yh hEr
   have HT5:=yh hT5
   have hi0:(0:Int)≤(i:Int):=by omega
   have hi1:(i:Int)<(n:Int):=by omega
   clear hcx x0 x1 x2 hx hm hEr hwr htr hW5 hS5 htake hxn hxh hlen hvl hbl hT5
   go_wp2_with (first
    | (go_at_call 175;refine (HNUM.out _ HNEW.out HW6.out).mono ?_;rintro e w7 ⟨rfl,hw7,ht7⟩;have HW7:=yh hw7;have HT7:=yh (HT6.out.trans ht7 (fun _ _ h =>h));clear hw7 ht7)
    | (go_at_call 176;refine HDEP.out.mono ?_;rintro e w6 ⟨rfl,hw6,ht6⟩;have j1:=zAA (i:=1) ((ht6.2.2.2.2 wr.heap.size (by simp) (fun h =>h.2 rfl)).trans HBOX.out) rfl;have HW6:=yh (hw6.wide (fun k hk =>hk.1));have HT6:=yh (HTR.out.trans ((HT5.out.trans ht6 (fun _ _ h =>h)).wide (fun k hk =>hk.1)) (fun _ _ h =>h));have HNEW:=yh (HE.out.turn HT6.out).new;clear hw6 ht6))
   exact ⟨⟨i+1,by omega,by go_num,by rw [HTAKE.out];simpa [fDep,List.append_assoc] using HW7.out,HT7.out⟩,by simp [intOf];omega⟩
  ·obtain rfl:i=n:=by omega
   rw [List.take_of_length_le (by rw [HL.out];omega)] at hwr
   have HWR:=yh hwr
   have HTR:=yh htr
   clear hwr htr
   go_wp2
   go_end0
   exact ⟨rfl,HWR.out,HTR.out⟩
end
theorem zFQ (W:World) (gs:List Value):zAD (W.alloc (.cells gs.toArray 203)) (W.heap.size+1) 1 (some ⟨W.heap.size,0,none⟩) gs.length gs:=by
 refine ⟨by simp,fun _ =>⟨_,rfl,by show W.heap.size<_;omega,fun j u hu =>?_⟩⟩
 have h2:=zAA (w:=W.alloc (.cells gs.toArray 203)) (b:=W.heap.size) (i:=j) (zAE W _) (by simpa using hu)
 rw [show (⟨W.heap.size,0,none⟩:Addr).add j=⟨W.heap.size,j,none⟩ from by unfold Addr.add;split <;> simp_all]
 exact h2
theorem zFN (W:World) (b:Nat) (gs:List Value) (hb:b≤W.heap.size) (hl:gs.length≤1000):(W.alloc (.cells gs.toArray 203)).ownsRow b 203 1 (.slice (some ⟨W.heap.size,0,none⟩) gs.length gs.length) gs.length gs :=
 zBO (cap:=gs.length) (cs:=gs) hb (zAE W _) (Nat.le_refl _) (by unfold maxLen;omega) rfl (by simp)
theorem zHQ:(Tryz.prog.info? 203).map (fun i =>(i.zero,i.size,i.bytes))=some (some .nilFunc,1,8):=by kernel_rfl
section
variable (k0 k1 k2 k3 k4 k5:Nat) (p:Value)
theorem zQW (w:World) :
  Calls Tryz.prog 146 #[.agg #[.func (.func k0) #[p] #[],.func (.func k1) #[p] #[],.func (.func k2) #[p] #[],.func (.func k3) #[p] #[],.func (.func k4) #[p] #[],.func (.func k5) #[p] #[]],.int .i64 1,.int .i64 1] w fun e w' =>∃ v,e=.returned v∧w'.ownsRow (w.heap.size+1) 203 1 v 4 [.func (.func k0) #[p] #[],.func (.func k1) #[p] #[],.func (.func k2) #[p] #[],.func (.func k3) #[p] #[]]∧Below w.heap.size w w':=by
 obtain ⟨i0,ii0,iz0,iz1,iz2⟩:=info_parts zHQ
 have HA:=yh (zAE w (.cells #[.func (.func k0) #[p] #[],.func (.func k1) #[p] #[],.func (.func k2) #[p] #[],.func (.func k3) #[p] #[],.func (.func k4) #[p] #[],.func (.func k5) #[p] #[]] 205))
 have HB0:=yh ((Below.refl _ w).alloc (Nat.le_refl _) (.cells #[.func (.func k0) #[p] #[],.func (.func k1) #[p] #[],.func (.func k2) #[p] #[],.func (.func k3) #[p] #[],.func (.func k4) #[p] #[],.func (.func k5) #[p] #[]] 205))
 have HZ:Hid ((w.alloc (.cells #[.func (.func k0) #[p] #[],.func (.func k1) #[p] #[],.func (.func k2) #[p] #[],.func (.func k3) #[p] #[],.func (.func k4) #[p] #[],.func (.func k5) #[p] #[]] 205)).heap.size=w.heap.size+1):=by show _=_;simp
 have q0:=zAA (i:=0) HA.out rfl
 have q1:=zAA (i:=1) HA.out rfl
 have q2:=zAA (i:=2) HA.out rfl
 have q3:=zAA (i:=3) HA.out rfl
 have q4:=zAA (i:=4) HA.out rfl
 have q5:=zAA (i:=5) HA.out rfl
 have ho0:=zFN (w.alloc (.cells #[.func (.func k0) #[p] #[],.func (.func k1) #[p] #[],.func (.func k2) #[p] #[],.func (.func k3) #[p] #[],.func (.func k4) #[p] #[],.func (.func k5) #[p] #[]] 205)) (w.heap.size+1) [.func (.func k0) #[p] #[],.func (.func k1) #[p] #[],.func (.func k2) #[p] #[],.func (.func k3) #[p] #[]] (by simp) (by simp)
 rw [HZ.out] at ho0
 have HO0:=yh ho0
 clear ho0
 have HB1:=yh (HB0.out.alloc (by have h1:=HZ.out;omega) (.cells #[.func (.func k0) #[p] #[],.func (.func k1) #[p] #[],.func (.func k2) #[p] #[],.func (.func k3) #[p] #[]] 203))
 go_enter Tryz.func146,Tryz.ntmps146
 go_wp2
 go_ret
 exact ⟨_,rfl,HO0.out,HB1.out⟩
theorem zQX (w:World) :
  Calls Tryz.prog 146 #[.agg #[.func (.func k0) #[p] #[],.func (.func k1) #[p] #[],.func (.func k2) #[p] #[],.func (.func k3) #[p] #[],.func (.func k4) #[p] #[],.func (.func k5) #[p] #[]],.int .i64 2,.int .i64 1] w fun e w' =>∃ v,e=.returned v∧w'.ownsRow (w.heap.size+1) 203 1 v 5 [.func (.func k0) #[p] #[],.func (.func k1) #[p] #[],.func (.func k2) #[p] #[],.func (.func k3) #[p] #[],.func (.func k4) #[p] #[]]∧Below w.heap.size w w':=by
 obtain ⟨i0,ii0,iz0,iz1,iz2⟩:=info_parts zHQ
 have HA:=yh (zAE w (.cells #[.func (.func k0) #[p] #[],.func (.func k1) #[p] #[],.func (.func k2) #[p] #[],.func (.func k3) #[p] #[],.func (.func k4) #[p] #[],.func (.func k5) #[p] #[]] 205))
 have HB0:=yh ((Below.refl _ w).alloc (Nat.le_refl _) (.cells #[.func (.func k0) #[p] #[],.func (.func k1) #[p] #[],.func (.func k2) #[p] #[],.func (.func k3) #[p] #[],.func (.func k4) #[p] #[],.func (.func k5) #[p] #[]] 205))
 have HZ:Hid ((w.alloc (.cells #[.func (.func k0) #[p] #[],.func (.func k1) #[p] #[],.func (.func k2) #[p] #[],.func (.func k3) #[p] #[],.func (.func k4) #[p] #[],.func (.func k5) #[p] #[]] 205)).heap.size=w.heap.size+1):=by show _=_;simp
 have q0:=zAA (i:=0) HA.out rfl
 have q1:=zAA (i:=1) HA.out rfl
 have q2:=zAA (i:=2) HA.out rfl
 have q3:=zAA (i:=3) HA.out rfl
 have q4:=zAA (i:=4) HA.out rfl
 have q5:=zAA (i:=5) HA.out rfl
 have ho0:=zFN (w.alloc (.cells #[.func (.func k0) #[p] #[],.func (.func k1) #[p] #[],.func (.func k2) #[p] #[],.func (.func k3) #[p] #[],.func (.func k4) #[p] #[],.func (.func k5) #[p] #[]] 205)) (w.heap.size+1) [.func (.func k0) #[p] #[],.func (.func k1) #[p] #[],.func (.func k2) #[p] #[],.func (.func k3) #[p] #[]] (by simp) (by simp)
 rw [HZ.out] at ho0
 have HO0:=yh ho0
 clear ho0
 have HB1:=yh (HB0.out.alloc (by have h1:=HZ.out;omega) (.cells #[.func (.func k0) #[p] #[],.func (.func k1) #[p] #[],.func (.func k2) #[p] #[],.func (.func k3) #[p] #[]] 203))
 go_enter Tryz.func146,Tryz.ntmps146
 have HU0:Hid (Below (w.heap.size+1) (w.alloc (.cells #[.func (.func k0) #[p] #[],.func (.func k1) #[p] #[],.func (.func k2) #[p] #[],.func (.func k3) #[p] #[],.func (.func k4) #[p] #[],.func (.func k5) #[p] #[]] 205)) ((w.alloc (.cells #[.func (.func k0) #[p] #[],.func (.func k1) #[p] #[],.func (.func k2) #[p] #[],.func (.func k3) #[p] #[],.func (.func k4) #[p] #[],.func (.func k5) #[p] #[]] 205)).alloc (.cells #[.func (.func k0) #[p] #[],.func (.func k1) #[p] #[],.func (.func k2) #[p] #[],.func (.func k3) #[p] #[]] 203))):=(Below.refl _ _).alloc (by simp) _
 have HS0:Hid (w.heap.size+1≤((w.alloc (.cells #[.func (.func k0) #[p] #[],.func (.func k1) #[p] #[],.func (.func k2) #[p] #[],.func (.func k3) #[p] #[],.func (.func k4) #[p] #[],.func (.func k5) #[p] #[]] 205)).alloc (.cells #[.func (.func k0) #[p] #[],.func (.func k1) #[p] #[],.func (.func k2) #[p] #[],.func (.func k3) #[p] #[]] 203)).heap.size):=by show _≤_;simp
 go_wp2_with (at_builtin;have ho:=World.ownsRow.alloc HO0.out (.cells #[.func (.func k4) #[p] #[]] 203);have hb:=HB1.out.alloc HB1.out.size (.cells #[.func (.func k4) #[p] #[]] 203);have hr:=zFQ ((w.alloc (.cells #[.func (.func k0) #[p] #[],.func (.func k1) #[p] #[],.func (.func k2) #[p] #[],.func (.func k3) #[p] #[],.func (.func k4) #[p] #[],.func (.func k5) #[p] #[]] 205)).alloc (.cells #[.func (.func k0) #[p] #[],.func (.func k1) #[p] #[],.func (.func k2) #[p] #[],.func (.func k3) #[p] #[]] 203)) [.func (.func k4) #[p] #[]];refine zAw _ rfl (.tmp 22) (.tmp 25) 206 rfl (w.heap.size+1) 203 i0 _ 1 8 Tryz.underlying206 ii0 iz0 iz1 iz2 rfl (by decide) _ 4 [.func (.func k0) #[p] #[],.func (.func k1) #[p] #[],.func (.func k2) #[p] #[],.func (.func k3) #[p] #[]] rfl ho (some ⟨w.heap.size+1+1,0,none⟩) 1 1 (w.heap.size+1+1+1) [.func (.func k4) #[p] #[]] rfl (by simp) (by simpa using hr) (fun u hu =>by obtain rfl:=List.mem_singleton.1 hu;rfl) (by unfold maxLen;omega) (by omega) (Nat.le_trans HS0.out (by simp)) ?_;intro v3 w3 ho3 hg3;have HO3:=yh ho3;have HB3:=yh (hb.grown hg3 hb.size (fun g hg =>by have h1:=zAG HO0.out g hg;omega));have HS1:Hid (w.heap.size+1≤w3.heap.size):=(Nat.le_trans (Nat.le_trans HS0.out (by simp)) hg3.size);have HU1:=yh ((HU0.out.alloc HS0.out (.cells #[.func (.func k4) #[p] #[]] 203)).grown hg3 (Nat.le_trans HS0.out (by simp)) (fun g hg =>zAG HO0.out g hg));have j5:=(HU1.out.cell (p:=⟨w.heap.size,5,none⟩) (show w.heap.size<w.heap.size+1 by omega)).trans (zAA (i:=5) HA.out rfl);clear ho hb hr ho3 hg3)
 go_ret
 exact ⟨_,rfl,HO3.out,HB3.out⟩
theorem zQY (w:World) :
  Calls Tryz.prog 146 #[.agg #[.func (.func k0) #[p] #[],.func (.func k1) #[p] #[],.func (.func k2) #[p] #[],.func (.func k3) #[p] #[],.func (.func k4) #[p] #[],.func (.func k5) #[p] #[]],.int .i64 3,.int .i64 1] w fun e w' =>∃ v,e=.returned v∧w'.ownsRow (w.heap.size+1) 203 1 v 6 [.func (.func k0) #[p] #[],.func (.func k1) #[p] #[],.func (.func k2) #[p] #[],.func (.func k3) #[p] #[],.func (.func k4) #[p] #[],.func (.func k5) #[p] #[]]∧Below w.heap.size w w':=by
 obtain ⟨i0,ii0,iz0,iz1,iz2⟩:=info_parts zHQ
 have HA:=yh (zAE w (.cells #[.func (.func k0) #[p] #[],.func (.func k1) #[p] #[],.func (.func k2) #[p] #[],.func (.func k3) #[p] #[],.func (.func k4) #[p] #[],.func (.func k5) #[p] #[]] 205))
 have HB0:=yh ((Below.refl _ w).alloc (Nat.le_refl _) (.cells #[.func (.func k0) #[p] #[],.func (.func k1) #[p] #[],.func (.func k2) #[p] #[],.func (.func k3) #[p] #[],.func (.func k4) #[p] #[],.func (.func k5) #[p] #[]] 205))
 have HZ:Hid ((w.alloc (.cells #[.func (.func k0) #[p] #[],.func (.func k1) #[p] #[],.func (.func k2) #[p] #[],.func (.func k3) #[p] #[],.func (.func k4) #[p] #[],.func (.func k5) #[p] #[]] 205)).heap.size=w.heap.size+1):=by show _=_;simp
 have q0:=zAA (i:=0) HA.out rfl
 have q1:=zAA (i:=1) HA.out rfl
 have q2:=zAA (i:=2) HA.out rfl
 have q3:=zAA (i:=3) HA.out rfl
 have q4:=zAA (i:=4) HA.out rfl
 have q5:=zAA (i:=5) HA.out rfl
 have ho0:=zFN (w.alloc (.cells #[.func (.func k0) #[p] #[],.func (.func k1) #[p] #[],.func (.func k2) #[p] #[],.func (.func k3) #[p] #[],.func (.func k4) #[p] #[],.func (.func k5) #[p] #[]] 205)) (w.heap.size+1) [.func (.func k0) #[p] #[],.func (.func k1) #[p] #[],.func (.func k2) #[p] #[],.func (.func k3) #[p] #[]] (by simp) (by simp)
 rw [HZ.out] at ho0
 have HO0:=yh ho0
 clear ho0
 have HB1:=yh (HB0.out.alloc (by have h1:=HZ.out;omega) (.cells #[.func (.func k0) #[p] #[],.func (.func k1) #[p] #[],.func (.func k2) #[p] #[],.func (.func k3) #[p] #[]] 203))
 go_enter Tryz.func146,Tryz.ntmps146
 have HU0:Hid (Below (w.heap.size+1) (w.alloc (.cells #[.func (.func k0) #[p] #[],.func (.func k1) #[p] #[],.func (.func k2) #[p] #[],.func (.func k3) #[p] #[],.func (.func k4) #[p] #[],.func (.func k5) #[p] #[]] 205)) ((w.alloc (.cells #[.func (.func k0) #[p] #[],.func (.func k1) #[p] #[],.func (.func k2) #[p] #[],.func (.func k3) #[p] #[],.func (.func k4) #[p] #[],.func (.func k5) #[p] #[]] 205)).alloc (.cells #[.func (.func k0) #[p] #[],.func (.func k1) #[p] #[],.func (.func k2) #[p] #[],.func (.func k3) #[p] #[]] 203))):=(Below.refl _ _).alloc (by simp) _
 have HS0:Hid (w.heap.size+1≤((w.alloc (.cells #[.func (.func k0) #[p] #[],.func (.func k1) #[p] #[],.func (.func k2) #[p] #[],.func (.func k3) #[p] #[],.func (.func k4) #[p] #[],.func (.func k5) #[p] #[]] 205)).alloc (.cells #[.func (.func k0) #[p] #[],.func (.func k1) #[p] #[],.func (.func k2) #[p] #[],.func (.func k3) #[p] #[]] 203)).heap.size):=by show _≤_;simp
 go_wp2_with (first
  | (at_builtin;have ho:=World.ownsRow.alloc HO3.out (.cells #[.func (.func k5) #[p] #[]] 203);have hb:=HB3.out.alloc HB3.out.size (.cells #[.func (.func k5) #[p] #[]] 203);have hr:=zFQ w3 [.func (.func k5) #[p] #[]];refine zAw _ rfl (.tmp 29) (.tmp 32) 206 rfl (w.heap.size+1) 203 i0 _ 1 8 Tryz.underlying206 ii0 iz0 iz1 iz2 rfl (by decide) _ 5 [.func (.func k0) #[p] #[],.func (.func k1) #[p] #[],.func (.func k2) #[p] #[],.func (.func k3) #[p] #[],.func (.func k4) #[p] #[]] rfl ho (some ⟨w3.heap.size,0,none⟩) 1 1 (w3.heap.size+1) [.func (.func k5) #[p] #[]] rfl (by simp) (by simpa using hr) (fun u hu =>by obtain rfl:=List.mem_singleton.1 hu;rfl) (by unfold maxLen;omega) (by omega) (Nat.le_trans HS1.out (by simp)) ?_;intro v4 w4 ho4 hg4;have HO4:=yh ho4;have HB4:=yh (hb.grown hg4 hb.size (fun g hg =>by have h1:=zAG HO3.out g hg;omega));have HS2:Hid (w.heap.size+1≤w4.heap.size):=(Nat.le_trans (Nat.le_trans HS1.out (by simp)) hg4.size);have HU2:=yh ((HU1.out.alloc HS1.out (.cells #[.func (.func k5) #[p] #[]] 203)).grown hg4 (Nat.le_trans HS1.out (by simp)) (fun g hg =>zAG HO3.out g hg));have j5:=(HU2.out.cell (p:=⟨w.heap.size,5,none⟩) (show w.heap.size<w.heap.size+1 by omega)).trans (zAA (i:=5) HA.out rfl);clear ho hb hr ho4 hg4)
  | (at_builtin;have ho:=World.ownsRow.alloc HO0.out (.cells #[.func (.func k4) #[p] #[]] 203);have hb:=HB1.out.alloc HB1.out.size (.cells #[.func (.func k4) #[p] #[]] 203);have hr:=zFQ ((w.alloc (.cells #[.func (.func k0) #[p] #[],.func (.func k1) #[p] #[],.func (.func k2) #[p] #[],.func (.func k3) #[p] #[],.func (.func k4) #[p] #[],.func (.func k5) #[p] #[]] 205)).alloc (.cells #[.func (.func k0) #[p] #[],.func (.func k1) #[p] #[],.func (.func k2) #[p] #[],.func (.func k3) #[p] #[]] 203)) [.func (.func k4) #[p] #[]];refine zAw _ rfl (.tmp 22) (.tmp 25) 206 rfl (w.heap.size+1) 203 i0 _ 1 8 Tryz.underlying206 ii0 iz0 iz1 iz2 rfl (by decide) _ 4 [.func (.func k0) #[p] #[],.func (.func k1) #[p] #[],.func (.func k2) #[p] #[],.func (.func k3) #[p] #[]] rfl ho (some ⟨w.heap.size+1+1,0,none⟩) 1 1 (w.heap.size+1+1+1) [.func (.func k4) #[p] #[]] rfl (by simp) (by simpa using hr) (fun u hu =>by obtain rfl:=List.mem_singleton.1 hu;rfl) (by unfold maxLen;omega) (by omega) (Nat.le_trans HS0.out (by simp)) ?_;intro v3 w3 ho3 hg3;have HO3:=yh ho3;have HB3:=yh (hb.grown hg3 hb.size (fun g hg =>by have h1:=zAG HO0.out g hg;omega));have HS1:Hid (w.heap.size+1≤w3.heap.size):=(Nat.le_trans (Nat.le_trans HS0.out (by simp)) hg3.size);have HU1:=yh ((HU0.out.alloc HS0.out (.cells #[.func (.func k4) #[p] #[]] 203)).grown hg3 (Nat.le_trans HS0.out (by simp)) (fun g hg =>zAG HO0.out g hg));have j5:=(HU1.out.cell (p:=⟨w.heap.size,5,none⟩) (show w.heap.size<w.heap.size+1 by omega)).trans (zAA (i:=5) HA.out rfl);clear ho hb hr ho3 hg3))
 go_ret
 exact ⟨_,rfl,HO4.out,HB4.out⟩
theorem of_2 (ver:Int) (w:World) :
  Calls Tryz.prog 146 #[.agg #[.func (.func k0) #[p] #[],.func (.func k1) #[p] #[],.func (.func k2) #[p] #[],.func (.func k3) #[p] #[],.func (.func k4) #[p] #[],.func (.func k5) #[p] #[]],.int .i64 ver,.int .i64 2] w fun e w' =>∃ v,e=.returned v∧w'.ownsRow (w.heap.size+1) 203 1 v 1 [.func (.func k0) #[p] #[]]∧Below w.heap.size w w':=by
 obtain ⟨i0,ii0,iz0,iz1,iz2⟩:=info_parts zHQ
 have HA:=yh (zAE w (.cells #[.func (.func k0) #[p] #[],.func (.func k1) #[p] #[],.func (.func k2) #[p] #[],.func (.func k3) #[p] #[],.func (.func k4) #[p] #[],.func (.func k5) #[p] #[]] 205))
 have HB0:=yh ((Below.refl _ w).alloc (Nat.le_refl _) (.cells #[.func (.func k0) #[p] #[],.func (.func k1) #[p] #[],.func (.func k2) #[p] #[],.func (.func k3) #[p] #[],.func (.func k4) #[p] #[],.func (.func k5) #[p] #[]] 205))
 have HZ:Hid ((w.alloc (.cells #[.func (.func k0) #[p] #[],.func (.func k1) #[p] #[],.func (.func k2) #[p] #[],.func (.func k3) #[p] #[],.func (.func k4) #[p] #[],.func (.func k5) #[p] #[]] 205)).heap.size=w.heap.size+1):=by show _=_;simp
 have q0:=zAA (i:=0) HA.out rfl
 have q1:=zAA (i:=1) HA.out rfl
 have q2:=zAA (i:=2) HA.out rfl
 have q3:=zAA (i:=3) HA.out rfl
 have q4:=zAA (i:=4) HA.out rfl
 have q5:=zAA (i:=5) HA.out rfl
 have ho0:=zFN (w.alloc (.cells #[.func (.func k0) #[p] #[],.func (.func k1) #[p] #[],.func (.func k2) #[p] #[],.func (.func k3) #[p] #[],.func (.func k4) #[p] #[],.func (.func k5) #[p] #[]] 205)) (w.heap.size+1) [.func (.func k0) #[p] #[]] (by simp) (by simp)
 rw [HZ.out] at ho0
 have HO0:=yh ho0
 clear ho0
 have HB1:=yh (HB0.out.alloc (by have h1:=HZ.out;omega) (.cells #[.func (.func k0) #[p] #[]] 203))
 go_enter Tryz.func146,Tryz.ntmps146
 go_wp2
 go_ret
 exact ⟨_,rfl,HO0.out,HB1.out⟩
theorem zRL (ver k:Int) (hk:k≠1∧k≠2) (w:World) :
  Calls Tryz.prog 146 #[.agg #[.func (.func k0) #[p] #[],.func (.func k1) #[p] #[],.func (.func k2) #[p] #[],.func (.func k3) #[p] #[],.func (.func k4) #[p] #[],.func (.func k5) #[p] #[]],.int .i64 ver,.int .i64 k] w fun e w' =>∃ v,e=.returned v∧w'.ownsRow (w.heap.size+1) 203 1 v 0 []∧Below w.heap.size w w':=by
 obtain ⟨i0,ii0,iz0,iz1,iz2⟩:=info_parts zHQ
 have HA:=yh (zAE w (.cells #[.func (.func k0) #[p] #[],.func (.func k1) #[p] #[],.func (.func k2) #[p] #[],.func (.func k3) #[p] #[],.func (.func k4) #[p] #[],.func (.func k5) #[p] #[]] 205))
 have HB0:=yh ((Below.refl _ w).alloc (Nat.le_refl _) (.cells #[.func (.func k0) #[p] #[],.func (.func k1) #[p] #[],.func (.func k2) #[p] #[],.func (.func k3) #[p] #[],.func (.func k4) #[p] #[],.func (.func k5) #[p] #[]] 205))
 have HZ:Hid ((w.alloc (.cells #[.func (.func k0) #[p] #[],.func (.func k1) #[p] #[],.func (.func k2) #[p] #[],.func (.func k3) #[p] #[],.func (.func k4) #[p] #[],.func (.func k5) #[p] #[]] 205)).heap.size=w.heap.size+1):=by show _=_;simp
 have q0:=zAA (i:=0) HA.out rfl
 have q1:=zAA (i:=1) HA.out rfl
 have q2:=zAA (i:=2) HA.out rfl
 have q3:=zAA (i:=3) HA.out rfl
 have q4:=zAA (i:=4) HA.out rfl
 have q5:=zAA (i:=5) HA.out rfl
 obtain ⟨hk1,hk2⟩:=hk
 have d1:decide (k=1)=false:=decide_eq_false hk1
 have d2:(k == 1)=false:=by rw [beq_eq_false_iff_ne];exact hk1
 have d3:decide (k=2)=false:=decide_eq_false hk2
 have d4:(k == 2)=false:=by rw [beq_eq_false_iff_ne];exact hk2
 clear hk1 hk2
 go_enter Tryz.func146,Tryz.ntmps146
 go_wp2
 go_ret
 exact ⟨_,rfl,World.ownsRow_nil _ _ _ _,HB0.out⟩
end
end Go.Proofs.YtekchkfjgofnkaaGreatDoor
