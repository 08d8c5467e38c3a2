/- Texts of one proof. -/
import Derived.Test.YtekchkfjgofnkaaGreatDoorMy15
set_option maxRecDepth 100000
set_option maxHeartbeats 8000000
namespace Go.Proofs.YtekchkfjgofnkaaGreatDoor
open Go.RowKit
def zDJ (_ver:Int) (tl:List (List UInt8)) (s:Rst):Rst:=⟨⟨s.r.kind,s.r.target,s.r.rule,s.r.out,s.r.time,if s.c.num.1=0 then s.r.tag else zBC tl (s.c.num.1 - 1)⟩,s.l,s.c.num.2⟩
theorem zRU (S T:Nat→Prop) (brd bt bc brr B N:Nat) (ver:Int) (tl:List (List UInt8)) (s:Rst) (h0:s.c.num.1=0) (w:World) (hE:RE w S T brd bc brr B) (hT:RT w S T brd bt bc brr B N ver tl s) :
  Calls Tryz.prog 145 #[.pointer (some ⟨brd,0,none⟩),.pointer (some ⟨brr,0,none⟩)] w fun e w' =>e=.returned (.tuple #[])∧RT w' S T brd bt bc brr B N ver tl ⟨⟨s.r.kind,s.r.target,s.r.rule,s.r.out,s.r.time,s.r.tag⟩,s.l,s.c.num.2⟩∧Turn S w w':=by
 have q2:=zAA (i:=2) hT.1.box rfl
 have HC:=yh (zBU B bc s.c w hT.1.cur)
 obtain ⟨va,hrec⟩:=hT.2
 rw [h0] at HC
 clear h0
 obtain ⟨d,hd⟩:∃ d,d=s.c.num.2:=⟨_,rfl⟩
 rw [← hd] at HC ⊢
 have H:=yh hT.1
 have HREC:=yh hrec
 have HE:=yh hE
 clear hT hE hrec hd
 go_enter Tryz.func145,Tryz.ntmps145
 go_wp2_with (go_at_call 169;refine HC.out.mono ?_;rintro e w3 ⟨rfl,hc3,ho3⟩;have HR3:=yh (H.out.took hc3 ho3);have hrec3:=zBy HREC.out ho3 H.out.cblock HE.out.ne;have f3:=zAA (i:=6) hrec3.1 rfl;have y3:=zAC (i:=6) hrec3.1;have HREC3:=yh hrec3;have HO3:=yh ho3;clear ho3 hrec3 hc3)
 first | go_end0 | (refine bodyPost_ret (results_none rfl _ _ _) rfl ?_)
 have hb:S brr:=HREC.out.2.2.1
 exact ⟨rfl,⟨HR3.out,va,HREC3.out⟩,(Turn.of_only HO3.out).wide (fun k hk =>hk▸HE.out.sc)⟩
theorem zRV (S T:Nat→Prop) (brd bt bc brr B N:Nat) (ver:Int) (tl:List (List UInt8)) (s:Rst) (m:Nat) (h0:s.c.num.1=m+1) (w:World) (hE:RE w S T brd bc brr B) (hT:RT w S T brd bt bc brr B N ver tl s) :
  Calls Tryz.prog 145 #[.pointer (some ⟨brd,0,none⟩),.pointer (some ⟨brr,0,none⟩)] w fun e w' =>e=.returned (.tuple #[])∧RT w' S T brd bt bc brr B N ver tl ⟨⟨s.r.kind,s.r.target,s.r.rule,s.r.out,s.r.time,zBC tl m⟩,s.l,s.c.num.2⟩∧Turn S w w':=by
 have q2:=zAA (i:=2) hT.1.box rfl
 have HC:=yh (zBU B bc s.c w hT.1.cur)
 obtain ⟨va,hrec⟩:=hT.2
 have hlt:m+1<18446744073709551616:=by rw [← h0];exact Cu.num_lt
 rw [h0] at HC
 push_cast at HC
 have n1:decide ((m:Int)+1=0)=false:=decide_eq_false (by omega)
 have n2:((m:Int)+1 == 0)=false:=by rw [beq_eq_false_iff_ne];omega
 have n3:((m:Int)+1 != 0)=true:=by rw [bne_iff_ne];omega
 clear h0
 obtain ⟨d,hd⟩:∃ d,d=s.c.num.2:=⟨_,rfl⟩
 rw [← hd] at HC ⊢
 have H:=yh hT.1
 have HREC:=yh hrec
 have HE:=yh hE
 clear hT hE hrec hd
 go_enter Tryz.func145,Tryz.ntmps145
 go_wp2_with (first
  | (go_at_call 171;refine (zFr T brd bt bc B N m ver tl d _ HR3.out).mono ?_;rintro e w4 ⟨rfl,rfl⟩)
  | (go_at_call 169;refine HC.out.mono ?_;rintro e w3 ⟨rfl,hc3,ho3⟩;have HR3:=yh (H.out.took hc3 ho3);have hrec3:=zBy HREC.out ho3 H.out.cblock HE.out.ne;have f3:=zAA (i:=6) hrec3.1 rfl;have y3:=zAC (i:=6) hrec3.1;have HREC3:=yh hrec3;have HO3:=yh ho3;clear ho3 hrec3 hc3))
 first | go_end0 | (refine bodyPost_ret (results_none rfl _ _ _) rfl ?_)
 have hb:S brr:=HREC.out.2.2.1
 exact ⟨rfl,⟨HR3.out.store (g:=brr) (i:=6) _ (fun h =>HE.out.nd (h▸hb)) HE.out.ne (fun h =>HE.out.nt _ h hb) (HE.out.up _ hb),va,zEp HREC3.out 6 _ rfl⟩,((Turn.of_only HO3.out).wide (fun k hk =>hk▸HE.out.sc)).setCell brr 6 _ hb⟩
theorem zSS (S T:Nat→Prop) (brd bt bc brr B N:Nat) (ver:Int) (tl:List (List UInt8)) (s:Rst) (w:World) (hE:RE w S T brd bc brr B) (hT:RT w S T brd bt bc brr B N ver tl s) :
  Calls Tryz.prog 145 #[.pointer (some ⟨brd,0,none⟩),.pointer (some ⟨brr,0,none⟩)] w fun e w' =>e=.returned (.tuple #[])∧RT w' S T brd bt bc brr B N ver tl (zDJ ver tl s)∧Turn S w w':=by
 unfold zDJ
 rcases h:s.c.num.1 with _ | m
 ·rw [if_pos rfl]
  exact zRU S T brd bt bc brr B N ver tl s h w hE hT
 ·rw [if_neg (by omega),show m+1 - 1=m from rfl]
  exact zRV S T brd bt bc brr B N ver tl s m h w hE hT
def zEo (ver:Int) (tl:List (List UInt8)) (s:Rst):Rst:=⟨s.r,s.l++[⟨(zBv ver tl s.c).1.name,((zBv ver tl s.c).2.num.1:Int),(zBv ver tl s.c).1.order⟩],(zBv ver tl s.c).2.num.2⟩
def zBf (ver:Int) (tl:List (List UInt8)):Nat→Rst→Rst
 | 0,s =>s
 | i+1,s =>zEo ver tl (zBf ver tl i s)
theorem zFP (ver:Int) (tl:List (List UInt8)) (s:Rst):∀ i,(zBf ver tl i s).l.length=s.l.length+i
 | 0 =>rfl
 | i+1 =>by
  show (((zBf ver tl i s).l++[_]).length)=_
  rw [List.length_append,zFP ver tl s i,List.length_singleton]
  omega
def zBR (ver:Int) (tl:List (List UInt8)) (s:Rst):Rst:=zBf ver tl (min s.c.num.1 16) ⟨s.r,s.l,s.c.num.2⟩
theorem zPi (T:Nat→Prop) (brd bt bc B N:Nat) (ver:Int) (tl:List (List UInt8)) (c:Cu) (w:World) (hTn:¬ T w.heap.size) (h:RS w T brd bt bc B N ver tl c) :
  Calls Tryz.prog 170 #[.pointer (some ⟨brd,0,none⟩)] w fun e w' =>e=.returned (.agg #[.string (tx (zBv ver tl c).1.name),.int .u64 0,.bool (zBv ver tl c).1.order])∧RS w' T brd bt bc B N ver tl (zBv ver tl c).2∧Only bc w w':=by
 unfold zBv
 by_cases hv:ver<3
 ·rw [if_pos hv]
  exact zNk T brd bt bc B N ver hv tl c w hTn h
 ·rw [if_neg hv]
  exact zNl T brd bt bc B N ver hv tl c w hTn h
theorem zJr {w:World} {T:Nat→Prop} {brd bt bc B N:Nat} {ver:Int} {tl:List (List UInt8)} {c:Cu} (h:RS w T brd bt bc B N ver tl c) (o:Obj):RS (w.alloc o) T brd bt bc B N ver tl c:=by
 have hb:=h.box
 have hblt:brd<w.heap.size:=by
  rcases Nat.lt_or_ge brd w.heap.size with h | h
  ·exact h
  ·rw [Array.getElem?_eq_none h] at hb;cases hb
 exact ⟨(Below.heap_alloc w _ brd hblt).trans hb,h.cur.below ((Below.refl _ w).alloc (Nat.le_refl _) _) h.cur.lt,zCb h.tab _,h.nt,h.nb,h.big⟩
theorem zHW {w:World} {S:Nat→Prop} {brr:Nat} {r:Rc} {va:Value} {l:List Dp} (h:RecS w S brr r va l):brr<w.heap.size:=by
 have h1:=h.1
 rcases Nat.lt_or_ge brr w.heap.size with h | h
 ·exact h
 ·rw [Array.getElem?_eq_none h] at h1;cases h1
theorem zFq {w:World} {S:Nat→Prop} {brr:Nat} {r:Rc} {va:Value} {l:List Dp} (h:RecS w S brr r va l) (o:Obj):RecS (w.alloc o) S brr r va l :=
 ⟨(Below.heap_alloc w o brr (zHW h)).trans h.1,World.ownsRow.alloc h.2.1 o,h.2.2.1,h.2.2.2⟩
theorem zNp {w:World} {S:Nat→Prop} {brr g i:Nat} {r:Rc} {va:Value} {l:List Dp} (h:RecS w S brr r va l) (u:Value) (h1:brr≠g) (h2:va.ownBlock≠some g):RecS (w.setCell ⟨g,i,none⟩ u) S brr r va l :=
 ⟨(Below.heap_setCell w ⟨g,i,none⟩ u brr h1).trans h.1,ownsRow_setCell_other h.2.1 h2 _,h.2.2.1,h.2.2.2⟩
theorem zIg (w:World) (x:Dp):zAD (w.alloc (.cells #[.string (tx x.name),.int .u64 x.hash,.bool x.order] 95)) (w.heap.size+1) 3 (some ⟨w.heap.size,0,none⟩) 1 (dps [x]):=by
 refine ⟨rfl,fun _ =>⟨_,rfl,by show w.heap.size<_;omega,fun j u hu =>?_⟩⟩
 have h2:=zAA (i:=j) (zAE w (.cells #[.string (tx x.name),.int .u64 x.hash,.bool x.order] 95)) (by simpa [dps,Dp.cells,rsv] using hu)
 rw [show (⟨w.heap.size,0,none⟩:Addr).add j=⟨w.heap.size,j,none⟩ from by unfold Addr.add;split <;> simp_all]
 exact h2
theorem zPl {w w':World} {S:Nat→Prop} {brr:Nat} {r:Rc} {va va':Value} {l:List Dp} {x:Dp} (h:RecS w S brr r va l) (hn:S w.heap.size) (ho:w'.ownsRow 0 95 3 va' (l.length+1) (dps l++dps [x])) (hg:w.grownBy w' va.ownBlock) (hv:va'.ownBlock=va.ownBlock∨va'.ownBlock=some w.heap.size) :
  w'.heap[brr]? = some (.cells #[.int .i64 r.kind,.string (tx r.target),.int .u64 r.rule,va,.int .u64 r.out,.int .u64 r.time,.string (tx r.tag)] 41 (0,0))∧RecS (w'.setCell ⟨brr,3,none⟩ va') S brr r va' (l++[x])∧Turn (fun k =>k=brr∨va.ownBlock=some k) w (w'.setCell ⟨brr,3,none⟩ va'):=by
 have hlt:=zHW h
 obtain ⟨h1,h2,h3,h4⟩:=h
 have hne:va.ownBlock≠some brr:=zAa h2 h1 (by decide)
 have h5:=(hg.block brr hlt (fun h =>hne h.symm)).trans h1
 have hne':va'.ownBlock≠some brr:=zAa ho h5 (by decide)
 refine ⟨h5,⟨zAF h5 3 va',?_,h3,fun k hk =>?_⟩,(((Turn.refl _ w).grown hg (fun i hi _ =>.inr hi)).setCell _ _ _ (.inl rfl))⟩
 ·have h6:=ownsRow_setCell_other ho hne' (a:=⟨brr,3,none⟩) va'
  rw [List.length_append,show dps (l++[x])=dps l++dps [x] from List.flatMap_append]
  exact h6
 ·rcases hv with h | h
  ·exact h4 k (h▸hk)
  ·rw [h] at hk
   obtain rfl:w.heap.size=k:=by simpa using hk
   exact hn
def zSm (S T:Nat→Prop) (brd bt bc brr B N:Nat) (ver:Int) (tl:List (List UInt8)) (s1:Rst) (m:Nat) (w:World) (idx:Value) (wr:World):Prop :=
 ∃ i:Nat,i≤m∧idx=.int .u64 (i:Int)∧RT wr S T brd bt bc brr B N ver tl (zBf ver tl i s1)∧Turn S w wr
theorem zRR (S T:Nat→Prop) (brd bt bc brr B N:Nat) (ver:Int) (tl:List (List UInt8)) (s:Rst) (hsl:s.l.length≤1000) (w:World) (hE:RE w S T brd bc brr B) (hT:RT w S T brd bt bc brr B N ver tl s) :
  Calls Tryz.prog 142 #[.pointer (some ⟨brd,0,none⟩),.pointer (some ⟨brr,0,none⟩)] w fun e w' =>e=.returned (.tuple #[])∧RT w' S T brd bt bc brr B N ver tl (zBR ver tl s)∧Turn S w w':=by
 obtain ⟨i0,ii0,iz0,iz1,iz2⟩:=info_parts (show (Tryz.prog.info? 95).map (fun i =>(i.zero,i.size,i.bytes))=some (some (.agg #[.string ⟨#[]⟩,.int .u64 0,.bool false]),3,32) from by kernel_rfl)
 have q2:=zAA (i:=2) hT.1.box rfl
 have HC:=yh (zBU B bc s.c w hT.1.cur)
 obtain ⟨va0,hrec0⟩:=hT.2
 unfold zBR
 have hslen:=zFP ver tl ⟨s.r,s.l,s.c.num.2⟩
 obtain ⟨s1,hs1⟩:∃ s1:Rst,s1=⟨s.r,s.l,s.c.num.2⟩:=⟨_,rfl⟩
 rw [← hs1] at hslen ⊢
 have hs1l:s1.l.length≤1000:=by rw [hs1];exact hsl
 obtain ⟨m,hm⟩:∃ m,m=s.c.num.1:=⟨_,rfl⟩
 rw [← hm] at HC ⊢
 obtain ⟨mm,hmm⟩:∃ mm,mm=min m 16:=⟨_,rfl⟩
 have hmin:min (m:Int) 16=(mm:Int):=by omega
 have hm16:mm≤16:=by omega
 have H:=yh hT.1
 have HREC:=yh hrec0
 have HE:=yh hE
 have HS1:=yh hs1
 have HLEN:=yh hslen
 have HL1:=yh hs1l
 rw [← hmm]
 have HMM:=yh hmm
 have HMIN:=yh hmin
 have HHM:=yh hm
 have hif:(if (16:Int)<(m:Int) then (16:Int) else (m:Int))=(mm:Int):=by split <;> omega
 have hif2:(if (m:Int)<16 then (m:Int) else (16:Int))=(mm:Int):=by split <;> omega
 have hif3:(if (m:Int)≤16 then (m:Int) else (16:Int))=(mm:Int):=by split <;> omega
 clear hT hE hrec0 hs1 hslen hs1l hm hmm hsl
 go_enter Tryz.func142,Tryz.ntmps142
 go_wp2_with (go_at_call 169;refine HC.out.mono ?_;rintro e w3 ⟨rfl,hc3,ho3⟩;have HR3:=yh (H.out.took hc3 ho3);have HREC3:=yh (zBy HREC.out ho3 H.out.cblock HE.out.ne);have HT3:=yh ((Turn.of_only ho3).wide (S2:=S) (fun k hk =>hk▸HE.out.sc));clear ho3 hc3)
 go_loopw [11] (fun idx wr =>zSm S T brd bt bc brr B N ver tl s1 mm w idx wr) (fun idx wr =>mm - (intOf idx).toNat)
 case atStart =>exact ⟨0,by omega,rfl,⟨by show RS _ _ _ _ _ _ _ _ _ s1.c;rw [HS1.out];exact HR3.out,va0,by show RecS _ _ _ s1.r _ s1.l;rw [HS1.out];exact HREC3.out⟩,HT3.out⟩
 case round =>
  obtain ⟨i,hi,rfl,⟨hrs,va,hrec⟩,htu⟩:=hrel
  have HTU:=yh htu
  by_cases hlt:i<mm
  ·have hli:=HLEN.out i
   have hEr:=HE.out.next htu.2.2.2.1
   obtain ⟨st,hst⟩:∃ st,st=zBf ver tl i s1:=⟨_,rfl⟩
   rw [← hst] at hrs hrec hli
   have hb:S brr:=hrec.2.2.1
   have hTn:¬ T wr.heap.size:=fun h =>HE.out.nt _ h (hEr.new _ (Nat.le_refl _))
   have hdep:=zPi T brd bt bc B N ver tl st.c wr hTn hrs
   obtain ⟨x,hx⟩:∃ x,x=(zBv ver tl st.c).1.name:=⟨_,rfl⟩
   obtain ⟨o,ho⟩:∃ o,o=(zBv ver tl st.c).1.order:=⟨_,rfl⟩
   obtain ⟨d,hd⟩:∃ d,d=(zBv ver tl st.c).2:=⟨_,rfl⟩
   obtain ⟨h,hh⟩:∃ h,h=d.num.1:=⟨_,rfl⟩
   obtain ⟨d2,hd2⟩:∃ d2,d2=d.num.2:=⟨_,rfl⟩
   have hnext:zBf ver tl (i+1) s1=⟨st.r,st.l++[⟨x,(h:Int),o⟩],d2⟩:=by
    show zEo ver tl (zBf ver tl i s1)=_
    rw [← hst,hx,ho,hh,hd2,hd]
    rfl
   rw [← hx,← ho,← hd] at hdep
   have HDEP:=yh hdep
   have HNUM:Hid (∀ W,RS W T brd bt bc B N ver tl d→Calls Tryz.prog 169 #[.pointer (some ⟨bc,0,none⟩)] W fun e w' =>e=.returned (.int .u64 (h:Int))∧RS w' T brd bt bc B N ver tl d2∧Only bc W w'):=fun W hW =>by
    have h1:=zBU B bc d W hW.cur
    rw [← hh,← hd2] at h1
    exact h1.mono fun e w' ⟨a,b,c⟩ =>⟨a,hW.took b c,c⟩
   have HNEXT:=yh hnext
   have HRS:=yh hrs
   have HRECR:=yh hrec
   have HER:=yh hEr
   have HSB:=yh hb
   have HLI:Hid (st.l.length≤1016):=by have:=HL1.out;show _≤_;omega
   obtain ⟨sr,sl,sc⟩:=st
   have q1:=zAA (i:=2) hrs.box rfl
   have hi0:(0:Int)≤(i:Int):=by omega
   have hi1:(i:Int)<(mm:Int):=by omega
   have d1:decide ((i:Int)<(mm:Int))=true:=decide_eq_true hi1
   clear hst hx ho hd hh hd2 hnext hdep hrs hrec hEr hb hTn hli htu
   go_wp2_with (first
    | (go_at_call 169;refine (HNUM.out _ HR4.out).mono ?_;rintro e w5 ⟨rfl,hr5,ho5⟩;have hbx5:=(ho5.block w3.heap.size (by simp) HNB.out).trans HBX.out;have j0:=zAA (i:=0) hbx5 rfl;have j1:=zAA (i:=1) hbx5 rfl;have j2:=zAA (i:=2) hbx5 rfl;have x1:=zAC (i:=1) hbx5;have HREC5:=yh (zBy HREC4.out ho5 HR4.out.cblock HE.out.ne);have HR5:=yh hr5;have HO5:=yh ho5;have HBX5:=yh hbx5;clear hr5 ho5 hbx5)
    | (go_at_call 170;refine HDEP.out.mono ?_;rintro e w3 ⟨rfl,hr3,ho3⟩;have HO3:=yh ho3;have HREC4:=yh (zFq (zBy HRECR.out ho3 HRS.out.cblock HE.out.ne) (.cells #[.string (tx x),.int .u64 0,.bool o] 95));have HR4:=yh (zJr hr3 (.cells #[.string (tx x),.int .u64 0,.bool o] 95));have HBX:=yh (zAE w3 (.cells #[.string (tx x),.int .u64 0,.bool o] 95));have HNB:Hid (w3.heap.size≠bc):=(fun h =>by have h1:=hr3.cur.lt;omega);have HBR3:Hid (brr≠w3.heap.size):=(fun h =>by have h1:=zHW (zBy HRECR.out ho3 HRS.out.cblock HE.out.ne);omega);have k2:=zAA (i:=2) HR4.out.box rfl;clear hr3 ho3))
   have hbx6:=zAF HBX5.out 1 (.int .u64 (h:Int))
   have hva6:va.ownBlock≠some w3.heap.size:=fun hg =>by have h1:=zAP HRECR.out.2.1 _ hg;have h2:=HO3.out.size;omega
   have hrec6:=zNp HREC5.out (i:=1) (.int .u64 (h:Int)) HBR3.out hva6
   have hnew3:S w3.heap.size:=HER.out.new _ HO3.out.size
   have hrs6:=HR5.out.store (g:=w3.heap.size) (i:=1) (.int .u64 (h:Int)) (fun h =>HE.out.nd (h▸hnew3)) (fun h =>HNB.out h.symm) (fun h =>HE.out.nt _ h hnew3) (HE.out.up _ hnew3)
   have htu6:Turn S w (w5.setCell ⟨w3.heap.size,1,none⟩ (.int .u64 (h:Int))):=by
    have h1:Turn S wr w3:=(Turn.of_only HO3.out).wide (fun k hk =>hk▸HE.out.sc)
    have h2:Turn S w3 (w3.alloc (.cells #[.string (tx x),.int .u64 0,.bool o] 95)):=Turn.of_below ((Below.refl _ w3).alloc (Nat.le_refl _) _)
    have h3:Turn S (w3.alloc (.cells #[.string (tx x),.int .u64 0,.bool o] 95)) w5:=(Turn.of_only HO5.out).wide (fun k hk =>hk▸HE.out.sc)
    exact ((HTU.out.trans (h1.trans (h2.trans h3 (fun _ _ h =>h)) (fun _ _ h =>h)) (fun _ _ h =>h))).setCell _ _ _ hnew3
   generalize (w5.setCell ⟨w3.heap.size,1,none⟩ (.int .u64 (h:Int)))=w6 at *
   have hbx:w6.heap[w3.heap.size]? = some (.cells #[.string (tx x),.int .u64 (h:Int),.bool o] 95 (0,0)):=hbx6
   have HBX6:=yh hbx
   have HREC6:=yh hrec6
   have HRS6:=yh hrs6
   have HTU6:=yh htu6
   have hlt6:=zHW hrec6
   have f3:=zAA (i:=3) hrec6.1 rfl
   have hbl6:w3.heap.size<w6.heap.size:=by
    rcases Nat.lt_or_ge w3.heap.size w6.heap.size with h | h
    ·exact h
    ·rw [Array.getElem?_eq_none h] at hbx;cases hbx
   have HBL6:=yh hbl6
   -- behind the append and the store
   have FIN:Hid (∀ (w7 w8:World) (va':Value),w7=(w6.alloc (.cells #[.string (tx x),.int .u64 (h:Int),.bool o] 95)).drew→w8.ownsRow 0 95 3 va' (sl.length+1) (dps sl++dps [⟨x,(h:Int),o⟩])→w7.grownBy w8 va.ownBlock→(va'.ownBlock=va.ownBlock∨va'.ownBlock=some w7.heap.size) →
     w8.heap[brr]? = some (.cells #[.int .i64 sr.kind,.string (tx sr.target),.int .u64 sr.rule,va,.int .u64 sr.out,.int .u64 sr.time,.string (tx sr.tag)] 41 (0,0))∧RT (w8.setCell ⟨brr,3,none⟩ va') S T brd bt bc brr B N ver tl ⟨sr,sl++[⟨x,(h:Int),o⟩],d2⟩∧Turn S w (w8.setCell ⟨brr,3,none⟩ va')∧w8.heap[w3.heap.size]? = some (.cells #[.string (tx x),.int .u64 (h:Int),.bool o] 95 (0,0))∧(w8.setCell ⟨brr,3,none⟩ va').heap[w3.heap.size]? = some (.cells #[.string (tx x),.int .u64 (h:Int),.bool o] 95 (0,0))):=fun w7 w8 va' e h1 h2 h3 =>by
    subst e
    have hz7:(w6.alloc (.cells #[.string (tx x),.int .u64 (h:Int),.bool o] 95)).drew.heap.size=w6.heap.size+1:=by show (w6.alloc (.cells #[.string (tx x),.int .u64 (h:Int),.bool o] 95)).heap.size=_;simp
    have hn7:S (w6.alloc (.cells #[.string (tx x),.int .u64 (h:Int),.bool o] 95)).drew.heap.size:=HE.out.new _ (by rw [hz7];have:=HTU6.out.2.2.2.1;omega)
    have hr7:RecS (w6.alloc (.cells #[.string (tx x),.int .u64 (h:Int),.bool o] 95)).drew S brr sr va sl:=zFq HREC6.out (.cells #[.string (tx x),.int .u64 (h:Int),.bool o] 95)
    obtain ⟨g1,g2,g3⟩:=zPl (x:=⟨x,(h:Int),o⟩) hr7 hn7 h1 h2 h3
    have hsub:∀ k,(k=brr∨va.ownBlock=some k)→S k:=fun k hk =>by
     rcases hk with rfl | hk
     ·exact HSB.out
     ·exact HREC6.out.2.2.2 k hk
    have hcb:=HRS6.out.cblock
    obtain ⟨cs,hcs⟩:=hcb
    have hvc:va.ownBlock≠some bc:=zAa HREC6.out.2.1 hcs (by decide)
    have hbn:brr≠w3.heap.size:=HBR3.out
    have h8:w8.heap[w3.heap.size]? = some (.cells #[.string (tx x),.int .u64 (h:Int),.bool o] 95 (0,0)):=(h2.block w3.heap.size (by rw [hz7];have:=HBL6.out;omega) (fun h =>hva6 h.symm)).trans ((Below.heap_alloc w6 _ _ HBL6.out).trans HBX6.out)
    refine ⟨g1,⟨(((zJr HRS6.out (.cells #[.string (tx x),.int .u64 (h:Int),.bool o] 95)).turn (S:=fun _ =>False) (Turn.of_below (Below.refl _ _).drew) (fun h =>h) (fun h =>h) (fun _ _ h =>h) (fun _ h =>h.elim))).turn g3 (fun h =>HE.out.nd (hsub _ h)) (fun h =>?_) (fun k hk h =>HE.out.nt k hk (hsub _ h)) (fun k hk =>HE.out.up k (hsub _ hk)),va',g2⟩,?_,h8,(Below.heap_setCell w8 ⟨brr,3,none⟩ va' w3.heap.size (fun h =>hbn h.symm)).trans h8⟩
    ·rcases h with h | h
     ·exact HE.out.ne h
     ·exact hvc h
    ·have h4:Turn S w6 (w6.alloc (.cells #[.string (tx x),.int .u64 (h:Int),.bool o] 95)).drew:=Turn.of_below ((Below.refl _ w6).alloc (Nat.le_refl _) _).drew
     exact HTU6.out.trans (h4.trans (g3.wide hsub) (fun _ _ h =>h)) (fun _ _ h =>h)
   clear hbx6 hrec6 hrs6 htu6 hbl6 HRS HRECR HREC4 HR4 HBX HREC5 HR5 HO5 HBX5
   refine wp_region_held (S:=fun v =>v.heap[w3.heap.size]? = some (.cells #[.string (tx x),.int .u64 (h:Int),.bool o] 95 (0,0))) (by kernel_rfl) ?_
   have hS:w6.drew.heap[w3.heap.size]? = some (.cells #[.string (tx x),.int .u64 (h:Int),.bool o] 95 (0,0)):=hbx
   refine zAB 0 (.pointer (some ⟨brr,0,none⟩)) rfl (by kernel_rfl) (by kernel_rfl) (by kernel_rfl) (fun _ _ _ h =>h) (by kernel_rfl) hS (fun _ _ =>by kernel_rfl) ?_
   refine zAB 1 (.pointer (some ⟨brr,0,none⟩)) rfl (by kernel_rfl) (by kernel_rfl) (by kernel_rfl) (fun _ _ _ h =>h) (by kernel_rfl) hS (fun _ _ =>by kernel_rfl) ?_
   refine zAB 2 (.pointer (some ⟨brr,0,none⟩)) rfl (by kernel_rfl) (by kernel_rfl) (by kernel_rfl) (fun _ _ _ h =>h) (by kernel_rfl) hS (fun _ _ =>by kernel_rfl) ?_
   refine zAB 3 (.pointer (some ⟨brr,3,none⟩)) rfl (by kernel_rfl) (by kernel_rfl) (by kernel_rfl) (fun _ _ _ h =>h) (by kernel_rfl) hS (fun _ _ =>by kernel_rfl) ?_
   refine zAB 5 (.agg #[.string (tx x),.int .u64 (h:Int),.bool o]) rfl (by kernel_rfl) (by kernel_rfl) (by kernel_rfl) (fun _ _ _ h =>h) (by kernel_rfl) hS (by intro v1 hv;have e0:=zAA (i:=0) hv rfl;have e1:=zAA (i:=1) hv rfl;have e2:=zAA (i:=2) hv rfl;go_simp;try rfl) ?_
   refine zCq 4 6 rfl rfl (by kernel_rfl) (by kernel_rfl) (by kernel_rfl) (fun K hK =>?_) (fun K hK =>?_)
   ·go_simp
    refine hK _ _ hS ?_
    clear hK K
    refine zAO 6 rfl (by kernel_rfl) (by kernel_rfl) (fun K hK =>?_)
    go_simp
    have hS7:((w6.alloc (.cells #[.string (tx x),.int .u64 (h:Int),.bool o] 95)).drew).heap[w3.heap.size]? = some (.cells #[.string (tx x),.int .u64 (h:Int),.bool o] 95 (0,0)):=(Below.heap_alloc w6 _ _ HBL6.out).trans HBX6.out
    refine hK _ _ hS7 ?_
    clear hK K
    refine zAO 7 rfl (by kernel_rfl) (by kernel_rfl) (fun K hK =>?_)
    refine zAk (.tmp 25) (.tmp 27) 39 rfl 0 95 i0 _ 3 32 Tryz.underlying39 ii0 iz0 iz1 iz2 rfl (by decide) va sl.length (dps sl) rfl (World.ownsRow.alloc HREC6.out.2.1 (.cells #[.string (tx x),.int .u64 (h:Int),.bool o] 95)) (some ⟨w6.heap.size,0,none⟩) 1 1 (w6.heap.size+1) (dps [⟨x,(h:Int),o⟩]) rfl (by simp) (zIg w6 ⟨x,(h:Int),o⟩) (zHp _) (by have:=HLI.out;unfold maxLen;omega) (by have:=HLI.out;omega) (by omega) ?_
    intro v8 w8 ho8 hg8 hv8
    obtain ⟨g1,g2,g3,g4,g5⟩:=FIN.out _ w8 v8 rfl ho8 hg8 hv8
    obtain ⟨A8,c8,rfl,_⟩:=zAL ho8
    refine hK _ _ g4 ?_
    clear hK K
    refine zAB 8 (.pointer (some ⟨brr,0,none⟩)) rfl (by kernel_rfl) (by kernel_rfl) (by kernel_rfl) (fun _ _ _ h =>h) (by kernel_rfl) g4 (fun _ _ =>by kernel_rfl) ?_
    refine zAB 9 (.pointer (some ⟨brr,3,none⟩)) rfl (by kernel_rfl) (by kernel_rfl) (by kernel_rfl) (fun _ _ _ h =>h) (by kernel_rfl) g4 (fun _ _ =>by kernel_rfl) ?_
    refine zAO 10 rfl (by kernel_rfl) (by kernel_rfl) (fun K hK =>?_)
    have p3:=zAA (i:=3) g1 rfl
    have z3:=zAC (i:=3) g1
    go_simp
    refine hK _ _ g5 ?_
    refine wpAnyH_done (by kernel_rfl) ?_ _
    go_simp
    have G2:=yh g2
    have G3:=yh g3
    clear g1 g2 g3 g4 g5 ho8 hg8 hv8 p3 z3
    go_wp2
    exact ⟨⟨i+1,by omega,by go_num,by rw [HNEXT.out];exact G2.out,G3.out⟩,by simp [intOf];omega⟩
   ·go_simp
    have hS7:((w6.alloc (.cells #[.string (tx x),.int .u64 (h:Int),.bool o] 95)).drew).heap[w3.heap.size]? = some (.cells #[.string (tx x),.int .u64 (h:Int),.bool o] 95 (0,0)):=(Below.heap_alloc w6 _ _ HBL6.out).trans HBX6.out
    refine hK _ _ hS7 ?_
    clear hK K
    refine zAO 4 rfl (by kernel_rfl) (by kernel_rfl) (fun K hK =>?_)
    have f7:=zAA (i:=3) (zFq HREC6.out (.cells #[.string (tx x),.int .u64 (h:Int),.bool o] 95)).1 rfl
    go_simp
    refine hK _ _ hS7 ?_
    clear hK K
    refine zAO 7 rfl (by kernel_rfl) (by kernel_rfl) (fun K hK =>?_)
    refine zAk (.tmp 25) (.tmp 27) 39 rfl 0 95 i0 _ 3 32 Tryz.underlying39 ii0 iz0 iz1 iz2 rfl (by decide) va sl.length (dps sl) rfl (World.ownsRow.alloc HREC6.out.2.1 (.cells #[.string (tx x),.int .u64 (h:Int),.bool o] 95)) (some ⟨w6.heap.size,0,none⟩) 1 1 (w6.heap.size+1) (dps [⟨x,(h:Int),o⟩]) rfl (by simp) (zIg w6 ⟨x,(h:Int),o⟩) (zHp _) (by have:=HLI.out;unfold maxLen;omega) (by have:=HLI.out;omega) (by omega) ?_
    intro v8 w8 ho8 hg8 hv8
    obtain ⟨g1,g2,g3,g4,g5⟩:=FIN.out _ w8 v8 rfl ho8 hg8 hv8
    obtain ⟨A8,c8,rfl,_⟩:=zAL ho8
    refine hK _ _ g4 ?_
    clear hK K
    refine zAB 8 (.pointer (some ⟨brr,0,none⟩)) rfl (by kernel_rfl) (by kernel_rfl) (by kernel_rfl) (fun _ _ _ h =>h) (by kernel_rfl) g4 (fun _ _ =>by kernel_rfl) ?_
    refine zAB 9 (.pointer (some ⟨brr,3,none⟩)) rfl (by kernel_rfl) (by kernel_rfl) (by kernel_rfl) (fun _ _ _ h =>h) (by kernel_rfl) g4 (fun _ _ =>by kernel_rfl) ?_
    refine zAO 10 rfl (by kernel_rfl) (by kernel_rfl) (fun K hK =>?_)
    have p3:=zAA (i:=3) g1 rfl
    have z3:=zAC (i:=3) g1
    go_simp
    refine hK _ _ g5 ?_
    refine wpAnyH_done (by kernel_rfl) ?_ _
    go_simp
    have G2:=yh g2
    have G3:=yh g3
    clear g1 g2 g3 g4 g5 ho8 hg8 hv8 p3 z3
    go_wp2
    exact ⟨⟨i+1,by omega,by go_num,by rw [HNEXT.out];exact G2.out,G3.out⟩,by simp [intOf];omega⟩
  ·obtain rfl:i=mm:=by omega
   have d1:decide ((i:Int)<(i:Int))=false:=decide_eq_false (by omega)
   have HRT:=yh (show RT wr S T brd bt bc brr B N ver tl (zBf ver tl i s1) from ⟨hrs,va,hrec⟩)
   clear hrs hrec htu
   go_wp2
   go_end0
   exact ⟨rfl,HRT.out,HTU.out⟩
def Rest (c:Cu) (suf:List UInt8):Prop:=c.e=0∧c.at_≤c.bs.length∧c.bs.drop c.at_=suf
theorem Rest.on {c:Cu} {a suf:List UInt8} (h:Rest c (a++suf)):Rest { c with at_:=c.at_+a.length } suf:=by
 obtain ⟨h1,h2,h3⟩:=h
 have hl:=congrArg List.length h3
 rw [List.length_drop,List.length_append] at hl
 refine ⟨h1,?_,?_⟩
 ·show c.at_+a.length≤c.bs.length;omega
 ·show c.bs.drop (c.at_+a.length)=suf
  rw [← List.drop_drop,h3];simp
theorem zAt {c:Cu} {n:Nat} {suf:List UInt8} (hn:n<top) (h:Rest c (vb n++suf)):c.num.1=n∧Rest c.num.2 suf:=by
 have hr:c.nuR=(n,c.at_+(vb n).length,0):=by
  unfold Cu.nuR
  rw [h.2.2,zGe _ _ hn]
  simp [zHK]
 unfold Cu.num Cu.tk
 rw [if_pos h.1,hr]
 exact ⟨rfl,h.on⟩
theorem zIn {c:Cu} {s suf:List UInt8} (hs:s.length≤64) (h:Rest c (blob s++suf)):(c.text 64).1=s∧Rest (c.text 64).2 suf:=by
 have hr:c.txR 64=(s,c.at_+(blob s).length,0):=by
  unfold Cu.txR
  have h0:c.bs=c.bs.take c.at_++(blob s++suf):=by rw [← h.2.2,List.take_append_drop]
  have hl:(c.bs.take c.at_).length=c.at_:=by rw [List.length_take];have:=h.2.1;omega
  have h1:=zHl 64 (c.bs.take c.at_) s suf (by unfold top;omega) (by omega)
  rw [← h0,hl] at h1
  exact h1
 unfold Cu.text Cu.tk
 rw [if_pos h.1,hr]
 exact ⟨rfl,h.on⟩
theorem zIF {c:Cu} {x:UInt8} {suf:List UInt8} (h:Rest c (x :: suf)):c.byte.1=x∧Rest c.byte.2 suf:=by
 have hr:c.byR=(x,c.at_+1,0):=by
  unfold Cu.byR
  rw [h.2.2]
 unfold Cu.byte Cu.tk
 rw [if_pos h.1,hr]
 exact ⟨rfl,Rest.on (a:=[x]) h⟩
theorem zDy {tl:List (List UInt8)} {s:List UInt8} (h:s ∈ tl):zBC tl (tnum tl s)=s:=by
 unfold zBC
 rw [zEF h]
 rfl
theorem zFj {ver:Int} {tl:List (List UInt8)} {c:Cu} {s suf:List UInt8} (hs:s.length≤64) (ht:tl.length≤1073741824) (hm:ver<2∨s ∈ tl) (h:Rest c (nmB ver tl s++suf)):(zBJ ver tl c).1=s∧Rest (zBJ ver tl c).2 suf:=by
 unfold nmB at h
 unfold zBJ
 by_cases hv:ver<2
 ·rw [if_pos hv] at h ⊢
  exact zIn hs h
 ·rw [if_neg hv] at h ⊢
  obtain ⟨h1,h2⟩:=zAt (zAm (by have:=zBS (s:=s) ht;omega)) h
  refine ⟨?_,h2⟩
  show zBC tl c.num.1=s
  rw [h1]
  exact zDy (hm.resolve_left hv)
theorem zOh {ver:Int} {tl:List (List UInt8)} {c:Cu} {d:Dp} {suf:List UInt8} (hs:d.name.length≤64) (ht:tl.length≤1073741824) (hm:ver<2∨d.name ∈ tl) (ho:d.order=true→3≤ver) (h:Rest c (depB ver tl d++suf)):(zBv ver tl c).1.name=d.name∧(zBv ver tl c).1.order=d.order∧Rest (zBv ver tl c).2 suf:=by
 unfold depB at h
 unfold zBv
 by_cases hv:ver<3
 ·rw [if_pos hv] at h ⊢
  obtain ⟨h1,h2⟩:=zFj hs ht hm h
  refine ⟨h1,?_,h2⟩
  show false=d.order
  cases hd:d.order
  ·rfl
  ·have:=ho hd;omega
 ·rw [if_neg hv] at h ⊢
  have hin:d.name ∈ tl:=hm.resolve_left (by omega)
  have hle:=zBS (s:=d.name) ht
  obtain ⟨h1,h2⟩:=zAt (zAm (by split <;> omega)) h
  refine ⟨?_,?_,h2⟩
  ·show zBC tl (c.num.1 / 2)=d.name
   rw [h1,show (2 * tnum tl d.name+if d.order=true then 1 else 0) / 2=tnum tl d.name by split <;> omega]
   exact zDy hin
  ·show decide (c.num.1 % 2=1)=d.order
   rw [h1]
   cases d.order <;> simp <;> omega
def zEr (ver:Int) (tl:List (List UInt8)) (d:Dp):Prop:=d.name.length≤64∧(ver<2∨d.name ∈ tl)∧(d.order=true→3≤ver)∧(0≤d.hash∧d.hash<18446744073709551616)
theorem zOE {ver:Int} {tl:List (List UInt8)} {s:Rst} {d:Dp} {suf:List UInt8} (ht:tl.length≤1073741824) (hd:zEr ver tl d) (h:Rest s.c (fDep ver tl d++suf)):∃ c',zEo ver tl s=⟨s.r,s.l++[d],c'⟩∧Rest c' suf:=by
 unfold fDep at h
 rw [List.append_assoc] at h
 obtain ⟨h1,h2,h3⟩:=zOh hd.1 ht hd.2.1 hd.2.2.1 h
 obtain ⟨h4,h5⟩:=zAt (zAc hd.2.2.2).2 h3
 refine ⟨_,?_,h5⟩
 unfold zEo
 rw [h1,h2,h4,← (zAc hd.2.2.2).1]
theorem zIH {ver:Int} {tl:List (List UInt8)} (ht:tl.length≤1073741824) (s:Rst) (l:List Dp) (suf:List UInt8) (hd:∀ d ∈ l,zEr ver tl d) (h:Rest s.c (l.flatMap (fDep ver tl)++suf)) :
  ∀ i,i≤l.length→∃ c',zBf ver tl i s=⟨s.r,s.l++l.take i,c'⟩∧Rest c' ((l.drop i).flatMap (fDep ver tl)++suf)
 | 0,_ =>⟨s.c,by simp [zBf],h⟩
 | i+1,hi =>by
  obtain ⟨c1,h1,h2⟩:=zIH ht s l suf hd h i (by omega)
  have hx:l.drop i=l[i] :: l.drop (i+1):=List.drop_eq_getElem_cons (by omega)
  rw [hx,List.flatMap_cons,List.append_assoc] at h2
  obtain ⟨c2,h3,h4⟩:=zOE (s:=⟨s.r,s.l++l.take i,c1⟩) ht (hd _ (List.getElem_mem (by omega))) h2
  refine ⟨c2,?_,h4⟩
  show zEo ver tl (zBf ver tl i s)=_
  rw [h1,h3,List.take_add_one,List.getElem?_eq_getElem (by omega)]
  simp
theorem zKj {ver:Int} {tl:List (List UInt8)} (ht:tl.length≤1073741824) (s:Rst) (l:List Dp) (suf:List UInt8) (hl:l.length≤16) (hd:∀ d ∈ l,zEr ver tl d) (h:Rest s.c (zBu ver tl l++suf)):∃ c',zBR ver tl s=⟨s.r,s.l++l,c'⟩∧Rest c' suf:=by
 unfold zBu at h
 rw [List.append_assoc] at h
 obtain ⟨h1,h2⟩:=zAt (zAm (by omega)) h
 obtain ⟨c',h3,h4⟩:=zIH ht ⟨s.r,s.l,s.c.num.2⟩ l suf hd h2 l.length (Nat.le_refl _)
 refine ⟨c',?_,by simpa using h4⟩
 unfold zBR
 rw [h1,Nat.min_eq_left hl,h3,List.take_length]
theorem zQA {ver:Int} {tl:List (List UInt8)} {s:Rst} {r:Rc} {suf:List UInt8} (ht:tl.length≤1073741824) (h0:s.r.tag=[]) (hm:r.tag=[]∨r.tag ∈ tl) (h:Rest s.c (fTag tl r++suf)):(zDJ ver tl s).r.tag=r.tag∧Rest (zDJ ver tl s).c suf:=by
 unfold fTag at h
 unfold zDJ
 by_cases hz:r.tag=[]
 ·rw [if_pos hz] at h
  obtain ⟨h1,h2⟩:=zAt (zAm (by omega)) h
  refine ⟨?_,h2⟩
  show (if s.c.num.1=0 then s.r.tag else _)=r.tag
  rw [h1,if_pos rfl,h0,hz]
 ·rw [if_neg hz] at h
  have hle:=zBS (s:=r.tag) ht
  obtain ⟨h1,h2⟩:=zAt (zAm (by omega)) h
  refine ⟨?_,h2⟩
  show (if s.c.num.1=0 then s.r.tag else _)=r.tag
  rw [h1,if_neg (by omega),show tnum tl r.tag+1 - 1=tnum tl r.tag from rfl]
  exact zDy (hm.resolve_left hz)
def zBi (ver:Int) (tl:List (List UInt8)) (k:Nat) (s:Rst):Rst :=
 if k=2 then zAv ver tl s
 else if k=1 then
  let a:=zCa ver tl (zBR ver tl (zBm ver tl (zAv ver tl s)))
  let b:=if ver<2 then a else zCi ver tl a
  if ver<3 then b else zDJ ver tl b
 else s
def zAY (p:List UInt8):Rst:=⟨⟨((Cu.new p 0).byte.1.toNat:Int),[],0,0,0,[]⟩,[],(Cu.new p 0).byte.2⟩
theorem zJe (p:List UInt8):Rest (Cu.new p 0) p:=by
 unfold Cu.new
 rw [if_neg (by omega)]
 exact ⟨rfl,by simp,by simp⟩
theorem zPc {ver:Int} {tl:List (List UInt8)} {r:Rc} {l:List Dp} (hm:MayP ver r l) (hnu:Nums r l) (ht:tl.length≤1073741824) (hin:ver<2 ∨ ∀ s ∈ zBK r l,s ∈ tl):(zAY (payB ver tl r l)).r.kind=r.kind∧(zBi ver tl r.kind.toNat (zAY (payB ver tl r l))).r=r∧(zBi ver tl r.kind.toNat (zAY (payB ver tl r l))).l=l:=by
 obtain ⟨n1,n2,n3,n4⟩:=zBZ hm
 have tin:ver<2∨r.target ∈ tl:=hin.imp id fun h =>h _ (zCt (by simp))
 have din:∀ d ∈ l,ver<2∨d.name ∈ tl:=fun d hd =>hin.imp id fun h =>h _ (zCt (by
  refine List.mem_append.2 (.inl (List.mem_cons.2 (.inr ?_)))
  exact List.mem_map.2 ⟨d,hd,rfl⟩))
 have gin:ver<2∨r.tag=[]∨r.tag ∈ tl:=by
  by_cases hz:r.tag=[]
  ·exact .inr (.inl hz)
  ·exact hin.imp id fun h =>.inr (h _ (zCt (by rw [if_neg hz];simp)))
 have hstart:=zJe (payB ver tl r l)
 obtain ⟨k,t,u,o,m,g⟩:=r
 rcases hm with ⟨v1,v2,ht0,⟨hk,htime,htag,hdeps⟩ | ⟨hk,hgone,hl0⟩⟩
 ·simp only at hk n1 n2 tin gin htime htag
  subst hk
  unfold payB at hstart ⊢
  rw [if_neg (by simp)] at hstart ⊢
  simp only at hstart ⊢
  obtain ⟨b1,b2⟩:=zIF hstart
  have hokd:∀ d ∈ l,zEr ver tl d:=fun d hd =>⟨n4 d hd,din d hd,(hdeps.2.1 d hd).2,hnu.2.2.2 d hd⟩
  obtain ⟨p,hp⟩:∃ p,p=1 :: (nmB ver tl t++(vb u.toNat++(zBu ver tl l++(vb o.toNat++((if ver<2 then [] else vb m.toNat)++(if ver<3 then [] else fTag tl ⟨1,t,u,o,m,g⟩)))))):=⟨_,rfl⟩
  rw [← hp] at b1 b2 ⊢
  clear hp hstart
  have hk:(zAY p).r.kind=1:=by
   show ((Cu.new p 0).byte.1.toNat:Int)=1
   rw [b1];rfl
  refine ⟨hk,?_⟩
  have s0:zAY p=⟨⟨1,[],0,0,0,[]⟩,[],(Cu.new p 0).byte.2⟩:=by
   unfold zAY
   rw [b1];rfl
  rw [s0]
  obtain ⟨c0,hc0⟩:∃ c0,c0=(Cu.new p 0).byte.2:=⟨_,rfl⟩
  rw [← hc0] at b2 ⊢
  clear hc0 s0 hk b1
  obtain ⟨a1,a2⟩:=zFj n1 ht tin b2
  obtain ⟨a3,a4⟩:=zAt (zAc hnu.1).2 a2
  have e1:zAv ver tl ⟨⟨1,[],0,0,0,[]⟩,[],c0⟩=⟨⟨1,t,0,0,0,[]⟩,[],(zBJ ver tl c0).2⟩:=by unfold zAv;simp only [a1]
  have e2:zBm ver tl ⟨⟨1,t,0,0,0,[]⟩,[],(zBJ ver tl c0).2⟩=⟨⟨1,t,u,0,0,[]⟩,[],(zBJ ver tl c0).2.num.2⟩:=by unfold zBm;simp only [a3];rw [← (zAc hnu.1).1]
  obtain ⟨c3,e3,a5⟩:=zKj ht ⟨⟨1,t,u,0,0,[]⟩,[],(zBJ ver tl c0).2.num.2⟩ l _ n3 hokd a4
  obtain ⟨a6,a7⟩:=zAt (zAc hnu.2.1).2 a5
  have e4:zCa ver tl ⟨⟨1,t,u,0,0,[]⟩,[]++l,c3⟩=⟨⟨1,t,u,o,0,[]⟩,l,c3.num.2⟩:=by unfold zCa;simp only [a6];rw [← (zAc hnu.2.1).1];rfl
  unfold zBi
  rw [if_neg (by decide),if_pos (by decide),e1,e2,e3,e4]
  simp only
  by_cases hv2:ver<2
  ·rw [if_pos hv2,if_pos (by omega)]
   have hm0:m=0:=by rcases htime with h | h;exact h;omega
   have hg0:g=[]:=by rcases htag with h | h;exact h;omega
   rw [hm0,hg0]
   exact ⟨rfl,rfl⟩
  ·rw [if_neg hv2]
   rw [if_neg hv2] at a7
   obtain ⟨a8,a9⟩:=zAt (zAc hnu.2.2.1).2 a7
   have e5:zCi ver tl ⟨⟨1,t,u,o,0,[]⟩,l,c3.num.2⟩=⟨⟨1,t,u,o,m,[]⟩,l,c3.num.2.num.2⟩:=by unfold zCi;simp only [a8];rw [← (zAc hnu.2.2.1).1]
   rw [e5]
   by_cases hv3:ver<3
   ·rw [if_pos hv3]
    have hg0:g=[]:=by rcases htag with h | h;exact h;omega
    rw [hg0]
    exact ⟨rfl,rfl⟩
   ·rw [if_neg hv3]
    rw [if_neg hv3] at a9
    have a9':Rest c3.num.2.num.2 (fTag tl ⟨1,t,u,o,m,g⟩++[]):=by simpa using a9
    obtain ⟨a10,_⟩:=zQA (ver:=ver) (s:=⟨⟨1,t,u,o,m,[]⟩,l,c3.num.2.num.2⟩) ht rfl (gin.resolve_left hv2) a9'
    refine ⟨?_,rfl⟩
    have e6:∀ x:Rc,x=⟨1,t,u,o,m,x.tag⟩→x.tag=g→x=⟨1,t,u,o,m,g⟩:=fun x h1 h2 =>by rw [h1,h2]
    exact e6 _ rfl a10
 ·simp only at hk hgone
  obtain rfl:k=2:=hk
  subst hl0
  have hg:=hgone
  simp only [Rc.mk.injEq,true_and] at hg
  obtain ⟨rfl,rfl,rfl,rfl⟩:=hg
  unfold payB at hstart ⊢
  rw [if_pos rfl] at hstart ⊢
  simp only at hstart ⊢
  obtain ⟨b1,b2⟩:=zIF hstart
  have b2':Rest (Cu.new (2 :: nmB ver tl t) 0).byte.2 (nmB ver tl t++[]):=by simpa using b2
  obtain ⟨a1,_⟩:=zFj n1 ht tin b2'
  refine ⟨?_,?_,?_⟩
  ·show ((Cu.new (2 :: nmB ver tl t) 0).byte.1.toNat:Int)=2
   rw [b1];rfl
  ·unfold zBi
   rw [if_pos (by decide)]
   unfold zAv zAY
   simp only [a1,b1]
   rfl
  ·unfold zBi
   rw [if_pos (by decide)]
   rfl
end Go.Proofs.YtekchkfjgofnkaaGreatDoor
