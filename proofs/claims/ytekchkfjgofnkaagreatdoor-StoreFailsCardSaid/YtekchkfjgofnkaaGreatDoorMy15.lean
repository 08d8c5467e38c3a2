/- Texts of one proof. -/
import Derived.Test.YtekchkfjgofnkaaGreatDoorMy3
import Derived.Test.YtekchkfjgofnkaaGreatDoorMy14
set_option maxRecDepth 100000
set_option maxHeartbeats 8000000
namespace Go.Proofs.YtekchkfjgofnkaaGreatDoor
open Go.RowKit
theorem Turn.of_only {b:Nat} {w w':World} (h:Only b w w'):Turn (fun k =>k=b) w w':=⟨h.os,h.tape,h.output,h.size,fun k hk hn =>h.block k hk hn⟩
theorem zAq.turn {w w':World} {B b:Nat} {S:Nat→Prop} {c:Cu} (h:zAq w B b c) (ht:Turn S w w') (hn:¬ S b) (hS:∀ k,S k→B≤k):zAq w' B b c:=by
 have hlt:=h.lt
 obtain ⟨A,n,cap,h0,h1,h2⟩:=h.lies
 exact ⟨h.ok,h.room,h.le,A,n,cap,h0,h1.below (ht.below hS (by have:=h.le;omega)),(ht.2.2.2.2 b hlt hn).trans h2⟩
structure RS (w:World) (T:Nat→Prop) (brd bt bc B N:Nat) (ver:Int) (tl:List (List UInt8)) (c:Cu):Prop where
 box:w.heap[brd]? = some (.cells #[.int .i64 ver,.pointer (some ⟨bt,0,none⟩),.pointer (some ⟨bc,0,none⟩)] 201 (0,0))
 cur:zAq w B bc c
 tab:Tab w T bt N tl
 nt:¬ T bc
 nb:brd≠bc
 big:tl.length≤1073741824
theorem RS.turn {w w':World} {S T:Nat→Prop} {brd bt bc B N:Nat} {ver:Int} {tl:List (List UInt8)} {c:Cu} (h:RS w T brd bt bc B N ver tl c) (ht:Turn S w w') (h1:¬ S brd) (h2:¬ S bc) (h3:∀ k,T k→¬ S k) (h4:∀ k,S k→B≤k):RS w' T brd bt bc B N ver tl c where
 box:=by
  have hb:=h.box
  refine (ht.2.2.2.2 brd ?_ h1).trans hb
  rcases Nat.lt_or_ge brd w.heap.size with h | h
  ·exact h
  ·rw [Array.getElem?_eq_none h] at hb;cases hb
 cur:=h.cur.turn ht h2 h4
 tab:=h.tab.turn ht (fun k hk _ =>h3 k hk)
 nt:=h.nt
 nb:=h.nb
 big:=h.big
theorem RS.took {w w':World} {T:Nat→Prop} {brd bt bc B N:Nat} {ver:Int} {tl:List (List UInt8)} {c d:Cu} (h:RS w T brd bt bc B N ver tl c) (hd:zAq w' B bc d) (ho:Only bc w w'):RS w' T brd bt bc B N ver tl d where
 box:=by
  have hb:=h.box
  refine (ho.block brd ?_ h.nb).trans hb
  rcases Nat.lt_or_ge brd w.heap.size with h | h
  ·exact h
  ·rw [Array.getElem?_eq_none h] at hb;cases hb
 cur:=hd
 tab:=h.tab.turn (Turn.of_only ho) (fun k hk _ he =>h.nt (he▸hk))
 nt:=h.nt
 nb:=h.nb
 big:=h.big
def zBJ (ver:Int) (tl:List (List UInt8)) (c:Cu):List UInt8×Cu:=if ver<2 then c.text 64 else (zBC tl c.num.1,c.num.2)
def zBv (ver:Int) (tl:List (List UInt8)) (c:Cu):Dp×Cu:=if ver<3 then (⟨(zBJ ver tl c).1,0,false⟩,(zBJ ver tl c).2) else (⟨zBC tl (c.num.1 / 2),0,decide (c.num.1 % 2=1)⟩,c.num.2)
theorem zFr (T:Nat→Prop) (brd bt bc B N i:Nat) (ver:Int) (tl:List (List UInt8)) (c:Cu) (w:World) (h:RS w T brd bt bc B N ver tl c) :
  Calls Tryz.prog 171 #[.pointer (some ⟨brd,0,none⟩),.int .u64 (i:Int)] w fun e w' =>e=.returned (.string (tx (zBC tl i)))∧w=w':=by
 have q1:=zAA (i:=1) h.box rfl
 have HT:=yh (zGa T bt N tl i h.big w h.tab)
 unfold tsv at HT
 clear h
 go_enter Tryz.func171,Tryz.ntmps171
 go_wp2_with (go_at_call 173;refine HT.out.mono ?_;rintro e w2 ⟨rfl,rfl⟩)
 go_ret
 exact ⟨rfl,rfl⟩
theorem zNs (T:Nat→Prop) (brd bt bc B N:Nat) (ver:Int) (hv:ver<2) (tl:List (List UInt8)) (c:Cu) (w:World) (h:RS w T brd bt bc B N ver tl c) :
  Calls Tryz.prog 168 #[.pointer (some ⟨brd,0,none⟩)] w fun e w' =>e=.returned (.string (tx (c.text 64).1))∧RS w' T brd bt bc B N ver tl (c.text 64).2∧Only bc w w':=by
 have q0:=zAA (i:=0) h.box rfl
 have q2:=zAA (i:=2) h.box rfl
 have HC:=yh (zQC B bc c 64 (by omega) w h.cur)
 have H:=yh h
 have d1:decide (ver<2)=true:=decide_eq_true hv
 clear h hv
 go_enter Tryz.func168,Tryz.ntmps168
 go_wp2_with (go_at_call 180;refine HC.out.mono ?_;rintro e w2 ⟨rfl,hc2,ho2⟩;have HR:=yh (H.out.took hc2 ho2);have HO:=yh ho2;clear hc2 ho2)
 go_ret
 exact ⟨rfl,HR.out,HO.out⟩
theorem zNt (T:Nat→Prop) (brd bt bc B N:Nat) (ver:Int) (hv:¬ ver<2) (tl:List (List UInt8)) (c:Cu) (w:World) (h:RS w T brd bt bc B N ver tl c) :
  Calls Tryz.prog 168 #[.pointer (some ⟨brd,0,none⟩)] w fun e w' =>e=.returned (.string (tx (zBC tl c.num.1)))∧RS w' T brd bt bc B N ver tl c.num.2∧Only bc w w':=by
 have q0:=zAA (i:=0) h.box rfl
 have q2:=zAA (i:=2) h.box rfl
 have HC:=yh (zBU B bc c w h.cur)
 have H:=yh h
 have d1:decide (ver<2)=false:=decide_eq_false hv
 clear h hv
 go_enter Tryz.func168,Tryz.ntmps168
 go_wp2_with (first
  | (go_at_call 171;refine (zFr T brd bt bc B N c.num.1 ver tl c.num.2 _ HR.out).mono ?_;rintro e w3 ⟨rfl,rfl⟩)
  | (go_at_call 169;refine HC.out.mono ?_;rintro e w2 ⟨rfl,hc2,ho2⟩;have HR:=yh (H.out.took hc2 ho2);have HO:=yh ho2;clear hc2 ho2))
 go_ret
 exact ⟨rfl,HR.out,HO.out⟩
theorem zHV (T:Nat→Prop) (brd bt bc B N:Nat) (ver:Int) (tl:List (List UInt8)) (c:Cu) (w:World) (h:RS w T brd bt bc B N ver tl c) :
  Calls Tryz.prog 168 #[.pointer (some ⟨brd,0,none⟩)] w fun e w' =>e=.returned (.string (tx (zBJ ver tl c).1))∧RS w' T brd bt bc B N ver tl (zBJ ver tl c).2∧Only bc w w':=by
 unfold zBJ
 by_cases hv:ver<2
 ·rw [if_pos hv]
  exact zNs T brd bt bc B N ver hv tl c w h
 ·rw [if_neg hv]
  exact zNt T brd bt bc B N ver hv tl c w h
theorem Only.store {bc g i:Nat} {w x:World} (h:Only bc w x) (u:Value) (hg:w.heap.size≤g):Only bc w (x.setCell ⟨g,i,none⟩ u) :=
 ⟨h.os,h.tape,h.output,by rw [show (x.setCell ⟨g,i,none⟩ u).heap.size=x.heap.size from by simp [World.setCell]];exact h.size,fun k hk hn =>(Below.heap_setCell x ⟨g,i,none⟩ u k (by show k≠g;omega)).trans (h.block k hk hn)⟩
theorem RS.store {w:World} {T:Nat→Prop} {brd bt bc B N g i:Nat} {ver:Int} {tl:List (List UInt8)} {c:Cu} (h:RS w T brd bt bc B N ver tl c) (u:Value) (h1:brd≠g) (h2:bc≠g) (h3:¬ T g) (h4:B≤g):RS (w.setCell ⟨g,i,none⟩ u) T brd bt bc B N ver tl c :=
 h.turn (S:=fun k =>k=g) ((Turn.refl _ w).setCell g i u rfl) h1 h2 (fun _ hk he =>h3 (he▸hk)) (fun _ hk =>hk▸h4)
theorem zNk (T:Nat→Prop) (brd bt bc B N:Nat) (ver:Int) (hv:ver<3) (tl:List (List UInt8)) (c:Cu) (w:World) (hTn:¬ T w.heap.size) (h:RS w T brd bt bc B N ver tl c) :
  Calls Tryz.prog 170 #[.pointer (some ⟨brd,0,none⟩)] w fun e w' =>e=.returned (.agg #[.string (tx (zBJ ver tl c).1),.int .u64 0,.bool false])∧RS w' T brd bt bc B N ver tl (zBJ ver tl c).2∧Only bc w w':=by
 have hblt:brd<w.heap.size:=by
  have hb:=h.box
  rcases Nat.lt_or_ge brd w.heap.size with h | h
  ·exact h
  ·rw [Array.getElem?_eq_none h] at hb;cases hb
 have hclt:=h.cur.lt
 have hT0:Turn (fun k =>w.heap.size≤k) w (w.alloc (.cells #[.string ⟨#[]⟩,.int .u64 0,.bool false] 95)):=Turn.of_below ((Below.refl _ w).alloc (Nat.le_refl _) _)
 have h2:RS (w.alloc (.cells #[.string ⟨#[]⟩,.int .u64 0,.bool false] 95)) T brd bt bc B N ver tl c:=⟨(Below.heap_alloc w _ brd hblt).trans h.box,h.cur.below ((Below.refl _ w).alloc (Nat.le_refl _) _) hclt,zCb h.tab _,h.nt,h.nb,h.big⟩
 have HO0:Hid (Only bc w (w.alloc (.cells #[.string ⟨#[]⟩,.int .u64 0,.bool false] 95))):=Only.of_below ((Below.refl _ w).alloc (Nat.le_refl _) _)
 have HBX:=yh (zAE w (.cells #[.string ⟨#[]⟩,.int .u64 0,.bool false] 95))
 have HNE:Hid (w.heap.size≠bc):=by show _≠_;omega
 have HSZ:Hid (w.heap.size<(w.alloc (.cells #[.string ⟨#[]⟩,.int .u64 0,.bool false] 95)).heap.size):=by show _<_;simp
 have q0:=zAA (i:=0) h2.box rfl
 have q2:=zAA (i:=2) h2.box rfl
 have f0:=zAA (i:=0) HBX.out rfl
 have f1:=zAA (i:=1) HBX.out rfl
 have f2:=zAA (i:=2) HBX.out rfl
 have H:=yh h2
 have HG:Hid (brd≠w.heap.size∧bc≠w.heap.size∧¬ T w.heap.size∧B≤w.heap.size):=⟨by omega,by omega,hTn,by have:=h.cur.le;omega⟩
 have HC:=yh (zHV T brd bt bc B N ver tl c _ h2)
 obtain ⟨x,hx⟩:∃ x,x=(zBJ ver tl c).1:=⟨_,rfl⟩
 obtain ⟨d,hd⟩:∃ d,d=(zBJ ver tl c).2:=⟨_,rfl⟩
 rw [← hx,← hd] at HC ⊢
 have d1:decide (ver<3)=true:=decide_eq_true hv
 clear hx hd
 clear h h2 hT0 hblt hclt hv
 go_enter Tryz.func170,Tryz.ntmps170
 go_wp2_with (go_at_call 168;refine HC.out.mono ?_;rintro e w3 ⟨rfl,hr3,ho3⟩;have hbx:=(ho3.block w.heap.size HSZ.out HNE.out).trans HBX.out;have j0:=zAA (i:=0) hbx rfl;have x0:=zAC (i:=0) hbx;have j1:=zAA (i:=1) hbx rfl;have x1:=zAC (i:=1) hbx;have j2:=zAA (i:=2) hbx rfl;have x2:=zAC (i:=2) hbx;have HBX3:=yh hbx;have HR:=yh (hr3);have HO:=yh (HO0.out.trans ho3);clear hbx;clear hr3 ho3)
 refine bodyPost_ret (results_cell_row rfl _ _ _ _ _ _ _ rfl (zAF (zAF (zAF HBX3.out 0 (.string (tx x))) 1 (.int .u64 0)) 2 (.bool false)) Tryz.underlying95 rfl (by kernel_rfl)) rfl ?_
 exact ⟨rfl,(RS.store (RS.store (RS.store HR.out (g:=w.heap.size) (i:=0) (.string (tx x)) HG.out.1 HG.out.2.1 HG.out.2.2.1 HG.out.2.2.2) (g:=w.heap.size) (i:=1) (.int .u64 0) HG.out.1 HG.out.2.1 HG.out.2.2.1 HG.out.2.2.2) (g:=w.heap.size) (i:=2) (.bool false) HG.out.1 HG.out.2.1 HG.out.2.2.1 HG.out.2.2.2),(Only.store (Only.store (Only.store HO.out (g:=w.heap.size) (i:=0) (.string (tx x)) (Nat.le_refl _)) (g:=w.heap.size) (i:=1) (.int .u64 0) (Nat.le_refl _)) (g:=w.heap.size) (i:=2) (.bool false) (Nat.le_refl _))⟩
theorem zNl (T:Nat→Prop) (brd bt bc B N:Nat) (ver:Int) (hv:¬ ver<3) (tl:List (List UInt8)) (c:Cu) (w:World) (hTn:¬ T w.heap.size) (h:RS w T brd bt bc B N ver tl c) :
  Calls Tryz.prog 170 #[.pointer (some ⟨brd,0,none⟩)] w fun e w' =>e=.returned (.agg #[.string (tx (zBC tl (c.num.1 / 2))),.int .u64 0,.bool (decide (c.num.1 % 2=1))])∧RS w' T brd bt bc B N ver tl c.num.2∧Only bc w w':=by
 have hblt:brd<w.heap.size:=by
  have hb:=h.box
  rcases Nat.lt_or_ge brd w.heap.size with h | h
  ·exact h
  ·rw [Array.getElem?_eq_none h] at hb;cases hb
 have hclt:=h.cur.lt
 have hT0:Turn (fun k =>w.heap.size≤k) w (w.alloc (.cells #[.string ⟨#[]⟩,.int .u64 0,.bool false] 95)):=Turn.of_below ((Below.refl _ w).alloc (Nat.le_refl _) _)
 have h2:RS (w.alloc (.cells #[.string ⟨#[]⟩,.int .u64 0,.bool false] 95)) T brd bt bc B N ver tl c:=⟨(Below.heap_alloc w _ brd hblt).trans h.box,h.cur.below ((Below.refl _ w).alloc (Nat.le_refl _) _) hclt,zCb h.tab _,h.nt,h.nb,h.big⟩
 have HO0:Hid (Only bc w (w.alloc (.cells #[.string ⟨#[]⟩,.int .u64 0,.bool false] 95))):=Only.of_below ((Below.refl _ w).alloc (Nat.le_refl _) _)
 have HBX:=yh (zAE w (.cells #[.string ⟨#[]⟩,.int .u64 0,.bool false] 95))
 have HNE:Hid (w.heap.size≠bc):=by show _≠_;omega
 have HSZ:Hid (w.heap.size<(w.alloc (.cells #[.string ⟨#[]⟩,.int .u64 0,.bool false] 95)).heap.size):=by show _<_;simp
 have q0:=zAA (i:=0) h2.box rfl
 have q2:=zAA (i:=2) h2.box rfl
 have f0:=zAA (i:=0) HBX.out rfl
 have f1:=zAA (i:=1) HBX.out rfl
 have f2:=zAA (i:=2) HBX.out rfl
 have H:=yh h2
 have HG:Hid (brd≠w.heap.size∧bc≠w.heap.size∧¬ T w.heap.size∧B≤w.heap.size):=⟨by omega,by omega,hTn,by have:=h.cur.le;omega⟩
 have HC:=yh (zBU B bc c _ h2.cur)
 obtain ⟨n,hn⟩:∃ n,n=c.num.1:=⟨_,rfl⟩
 obtain ⟨d,hd⟩:∃ d,d=c.num.2:=⟨_,rfl⟩
 have hlt:n<18446744073709551616:=by rw [hn];exact Cu.num_lt
 rw [← hn,← hd] at HC ⊢
 have t2:(n:Int).tdiv 2=((n / 2:Nat):Int):=by rw [Int.tdiv_eq_ediv_of_nonneg (by omega)];simp
 have t3:(n:Int).tmod 2=((n % 2:Nat):Int):=by rw [Int.tmod_eq_emod_of_nonneg (by omega)];simp
 obtain ⟨m,hm⟩:∃ m,m=n / 2:=⟨_,rfl⟩
 obtain ⟨b,hb⟩:∃ b,b=n % 2:=⟨_,rfl⟩
 rw [← hm] at t2 ⊢
 rw [← hb] at t3 ⊢
 have hm2:m<18446744073709551616:=by omega
 have hb2:b<2:=by omega
 have d1:decide (ver<3)=false:=decide_eq_false hv
 have HB2:=yh hb2
 rw [show decide (b=1)=((b:Int) == 1) from by rw [Bool.eq_iff_iff,decide_eq_true_iff,beq_iff_eq];omega]
 clear hn hd hm hb
 clear h h2 hT0 hblt hclt hv
 go_enter Tryz.func170,Tryz.ntmps170
 go_wp2_with (first
  | (go_at_call 171;refine (zFr T brd bt bc B N m ver tl d _ HR.out).mono ?_;rintro e w4 ⟨rfl,rfl⟩)
  | (go_at_call 169;refine HC.out.mono ?_;rintro e w3 ⟨rfl,hc3,ho3⟩;have hbx:=(ho3.block w.heap.size HSZ.out HNE.out).trans HBX.out;have j0:=zAA (i:=0) hbx rfl;have x0:=zAC (i:=0) hbx;have j1:=zAA (i:=1) hbx rfl;have x1:=zAC (i:=1) hbx;have j2:=zAA (i:=2) hbx rfl;have x2:=zAC (i:=2) hbx;have HBX3:=yh hbx;have HR:=yh (H.out.took hc3 ho3);have HO:=yh (HO0.out.trans ho3);clear hbx;clear hc3 ho3))
 refine bodyPost_ret (results_cell_row rfl _ _ _ _ _ _ _ rfl (zAF (zAF (zAF HBX3.out 0 (.string (tx (zBC tl m)))) 1 (.int .u64 0)) 2 (.bool ((b:Int) == 1))) Tryz.underlying95 rfl (by kernel_rfl)) rfl ?_
 exact ⟨rfl,(RS.store (RS.store (RS.store HR.out (g:=w.heap.size) (i:=0) (.string (tx (zBC tl m))) HG.out.1 HG.out.2.1 HG.out.2.2.1 HG.out.2.2.2) (g:=w.heap.size) (i:=1) (.int .u64 0) HG.out.1 HG.out.2.1 HG.out.2.2.1 HG.out.2.2.2) (g:=w.heap.size) (i:=2) (.bool ((b:Int) == 1)) HG.out.1 HG.out.2.1 HG.out.2.2.1 HG.out.2.2.2),(Only.store (Only.store (Only.store HO.out (g:=w.heap.size) (i:=0) (.string (tx (zBC tl m))) (Nat.le_refl _)) (g:=w.heap.size) (i:=1) (.int .u64 0) (Nat.le_refl _)) (g:=w.heap.size) (i:=2) (.bool ((b:Int) == 1)) (Nat.le_refl _))⟩
def RecS (w:World) (S:Nat→Prop) (brr:Nat) (r:Rc) (va:Value) (l:List Dp):Prop :=
 w.heap[brr]? = some (.cells #[.int .i64 r.kind,.string (tx r.target),.int .u64 r.rule,va,.int .u64 r.out,.int .u64 r.time,.string (tx r.tag)] 41 (0,0))∧w.ownsRow 0 95 3 va l.length (dps l)∧S brr∧(∀ k,va.ownBlock=some k→S k)
structure RE (w:World) (S T:Nat→Prop) (brd bc brr B:Nat):Prop where
 sc:S bc
 nd:¬ S brd
 nt:∀ k,T k→¬ S k
 up:∀ k,S k→B≤k
 ne:bc≠brr
 new:∀ k,w.heap.size≤k→S k
theorem RE.next {w w':World} {S T:Nat→Prop} {brd bc brr B:Nat} (h:RE w S T brd bc brr B) (hs:w.heap.size≤w'.heap.size):RE w' S T brd bc brr B:=⟨h.sc,h.nd,h.nt,h.up,h.ne,fun k hk =>h.new k (Nat.le_trans hs hk)⟩
structure Rst where
 r:Rc
 l:List Dp
 c:Cu
def RT (w:World) (S T:Nat→Prop) (brd bt bc brr B N:Nat) (ver:Int) (tl:List (List UInt8)) (s:Rst):Prop:=RS w T brd bt bc B N ver tl s.c∧∃ va,RecS w S brr s.r va s.l
theorem zBy {w w':World} {S:Nat→Prop} {bc brr:Nat} {r:Rc} {va:Value} {l:List Dp} (h:RecS w S brr r va l) (ho:Only bc w w') (hb:∃ cs,w.heap[bc]? = some (.cells cs 224 (0,0))) (hne:bc≠brr):RecS w' S brr r va l:=by
 obtain ⟨h1,h2,h3,h4⟩:=h
 obtain ⟨cs,hc⟩:=hb
 refine ⟨(ho.block brr ?_ (fun h =>hne h.symm)).trans h1,zAR h2 (fun g hg =>ho.block g (zAP h2 g hg) (fun h5 =>zAa h2 hc (by decide) (h5▸hg))),h3,h4⟩
 rcases Nat.lt_or_ge brr w.heap.size with h | h
 ·exact h
 ·rw [Array.getElem?_eq_none h] at h1;cases h1
theorem RS.cblock {w:World} {T:Nat→Prop} {brd bt bc B N:Nat} {ver:Int} {tl:List (List UInt8)} {c:Cu} (h:RS w T brd bt bc B N ver tl c):∃ cs,w.heap[bc]? = some (.cells cs 224 (0,0)):=by
 obtain ⟨A,n,cap,_,_,h2⟩:=h.cur.lies
 exact ⟨_,h2⟩
theorem zEp {w:World} {S:Nat→Prop} {brr:Nat} {r r2:Rc} {va:Value} {l:List Dp} (h:RecS w S brr r va l) (i:Nat) (u:Value) (hr:(#[.int .i64 r.kind,.string (tx r.target),.int .u64 r.rule,va,.int .u64 r.out,.int .u64 r.time,.string (tx r.tag)]:Array Value).setIfInBounds i u=#[.int .i64 r2.kind,.string (tx r2.target),.int .u64 r2.rule,va,.int .u64 r2.out,.int .u64 r2.time,.string (tx r2.tag)]):RecS (w.setCell ⟨brr,i,none⟩ u) S brr r2 va l:=by
 obtain ⟨h1,h2,h3,h4⟩:=h
 refine ⟨by rw [← hr];exact zAF h1 i u,ownsRow_setCell_other h2 (zAa h2 h1 (by decide)) _,h3,h4⟩
def zAv (ver:Int) (tl:List (List UInt8)) (s:Rst):Rst:=⟨⟨s.r.kind,(zBJ ver tl s.c).1,s.r.rule,s.r.out,s.r.time,s.r.tag⟩,s.l,(zBJ ver tl s.c).2⟩
theorem zNj (S T:Nat→Prop) (brd bt bc brr B N:Nat) (ver:Int) (tl:List (List UInt8)) (s:Rst) (w:World) (hE:RE w S T brd bc brr B) (hT:RT w S T brd bt bc brr B N ver tl s) :
  Calls Tryz.prog 140 #[.pointer (some ⟨brd,0,none⟩),.pointer (some ⟨brr,0,none⟩)] w fun e w' =>e=.returned (.tuple #[])∧RT w' S T brd bt bc brr B N ver tl (zAv ver tl s)∧Turn S w w':=by
 have HC:=yh (zHV T brd bt bc B N ver tl s.c w hT.1)
 obtain ⟨va,hrec⟩:=hT.2
 obtain ⟨x,hx⟩:∃ x,x=(zBJ ver tl s.c).1:=⟨_,rfl⟩
 obtain ⟨d,hd⟩:∃ d,d=(zBJ ver tl s.c).2:=⟨_,rfl⟩
 have hfin:zAv ver tl s=⟨⟨s.r.kind,x,s.r.rule,s.r.out,s.r.time,s.r.tag⟩,s.l,d⟩:=by rw [hx,hd];rfl
 rw [hfin]
 rw [← hx,← hd] at HC
 have H:=yh hT.1
 have HREC:=yh hrec
 have HE:=yh hE
 clear hT hE hrec hfin hx hd
 go_enter Tryz.func140,Tryz.ntmps140
 go_wp2_with (go_at_call 168;refine HC.out.mono ?_;rintro e w3 ⟨rfl,hr3,ho3⟩;have HR3:=yh hr3;have hrec3:=zBy HREC.out ho3 H.out.cblock HE.out.ne;have f3:=zAA (i:=1) hrec3.1 rfl;have y3:=zAC (i:=1) hrec3.1;have HREC3:=yh hrec3;have HO3:=yh ho3;clear ho3 hrec3 hr3)
 go_end0
 have hb:S brr:=HREC.out.2.2.1
 exact ⟨rfl,⟨HR3.out.store (g:=brr) (i:=1) _ (fun h =>HE.out.nd (h▸hb)) HE.out.ne (fun h =>HE.out.nt _ h hb) (HE.out.up _ hb),va,zEp HREC3.out 1 _ rfl⟩,((Turn.of_only HO3.out).wide (fun k hk =>hk▸HE.out.sc)).setCell brr 1 _ hb⟩
def zBm (_ver:Int) (_tl:List (List UInt8)) (s:Rst):Rst:=⟨⟨s.r.kind,s.r.target,(s.c.num.1:Int),s.r.out,s.r.time,s.r.tag⟩,s.l,s.c.num.2⟩
theorem zRT (S T:Nat→Prop) (brd bt bc brr B N:Nat) (ver:Int) (tl:List (List UInt8)) (s:Rst) (w:World) (hE:RE w S T brd bc brr B) (hT:RT w S T brd bt bc brr B N ver tl s) :
  Calls Tryz.prog 141 #[.pointer (some ⟨brd,0,none⟩),.pointer (some ⟨brr,0,none⟩)] w fun e w' =>e=.returned (.tuple #[])∧RT w' S T brd bt bc brr B N ver tl (zBm ver tl s)∧Turn S w w':=by
 have q2:=zAA (i:=2) hT.1.box rfl
 have HC:=yh (zBU B bc s.c w hT.1.cur)
 obtain ⟨va,hrec⟩:=hT.2
 obtain ⟨x,hx⟩:∃ x,x=s.c.num.1:=⟨_,rfl⟩
 obtain ⟨d,hd⟩:∃ d,d=s.c.num.2:=⟨_,rfl⟩
 have hfin:zBm ver tl s=⟨⟨s.r.kind,s.r.target,(x:Int),s.r.out,s.r.time,s.r.tag⟩,s.l,d⟩:=by rw [hx,hd];rfl
 rw [hfin]
 rw [← hx,← hd] at HC
 have H:=yh hT.1
 have HREC:=yh hrec
 have HE:=yh hE
 clear hT hE hrec hfin hx hd
 go_enter Tryz.func141,Tryz.ntmps141
 go_wp2_with (go_at_call 169;refine HC.out.mono ?_;rintro e w3 ⟨rfl,hc3,ho3⟩;have HR3:=yh (H.out.took hc3 ho3);have hrec3:=zBy HREC.out ho3 H.out.cblock HE.out.ne;have f3:=zAA (i:=2) hrec3.1 rfl;have y3:=zAC (i:=2) hrec3.1;have HREC3:=yh hrec3;have HO3:=yh ho3;clear ho3 hrec3 hc3)
 go_end0
 have hb:S brr:=HREC.out.2.2.1
 exact ⟨rfl,⟨HR3.out.store (g:=brr) (i:=2) _ (fun h =>HE.out.nd (h▸hb)) HE.out.ne (fun h =>HE.out.nt _ h hb) (HE.out.up _ hb),va,zEp HREC3.out 2 _ rfl⟩,((Turn.of_only HO3.out).wide (fun k hk =>hk▸HE.out.sc)).setCell brr 2 _ hb⟩
def zCa (_ver:Int) (_tl:List (List UInt8)) (s:Rst):Rst:=⟨⟨s.r.kind,s.r.target,s.r.rule,(s.c.num.1:Int),s.r.time,s.r.tag⟩,s.l,s.c.num.2⟩
theorem zSR (S T:Nat→Prop) (brd bt bc brr B N:Nat) (ver:Int) (tl:List (List UInt8)) (s:Rst) (w:World) (hE:RE w S T brd bc brr B) (hT:RT w S T brd bt bc brr B N ver tl s) :
  Calls Tryz.prog 143 #[.pointer (some ⟨brd,0,none⟩),.pointer (some ⟨brr,0,none⟩)] w fun e w' =>e=.returned (.tuple #[])∧RT w' S T brd bt bc brr B N ver tl (zCa ver tl s)∧Turn S w w':=by
 have q2:=zAA (i:=2) hT.1.box rfl
 have HC:=yh (zBU B bc s.c w hT.1.cur)
 obtain ⟨va,hrec⟩:=hT.2
 obtain ⟨x,hx⟩:∃ x,x=s.c.num.1:=⟨_,rfl⟩
 obtain ⟨d,hd⟩:∃ d,d=s.c.num.2:=⟨_,rfl⟩
 have hfin:zCa ver tl s=⟨⟨s.r.kind,s.r.target,s.r.rule,(x:Int),s.r.time,s.r.tag⟩,s.l,d⟩:=by rw [hx,hd];rfl
 rw [hfin]
 rw [← hx,← hd] at HC
 have H:=yh hT.1
 have HREC:=yh hrec
 have HE:=yh hE
 clear hT hE hrec hfin hx hd
 go_enter Tryz.func143,Tryz.ntmps143
 go_wp2_with (go_at_call 169;refine HC.out.mono ?_;rintro e w3 ⟨rfl,hc3,ho3⟩;have HR3:=yh (H.out.took hc3 ho3);have hrec3:=zBy HREC.out ho3 H.out.cblock HE.out.ne;have f3:=zAA (i:=4) hrec3.1 rfl;have y3:=zAC (i:=4) hrec3.1;have HREC3:=yh hrec3;have HO3:=yh ho3;clear ho3 hrec3 hc3)
 go_end0
 have hb:S brr:=HREC.out.2.2.1
 exact ⟨rfl,⟨HR3.out.store (g:=brr) (i:=4) _ (fun h =>HE.out.nd (h▸hb)) HE.out.ne (fun h =>HE.out.nt _ h hb) (HE.out.up _ hb),va,zEp HREC3.out 4 _ rfl⟩,((Turn.of_only HO3.out).wide (fun k hk =>hk▸HE.out.sc)).setCell brr 4 _ hb⟩
def zCi (_ver:Int) (_tl:List (List UInt8)) (s:Rst):Rst:=⟨⟨s.r.kind,s.r.target,s.r.rule,s.r.out,(s.c.num.1:Int),s.r.tag⟩,s.l,s.c.num.2⟩
theorem zRW (S T:Nat→Prop) (brd bt bc brr B N:Nat) (ver:Int) (tl:List (List UInt8)) (s:Rst) (w:World) (hE:RE w S T brd bc brr B) (hT:RT w S T brd bt bc brr B N ver tl s) :
  Calls Tryz.prog 144 #[.pointer (some ⟨brd,0,none⟩),.pointer (some ⟨brr,0,none⟩)] w fun e w' =>e=.returned (.tuple #[])∧RT w' S T brd bt bc brr B N ver tl (zCi ver tl s)∧Turn S w w':=by
 have q2:=zAA (i:=2) hT.1.box rfl
 have HC:=yh (zBU B bc s.c w hT.1.cur)
 obtain ⟨va,hrec⟩:=hT.2
 obtain ⟨x,hx⟩:∃ x,x=s.c.num.1:=⟨_,rfl⟩
 obtain ⟨d,hd⟩:∃ d,d=s.c.num.2:=⟨_,rfl⟩
 have hfin:zCi ver tl s=⟨⟨s.r.kind,s.r.target,s.r.rule,s.r.out,(x:Int),s.r.tag⟩,s.l,d⟩:=by rw [hx,hd];rfl
 rw [hfin]
 rw [← hx,← hd] at HC
 have H:=yh hT.1
 have HREC:=yh hrec
 have HE:=yh hE
 clear hT hE hrec hfin hx hd
 go_enter Tryz.func144,Tryz.ntmps144
 go_wp2_with (go_at_call 169;refine HC.out.mono ?_;rintro e w3 ⟨rfl,hc3,ho3⟩;have HR3:=yh (H.out.took hc3 ho3);have hrec3:=zBy HREC.out ho3 H.out.cblock HE.out.ne;have f3:=zAA (i:=5) hrec3.1 rfl;have y3:=zAC (i:=5) hrec3.1;have HREC3:=yh hrec3;have HO3:=yh ho3;clear ho3 hrec3 hc3)
 go_end0
 have hb:S brr:=HREC.out.2.2.1
 exact ⟨rfl,⟨HR3.out.store (g:=brr) (i:=5) _ (fun h =>HE.out.nd (h▸hb)) HE.out.ne (fun h =>HE.out.nt _ h hb) (HE.out.up _ hb),va,zEp HREC3.out 5 _ rfl⟩,((Turn.of_only HO3.out).wide (fun k hk =>hk▸HE.out.sc)).setCell brr 5 _ hb⟩
end Go.Proofs.YtekchkfjgofnkaaGreatDoor
