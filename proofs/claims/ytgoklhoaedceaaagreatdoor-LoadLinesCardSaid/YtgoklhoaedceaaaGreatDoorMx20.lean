/- Texts of one proof. -/
import Derived.Test.YtgoklhoaedceaaaGreatDoorMx19
set_option maxRecDepth 100000
set_option maxHeartbeats 8000000
namespace Go.Proofs.YtgoklhoaedceaaaGreatDoor
open Go.RowKit
def PutI (w:World) (x:Rw) (wr:World) (va:Value) (zs:List Rw):Prop :=
 wr.ownsRow (w.heap.size+1) 37 7 va zs.length (rws zs)∧wr.heap[w.heap.size]? = some (.cells #[.int .i64 x.r.kind,.string (tx x.r.target),.int .u64 x.r.rule,.slice x.A x.n x.c,.int .u64 x.r.out,.int .u64 x.r.time,.string (tx x.r.tag)] 37 (0,0))∧Below w.heap.size w wr
theorem PutI.base {w wr:World} {x:Rw} {va:Value} {zs:List Rw} (h:PutI w x wr va zs):w.heap.size+1≤wr.heap.size:=by
 have:=(Array.getElem?_eq_some_iff.1 h.2.1).1
 omega
theorem PutI.drewN {w wr:World} {x:Rw} {va:Value} {zs:List Rw} (h:PutI w x wr va zs) (q:Nat):PutI w x (wr.drewN q) va zs:=⟨h.1,h.2.1,zBB h.2.2 q⟩
theorem zBM {w wr w6:World} {x:Rw} {va v1:Value} {zs:List Rw} (h:PutI w x wr va zs) (y:Rw) (ho:w6.ownsRow (w.heap.size+1) 37 7 v1 (zs.length+1) (rws zs++rws [y]))
  (hg:(wr.alloc (.cells #[.int .i64 y.r.kind,.string (tx y.r.target),.int .u64 y.r.rule,.slice y.A y.n y.c,.int .u64 y.r.out,.int .u64 y.r.time,.string (tx y.r.tag)] 37)).grownBy w6 va.ownBlock):PutI w x w6 v1 (zs++[y]):=by
 have hb:=h.base
 have ho1:=zAS h.1
 refine ⟨?_,?_,?_⟩
 ·rw [← zHc] at ho
  simpa using ho
 ·refine (hg.block w.heap.size (by simp;omega) (fun e =>?_)).trans ((Below.heap_alloc _ _ _ (by omega)).trans h.2.1)
  have:=ho1 _ e.symm
  omega
 ·exact (h.2.2.alloc (by omega) _).grown hg (by simp;omega) (fun j hj =>by have:=ho1 j hj;omega)
theorem zDG (x s:Rw) (S:List Rw):rput Rw.t x true (s :: S)=(if s.t≠x.t then [s] else [])++rput Rw.t x true S:=by
 simp [rput]
theorem zDF {x s:Rw} (S:List Rw) (h:x.t<s.t):rput Rw.t x false (s :: S)=x :: s :: rput Rw.t x true S:=by
 have h2:s.t≠x.t:=fun e =>zDY h e.symm
 simp [rput,h,h2]
theorem zDi {x s:Rw} (S:List Rw) (h:¬ x.t<s.t):rput Rw.t x false (s :: S)=(if s.t≠x.t then [s] else [])++rput Rw.t x false S:=by
 simp [rput,h]
theorem zHP (w:World) (b:Nat) (hb:b≤w.heap.size):(w.alloc (.cells #[] 37)).ownsRow b 37 7 (.slice (some ⟨w.heap.size,0,none⟩) 0 0) 0 (rws []) :=
 ⟨by simp [rws],.inr ⟨w.heap.size,0,#[],rfl,hb,(by show (w.heap.push _)[w.heap.size]? = _;exact Array.getElem?_push_size),Nat.le_refl _,by unfold maxLen;omega,rfl,rfl⟩⟩
def zKO (w:World) (x:Rw) (S P:List Rw) (n:Nat) (va vl idx:Value) (wr:World):Prop :=
 ∃ (i:Nat) (zs:List Rw) (laid:Bool),i≤n∧idx=.int .i64 (i:Int)∧vl=.bool laid∧zs++rput Rw.t x laid (S.drop i)=P∧zs.length≤2 * i∧PutI w x wr va zs
theorem zHx (A:Option Addr) (n c:Nat) (S:List Rw) (x:Rw) (hn:n≤100000) (hf:∀ s ∈ S,s.t.length≤maxLen) (hx:x.t.length≤maxLen) (w:World) (h:Recs w w.heap.size A n S) (hr:zAE w w.heap.size 3 x.A x.n (dps x.l)∧(x.A=none→x.c=0)) (hA:A=none→c=0) :
  Calls Tryz.prog 44 #[.slice A n c,x.val] w fun e w' =>∃ A' c',e=.returned (.slice A' (put1 Rw.k Rw.t S x).length c')∧Recs w' w'.heap.size A' (put1 Rw.k Rw.t S x).length (put1 Rw.k Rw.t S x)∧(A'=none→c'=0)∧Below w.heap.size w w':=by
 obtain ⟨i0,ii0,iz0,iz1,iz2⟩:=info_parts zGG
 have hl0:S.length=n:=h.len
 have HL:=yh hl0
 have H1:=yh h
 have HF:=yh hf
 have HXF:=yh hx
 have HEND:Hid (∀ (wr:World) (va:Value) (zs:List Rw),PutI w x wr va zs→zs=put1 Rw.k Rw.t S x→∃ A' c',va=.slice A' (put1 Rw.k Rw.t S x).length c'∧Recs wr wr.heap.size A' (put1 Rw.k Rw.t S x).length (put1 Rw.k Rw.t S x)∧(A'=none→c'=0)∧Below w.heap.size w wr):=fun wr va zs hp hz =>by
  subst hz
  obtain ⟨A',c',rfl,hc⟩:=zAL hp.1
  refine ⟨A',c',rfl,⟨zAE.of_own hp.1,fun y hy =>?_⟩,hc,hp.2.2⟩
  rcases zGd hy with ⟨rfl,_⟩ | hy
  ·exact ⟨(hr.1.below hp.2.2).more hp.2.2.size,hr.2⟩
  ·exact ⟨((h.2 y hy).1.below hp.2.2).more hp.2.2.size,(h.2 y hy).2⟩
 by_cases hk1:x.r.kind=1
 ·have hP:([]:List Rw)++rput Rw.t x false (S.drop 0)=put1 Rw.k Rw.t S x:=by
   unfold put1
   rw [if_pos (show x.k=1 from hk1)]
   rfl
  generalize put1 Rw.k Rw.t S x=P at *
  have HP:=yh hP
  obtain ⟨⟨k,t,u,o,m,g⟩,A4,n4,c4,l4⟩:=x
  simp only at hk1
  subst hk1
  unfold Rw.val rcv rsv
  unfold Rw.t at HXF
  simp only at HXF ⊢
  obtain ⟨h00,h01,hsz⟩:=zDK w (.cells #[.int .i64 1,.string (tx t),.int .u64 u,.slice A4 n4 c4,.int .u64 o,.int .u64 m,.string (tx g)] 37) (.cells #[] 37)
  have HPI0:Hid (PutI w ⟨⟨1,t,u,o,m,g⟩,A4,n4,c4,l4⟩ ((w.alloc (.cells #[.int .i64 1,.string (tx t),.int .u64 u,.slice A4 n4 c4,.int .u64 o,.int .u64 m,.string (tx g)] 37)).alloc (.cells #[] 37)) (.slice (some ⟨w.heap.size+1,0,none⟩) 0 0) []) :=
   ⟨(by have:=zHP (w.alloc (.cells #[.int .i64 1,.string (tx t),.int .u64 u,.slice A4 n4 c4,.int .u64 o,.int .u64 m,.string (tx g)] 37)) (w.heap.size+1) (by simp);simpa using this),h00,((Below.refl _ w).alloc (Nat.le_refl _) _).alloc (by simp) _⟩
  have b0:=zAI w (.cells #[.int .i64 1,.string (tx t),.int .u64 u,.slice A4 n4 c4,.int .u64 o,.int .u64 m,.string (tx g)] 37)
  have a0:=zAA (i:=0) b0 rfl
  have c0:=zAA (i:=0) h00 rfl
  clear h hf hx hr hA hP hl0 h00 h01 hsz b0
  have hkk:True:=trivial
  clear hkk
  go_enter Tryz.func44,Tryz.ntmps44
  go_wp2
  go_loopw [5,6,7] (fun va vl idx wr =>zKO w ⟨⟨1,t,u,o,m,g⟩,A4,n4,c4,l4⟩ S P n va vl idx wr) (fun _ _ idx _ =>n - (intOf idx).toNat)
  case atStart =>exact ⟨0,[],false,by omega,rfl,rfl,HP.out,by simp,HPI0.out⟩
  case round =>
   obtain ⟨i,zs,laid,hi,rfl,rfl,hp,hzl,hpi⟩:=hrel
   obtain ⟨Ao,co,rfl,_⟩:=zAL hpi.1
   have HPI:=yh hpi
   have HLEN:Hid (zs.length≤200000):=by show _≤_;omega
   have HZL:=yh hzl
   have p0:=zAA (i:=0) hpi.2.1 rfl
   have p1:=zAA (i:=1) hpi.2.1 rfl
   have p2:=zAA (i:=2) hpi.2.1 rfl
   have p3:=zAA (i:=3) hpi.2.1 rfl
   have p4:=zAA (i:=4) hpi.2.1 rfl
   have p5:=zAA (i:=5) hpi.2.1 rfl
   have p6:=zAA (i:=6) hpi.2.1 rfl
   by_cases hlt:i<n
   ·obtain ⟨s,hs⟩:∃ s,S[i]? = some s:=⟨_,List.getElem?_eq_getElem (by rw [HL.out];exact hlt)⟩
    have hfs:=HF.out s (List.mem_of_getElem? hs)
    obtain ⟨ad,rfl,_,k0,k1,k2,k3,k4,k5,k6⟩:=zAn (H1.out.below hpi.2.2).1 i s hs
    have HRD:Hid (∀ W,Below w.heap.size w W→∃ ad2:Addr,ad2=ad∧W.cell? (ad.add (i * 7))=some (.int .i64 s.r.kind)∧W.cell? ⟨(ad.add (i * 7)).block,(ad.add (i * 7)).off+1,none⟩=some (.string (tx s.r.target))∧W.cell? ⟨(ad.add (i * 7)).block,(ad.add (i * 7)).off+2,none⟩=some (.int .u64 s.r.rule)∧W.cell? ⟨(ad.add (i * 7)).block,(ad.add (i * 7)).off+3,none⟩=some (.slice s.A s.n s.c)∧W.cell? ⟨(ad.add (i * 7)).block,(ad.add (i * 7)).off+4,none⟩=some (.int .u64 s.r.out)∧W.cell? ⟨(ad.add (i * 7)).block,(ad.add (i * 7)).off+5,none⟩=some (.int .u64 s.r.time)∧W.cell? ⟨(ad.add (i * 7)).block,(ad.add (i * 7)).off+6,none⟩=some (.string (tx s.r.tag))):=fun W hW =>by
     obtain ⟨ad2,e,_,h⟩:=zAn (H1.out.below hW).1 i s hs
     obtain rfl:ad=ad2:=by injection e
     exact ⟨ad,rfl,h⟩
    have hdr:S.drop i=s :: S.drop (i+1):=by
     obtain ⟨h1,h2⟩:=List.getElem?_eq_some_iff.1 hs
     rw [← h2,List.getElem_cons_drop]
    have hi0:(0:Int)≤(i:Int):=by omega
    have hi1:(i:Int)<(n:Int):=by omega
    have HLS:=yh (fun W =>zET t s.t HXF.out hfs W)
    have hun1:s.t≠t→((tx s.t).toList == (tx t).toList)=false:=zAh
    have hun2:s.t=t→((tx s.t).toList == (tx t).toList)=true:=fun e =>by rw [e];exact zAj t
    obtain ⟨⟨kb,tb,ub,ob,mb,gb⟩,B4,m4,d4,l5⟩:=s
    unfold rsv at HLS
    unfold Rw.t at HLS hun1 hun2
    simp only at k0 k1 k2 k3 k4 k5 k6 HLS hun1 hun2 HRD
    have hsv:(⟨⟨kb,tb,ub,ob,mb,gb⟩,B4,m4,d4,l5⟩:Rw).t=tb:=rfl
    have hxv:(⟨⟨1,t,u,o,m,g⟩,A4,n4,c4,l4⟩:Rw).t=t:=rfl
    rw [hdr] at hp
    cases laid with
    | true =>
     rw [zDG,hsv,hxv] at hp
     by_cases he:tb=t
     ·skip
      rw [if_neg (fun h =>h he),List.nil_append] at hp
      have HPN:=yh hp
      have hune:=hun2 he
      clear hs hfs hdr hp hpi hzl hun1 hun2 he hsv hxv
      go_wp2
      go_quiet (fail)
      go_wp2
      go_quiet (fail)
      go_wp2
      exact ⟨⟨i+1,zs,true,by omega,by go_num,rfl,HPN.out,by have:=HZL.out;omega,HPI.out.drewN _⟩,by simp [intOf];omega⟩
     ·skip
      rw [if_pos he,← List.append_assoc] at hp
      have HPN:=yh hp
      have hune:=hun1 he
      clear hs hfs hdr hp hpi hzl hun1 hun2 he hsv hxv
      go_wp2
      go_quiet (fail)
      go_wp2
      go_quiet (fail)
      generalize hW:World.drewN (World.drewN wr _) _=w3
      have HPK:Hid (PutI w ⟨⟨1,t,u,o,m,g⟩,A4,n4,c4,l4⟩ w3 (.slice Ao zs.length co) (zs)):=by rw [← hW];exact (HPI.out.drewN _).drewN _
      obtain ⟨_,rfl,j0,j1,j2,j3,j4,j5,j6⟩:=HRD.out w3 HPK.out.2.2
      have r0:=zAA (i:=0) HPK.out.2.1 rfl
      have r1:=zAA (i:=1) HPK.out.2.1 rfl
      have r2:=zAA (i:=2) HPK.out.2.1 rfl
      have r3:=zAA (i:=3) HPK.out.2.1 rfl
      have r4:=zAA (i:=4) HPK.out.2.1 rfl
      have r5:=zAA (i:=5) HPK.out.2.1 rfl
      have r6:=zAA (i:=6) HPK.out.2.1 rfl
      clear hW
      go_wp2_with (at_builtin;refine zAQ _ rfl (.tmp 51) (.tmp 56) 23 rfl (w.heap.size+1) 37 i0 _ 7 88 Tryz.underlying23 ii0 iz0 iz1 iz2 rfl (by decide) _ (zs).length (rws (zs)) rfl (HPK.out.1.alloc _) (some ⟨w3.heap.size,0,none⟩) 1 1 (w3.heap.size+1) (rws [⟨⟨kb,tb,ub,ob,mb,gb⟩,B4,m4,d4,l5⟩]) rfl (by simp) (zBD w3 ⟨⟨kb,tb,ub,ob,mb,gb⟩,B4,m4,d4,l5⟩) (zBQ _) (by have:=HLEN.out;simp at this ⊢;unfold maxLen;omega) (by have:=HLEN.out;simp at this ⊢;omega) (by have:=HPK.out.base;simp;omega) ?_;intro v1 w6 ho hg;obtain ⟨v1A,v1c,rfl,_⟩:=zAL ho;have HPJ:=yh (zBM HPK.out ⟨⟨kb,tb,ub,ob,mb,gb⟩,B4,m4,d4,l5⟩ ho hg);have HPJQ1:=zAA (i:=1) HPJ.out.2.1 rfl;have HPJQ0:=zAA (i:=0) HPJ.out.2.1 rfl;have HPJQ2:=zAA (i:=2) HPJ.out.2.1 rfl;have HPJQ3:=zAA (i:=3) HPJ.out.2.1 rfl;have HPJQ4:=zAA (i:=4) HPJ.out.2.1 rfl;have HPJQ5:=zAA (i:=5) HPJ.out.2.1 rfl;have HPJQ6:=zAA (i:=6) HPJ.out.2.1 rfl;clear ho hg)
      exact ⟨⟨i+1,zs++[⟨⟨kb,tb,ub,ob,mb,gb⟩,B4,m4,d4,l5⟩],true,by omega,by go_num,rfl,HPN.out,by have:=HZL.out;simp;omega,HPJ.out⟩,by simp [intOf];omega⟩
    | false =>
     by_cases hlx:t<tb
     ·skip
      rw [zDF (x:=⟨⟨1,t,u,o,m,g⟩,A4,n4,c4,l4⟩) (s:=⟨⟨kb,tb,ub,ob,mb,gb⟩,B4,m4,d4,l5⟩) _ hlx,List.append_cons,List.append_cons] at hp
      have HPN:=yh hp
      have he:tb≠t:=fun e =>zDY hlx e.symm
      have hune:=hun1 he
      rw [decide_eq_true hlx] at HLS
      clear hs hfs hdr hp hpi hzl hun1 hun2 he hsv hxv
      clear hlx
      go_wp2
      go_quiet ((go_at_call 74;exact Calls.quiet_of (HLS.out _)))
      generalize hW:World.drewN wr _=w3
      have HPK:Hid (PutI w ⟨⟨1,t,u,o,m,g⟩,A4,n4,c4,l4⟩ w3 (.slice Ao zs.length co) (zs)):=by rw [← hW];exact HPI.out.drewN _
      obtain ⟨_,rfl,j0,j1,j2,j3,j4,j5,j6⟩:=HRD.out w3 HPK.out.2.2
      have r0:=zAA (i:=0) HPK.out.2.1 rfl
      have r1:=zAA (i:=1) HPK.out.2.1 rfl
      have r2:=zAA (i:=2) HPK.out.2.1 rfl
      have r3:=zAA (i:=3) HPK.out.2.1 rfl
      have r4:=zAA (i:=4) HPK.out.2.1 rfl
      have r5:=zAA (i:=5) HPK.out.2.1 rfl
      have r6:=zAA (i:=6) HPK.out.2.1 rfl
      clear hW
      go_wp2_with (at_builtin;refine zAQ _ rfl (.tmp 39) (.tmp 41) 23 rfl (w.heap.size+1) 37 i0 _ 7 88 Tryz.underlying23 ii0 iz0 iz1 iz2 rfl (by decide) _ (zs).length (rws (zs)) rfl (HPK.out.1.alloc _) (some ⟨w3.heap.size,0,none⟩) 1 1 (w3.heap.size+1) (rws [⟨⟨1,t,u,o,m,g⟩,A4,n4,c4,l4⟩]) rfl (by simp) (zBD w3 ⟨⟨1,t,u,o,m,g⟩,A4,n4,c4,l4⟩) (zBQ _) (by have:=HLEN.out;simp at this ⊢;unfold maxLen;omega) (by have:=HLEN.out;simp at this ⊢;omega) (by have:=HPK.out.base;simp;omega) ?_;intro v1 w6 ho hg;obtain ⟨v1A,v1c,rfl,_⟩:=zAL ho;have HPJ:=yh (zBM HPK.out ⟨⟨1,t,u,o,m,g⟩,A4,n4,c4,l4⟩ ho hg);have HPJQ1:=zAA (i:=1) HPJ.out.2.1 rfl;have HPJQ0:=zAA (i:=0) HPJ.out.2.1 rfl;have HPJQ2:=zAA (i:=2) HPJ.out.2.1 rfl;have HPJQ3:=zAA (i:=3) HPJ.out.2.1 rfl;have HPJQ4:=zAA (i:=4) HPJ.out.2.1 rfl;have HPJQ5:=zAA (i:=5) HPJ.out.2.1 rfl;have HPJQ6:=zAA (i:=6) HPJ.out.2.1 rfl;clear ho hg)
      obtain ⟨_,rfl,l0,l1,l2,l3,l4x,l5x,l6⟩:=HRD.out w6 HPJ.out.2.2
      go_quiet (fail)
      generalize hW:World.drewN w6 _=w7
      have HPL:Hid (PutI w ⟨⟨1,t,u,o,m,g⟩,A4,n4,c4,l4⟩ w7 (.slice v1A (zs.length+1) v1c) (zs++[(⟨⟨1,t,u,o,m,g⟩,A4,n4,c4,l4⟩:Rw)])):=by rw [← hW];exact HPJ.out.drewN _
      obtain ⟨_,rfl,i0x,i1x,i2x,i3x,i4x,i5x,i6x⟩:=HRD.out w7 HPL.out.2.2
      have s0:=zAA (i:=0) HPL.out.2.1 rfl
      have s1:=zAA (i:=1) HPL.out.2.1 rfl
      have s2:=zAA (i:=2) HPL.out.2.1 rfl
      have s3:=zAA (i:=3) HPL.out.2.1 rfl
      have s4:=zAA (i:=4) HPL.out.2.1 rfl
      have s5:=zAA (i:=5) HPL.out.2.1 rfl
      have s6:=zAA (i:=6) HPL.out.2.1 rfl
      clear hW
      go_wp2_with (at_builtin;refine zAQ _ rfl (.tmp 51) (.tmp 56) 23 rfl (w.heap.size+1) 37 i0 _ 7 88 Tryz.underlying23 ii0 iz0 iz1 iz2 rfl (by decide) _ (zs++[(⟨⟨1,t,u,o,m,g⟩,A4,n4,c4,l4⟩:Rw)]).length (rws (zs++[(⟨⟨1,t,u,o,m,g⟩,A4,n4,c4,l4⟩:Rw)])) rfl (HPL.out.1.alloc _) (some ⟨w7.heap.size,0,none⟩) 1 1 (w7.heap.size+1) (rws [⟨⟨kb,tb,ub,ob,mb,gb⟩,B4,m4,d4,l5⟩]) rfl (by simp) (zBD w7 ⟨⟨kb,tb,ub,ob,mb,gb⟩,B4,m4,d4,l5⟩) (zBQ _) (by have:=HLEN.out;simp at this ⊢;unfold maxLen;omega) (by have:=HLEN.out;simp at this ⊢;omega) (by have:=HPL.out.base;simp;omega) ?_;intro v2 w8 ho hg;obtain ⟨v2A,v2c,rfl,_⟩:=zAL ho;have HPM:=yh (zBM HPL.out ⟨⟨kb,tb,ub,ob,mb,gb⟩,B4,m4,d4,l5⟩ ho hg);have HPMQ1:=zAA (i:=1) HPM.out.2.1 rfl;have HPMQ0:=zAA (i:=0) HPM.out.2.1 rfl;have HPMQ2:=zAA (i:=2) HPM.out.2.1 rfl;have HPMQ3:=zAA (i:=3) HPM.out.2.1 rfl;have HPMQ4:=zAA (i:=4) HPM.out.2.1 rfl;have HPMQ5:=zAA (i:=5) HPM.out.2.1 rfl;have HPMQ6:=zAA (i:=6) HPM.out.2.1 rfl;clear ho hg)
      exact ⟨⟨i+1,zs++[(⟨⟨1,t,u,o,m,g⟩,A4,n4,c4,l4⟩:Rw)]++[(⟨⟨kb,tb,ub,ob,mb,gb⟩,B4,m4,d4,l5⟩:Rw)],true,by omega,by go_num,rfl,HPN.out,by have:=HZL.out;simp;omega,by have h:=HPM.out;simp only [List.length_append,List.length_singleton] at h;exact h⟩,by simp [intOf];omega⟩
     ·rw [zDi _ (show ¬ (⟨⟨1,t,u,o,m,g⟩,A4,n4,c4,l4⟩:Rw).t<(⟨⟨kb,tb,ub,ob,mb,gb⟩,B4,m4,d4,l5⟩:Rw).t from hlx),hsv,hxv] at hp
      rw [decide_eq_false hlx] at HLS
      by_cases he:tb=t
      ·skip
       rw [if_neg (fun h =>h he),List.nil_append] at hp
       have HPN:=yh hp
       have hune:=hun2 he
       clear hs hfs hdr hp hpi hzl hun1 hun2 he hsv hxv
       clear hlx
       go_wp2
       go_quiet ((go_at_call 74;exact Calls.quiet_of (HLS.out _)))
       go_wp2
       go_quiet (fail)
       go_wp2
       exact ⟨⟨i+1,zs,false,by omega,by go_num,rfl,HPN.out,by have:=HZL.out;omega,HPI.out.drewN _⟩,by simp [intOf];omega⟩
      ·skip
       rw [if_pos he,← List.append_assoc] at hp
       have HPN:=yh hp
       have hune:=hun1 he
       clear hs hfs hdr hp hpi hzl hun1 hun2 he hsv hxv
       clear hlx
       go_wp2
       go_quiet ((go_at_call 74;exact Calls.quiet_of (HLS.out _)))
       go_wp2
       go_quiet (fail)
       generalize hW:World.drewN (World.drewN wr _) _=w3
       have HPK:Hid (PutI w ⟨⟨1,t,u,o,m,g⟩,A4,n4,c4,l4⟩ w3 (.slice Ao zs.length co) (zs)):=by rw [← hW];exact (HPI.out.drewN _).drewN _
       obtain ⟨_,rfl,j0,j1,j2,j3,j4,j5,j6⟩:=HRD.out w3 HPK.out.2.2
       have r0:=zAA (i:=0) HPK.out.2.1 rfl
       have r1:=zAA (i:=1) HPK.out.2.1 rfl
       have r2:=zAA (i:=2) HPK.out.2.1 rfl
       have r3:=zAA (i:=3) HPK.out.2.1 rfl
       have r4:=zAA (i:=4) HPK.out.2.1 rfl
       have r5:=zAA (i:=5) HPK.out.2.1 rfl
       have r6:=zAA (i:=6) HPK.out.2.1 rfl
       clear hW
       go_wp2_with (at_builtin;refine zAQ _ rfl (.tmp 51) (.tmp 56) 23 rfl (w.heap.size+1) 37 i0 _ 7 88 Tryz.underlying23 ii0 iz0 iz1 iz2 rfl (by decide) _ (zs).length (rws (zs)) rfl (HPK.out.1.alloc _) (some ⟨w3.heap.size,0,none⟩) 1 1 (w3.heap.size+1) (rws [⟨⟨kb,tb,ub,ob,mb,gb⟩,B4,m4,d4,l5⟩]) rfl (by simp) (zBD w3 ⟨⟨kb,tb,ub,ob,mb,gb⟩,B4,m4,d4,l5⟩) (zBQ _) (by have:=HLEN.out;simp at this ⊢;unfold maxLen;omega) (by have:=HLEN.out;simp at this ⊢;omega) (by have:=HPK.out.base;simp;omega) ?_;intro v1 w6 ho hg;obtain ⟨v1A,v1c,rfl,_⟩:=zAL ho;have HPJ:=yh (zBM HPK.out ⟨⟨kb,tb,ub,ob,mb,gb⟩,B4,m4,d4,l5⟩ ho hg);have HPJQ1:=zAA (i:=1) HPJ.out.2.1 rfl;have HPJQ0:=zAA (i:=0) HPJ.out.2.1 rfl;have HPJQ2:=zAA (i:=2) HPJ.out.2.1 rfl;have HPJQ3:=zAA (i:=3) HPJ.out.2.1 rfl;have HPJQ4:=zAA (i:=4) HPJ.out.2.1 rfl;have HPJQ5:=zAA (i:=5) HPJ.out.2.1 rfl;have HPJQ6:=zAA (i:=6) HPJ.out.2.1 rfl;clear ho hg)
       exact ⟨⟨i+1,zs++[⟨⟨kb,tb,ub,ob,mb,gb⟩,B4,m4,d4,l5⟩],false,by omega,by go_num,rfl,HPN.out,by have:=HZL.out;simp;omega,HPJ.out⟩,by simp [intOf];omega⟩
   ·obtain rfl:i=n:=by omega
    have e0:S.drop i=[]:=List.drop_of_length_le (by rw [HL.out];omega)
    rw [e0] at hp
    clear e0
    cases laid with
    | true =>
     obtain ⟨A',c',hsl,hrc,hac,hbw⟩:=HEND.out wr _ zs hpi (by rw [← hp];exact (List.append_nil zs).symm)
     have HSL:=yh hsl
     have HRC:=yh hrc
     have HAC:=yh hac
     have HBW:=yh hbw
     clear hp hpi hzl hrc hac hbw hsl
     go_wp2
     go_ret
     exact ⟨A',c',congrArg Ending.returned HSL.out,HRC.out,HAC.out,HBW.out⟩
    | false =>
     have HPN:Hid (zs++[⟨⟨1,t,u,o,m,g⟩,A4,n4,c4,l4⟩]=P):=hp
     clear hp hpi hzl
     go_wp2_with (at_builtin;refine zAQ _ rfl (.tmp 60) (.tmp 62) 23 rfl (w.heap.size+1) 37 i0 _ 7 88 Tryz.underlying23 ii0 iz0 iz1 iz2 rfl (by decide) _ (zs).length (rws (zs)) rfl (HPI.out.1.alloc _) (some ⟨wr.heap.size,0,none⟩) 1 1 (wr.heap.size+1) (rws [⟨⟨1,t,u,o,m,g⟩,A4,n4,c4,l4⟩]) rfl (by simp) (zBD wr ⟨⟨1,t,u,o,m,g⟩,A4,n4,c4,l4⟩) (zBQ _) (by have:=HLEN.out;simp at this ⊢;unfold maxLen;omega) (by have:=HLEN.out;simp at this ⊢;omega) (by have:=HPI.out.base;simp;omega) ?_;intro v1 w6 ho hg;obtain ⟨v1A,v1c,rfl,_⟩:=zAL ho;have HPJ:=yh (zBM HPI.out ⟨⟨1,t,u,o,m,g⟩,A4,n4,c4,l4⟩ ho hg);have HPJQ1:=zAA (i:=1) HPJ.out.2.1 rfl;have HPJQ0:=zAA (i:=0) HPJ.out.2.1 rfl;have HPJQ2:=zAA (i:=2) HPJ.out.2.1 rfl;have HPJQ3:=zAA (i:=3) HPJ.out.2.1 rfl;have HPJQ4:=zAA (i:=4) HPJ.out.2.1 rfl;have HPJQ5:=zAA (i:=5) HPJ.out.2.1 rfl;have HPJQ6:=zAA (i:=6) HPJ.out.2.1 rfl;clear ho hg)
     obtain ⟨A',c',hsl,hrc,hac,hbw⟩:=HEND.out w6 _ _ HPJ.out HPN.out
     go_ret
     exact ⟨A',c',congrArg Ending.returned hsl,hrc,hac,hbw⟩
 by_cases hk2:x.r.kind=2
 ·have hP:([]:List Rw)++rput Rw.t x true (S.drop 0)=put1 Rw.k Rw.t S x:=by
   unfold put1
   rw [if_neg (show ¬ x.k=1 from hk1),if_pos (show x.k=2 from hk2)]
   rfl
  generalize put1 Rw.k Rw.t S x=P at *
  have HP:=yh hP
  obtain ⟨⟨k,t,u,o,m,g⟩,A4,n4,c4,l4⟩:=x
  simp only at hk2
  subst hk2
  unfold Rw.val rcv rsv
  unfold Rw.t at HXF
  simp only at HXF ⊢
  obtain ⟨h00,h01,hsz⟩:=zDK w (.cells #[.int .i64 2,.string (tx t),.int .u64 u,.slice A4 n4 c4,.int .u64 o,.int .u64 m,.string (tx g)] 37) (.cells #[] 37)
  have HPI0:Hid (PutI w ⟨⟨2,t,u,o,m,g⟩,A4,n4,c4,l4⟩ ((w.alloc (.cells #[.int .i64 2,.string (tx t),.int .u64 u,.slice A4 n4 c4,.int .u64 o,.int .u64 m,.string (tx g)] 37)).alloc (.cells #[] 37)) (.slice (some ⟨w.heap.size+1,0,none⟩) 0 0) []) :=
   ⟨(by have:=zHP (w.alloc (.cells #[.int .i64 2,.string (tx t),.int .u64 u,.slice A4 n4 c4,.int .u64 o,.int .u64 m,.string (tx g)] 37)) (w.heap.size+1) (by simp);simpa using this),h00,((Below.refl _ w).alloc (Nat.le_refl _) _).alloc (by simp) _⟩
  have b0:=zAI w (.cells #[.int .i64 2,.string (tx t),.int .u64 u,.slice A4 n4 c4,.int .u64 o,.int .u64 m,.string (tx g)] 37)
  have a0:=zAA (i:=0) b0 rfl
  have c0:=zAA (i:=0) h00 rfl
  clear hk1 h hf hx hr hA hP hl0 h00 h01 hsz b0
  have hkk:True:=trivial
  clear hkk
  go_enter Tryz.func44,Tryz.ntmps44
  go_wp2
  go_loopw [5,6,7] (fun va vl idx wr =>zKO w ⟨⟨2,t,u,o,m,g⟩,A4,n4,c4,l4⟩ S P n va vl idx wr) (fun _ _ idx _ =>n - (intOf idx).toNat)
  case atStart =>exact ⟨0,[],true,by omega,rfl,rfl,HP.out,by simp,HPI0.out⟩
  case round =>
   obtain ⟨i,zs,laid,hi,rfl,rfl,hp,hzl,hpi⟩:=hrel
   obtain ⟨Ao,co,rfl,_⟩:=zAL hpi.1
   have HPI:=yh hpi
   have HLEN:Hid (zs.length≤200000):=by show _≤_;omega
   have HZL:=yh hzl
   have p0:=zAA (i:=0) hpi.2.1 rfl
   have p1:=zAA (i:=1) hpi.2.1 rfl
   have p2:=zAA (i:=2) hpi.2.1 rfl
   have p3:=zAA (i:=3) hpi.2.1 rfl
   have p4:=zAA (i:=4) hpi.2.1 rfl
   have p5:=zAA (i:=5) hpi.2.1 rfl
   have p6:=zAA (i:=6) hpi.2.1 rfl
   by_cases hlt:i<n
   ·obtain ⟨s,hs⟩:∃ s,S[i]? = some s:=⟨_,List.getElem?_eq_getElem (by rw [HL.out];exact hlt)⟩
    have hfs:=HF.out s (List.mem_of_getElem? hs)
    obtain ⟨ad,rfl,_,k0,k1,k2,k3,k4,k5,k6⟩:=zAn (H1.out.below hpi.2.2).1 i s hs
    have HRD:Hid (∀ W,Below w.heap.size w W→∃ ad2:Addr,ad2=ad∧W.cell? (ad.add (i * 7))=some (.int .i64 s.r.kind)∧W.cell? ⟨(ad.add (i * 7)).block,(ad.add (i * 7)).off+1,none⟩=some (.string (tx s.r.target))∧W.cell? ⟨(ad.add (i * 7)).block,(ad.add (i * 7)).off+2,none⟩=some (.int .u64 s.r.rule)∧W.cell? ⟨(ad.add (i * 7)).block,(ad.add (i * 7)).off+3,none⟩=some (.slice s.A s.n s.c)∧W.cell? ⟨(ad.add (i * 7)).block,(ad.add (i * 7)).off+4,none⟩=some (.int .u64 s.r.out)∧W.cell? ⟨(ad.add (i * 7)).block,(ad.add (i * 7)).off+5,none⟩=some (.int .u64 s.r.time)∧W.cell? ⟨(ad.add (i * 7)).block,(ad.add (i * 7)).off+6,none⟩=some (.string (tx s.r.tag))):=fun W hW =>by
     obtain ⟨ad2,e,_,h⟩:=zAn (H1.out.below hW).1 i s hs
     obtain rfl:ad=ad2:=by injection e
     exact ⟨ad,rfl,h⟩
    have hdr:S.drop i=s :: S.drop (i+1):=by
     obtain ⟨h1,h2⟩:=List.getElem?_eq_some_iff.1 hs
     rw [← h2,List.getElem_cons_drop]
    have hi0:(0:Int)≤(i:Int):=by omega
    have hi1:(i:Int)<(n:Int):=by omega
    have HLS:=yh (fun W =>zET t s.t HXF.out hfs W)
    have hun1:s.t≠t→((tx s.t).toList == (tx t).toList)=false:=zAh
    have hun2:s.t=t→((tx s.t).toList == (tx t).toList)=true:=fun e =>by rw [e];exact zAj t
    obtain ⟨⟨kb,tb,ub,ob,mb,gb⟩,B4,m4,d4,l5⟩:=s
    unfold rsv at HLS
    unfold Rw.t at HLS hun1 hun2
    simp only at k0 k1 k2 k3 k4 k5 k6 HLS hun1 hun2 HRD
    have hsv:(⟨⟨kb,tb,ub,ob,mb,gb⟩,B4,m4,d4,l5⟩:Rw).t=tb:=rfl
    have hxv:(⟨⟨2,t,u,o,m,g⟩,A4,n4,c4,l4⟩:Rw).t=t:=rfl
    rw [hdr] at hp
    cases laid with
    | true =>
     rw [zDG,hsv,hxv] at hp
     by_cases he:tb=t
     ·skip
      rw [if_neg (fun h =>h he),List.nil_append] at hp
      have HPN:=yh hp
      have hune:=hun2 he
      clear hs hfs hdr hp hpi hzl hun1 hun2 he hsv hxv
      go_wp2
      go_quiet (fail)
      go_wp2
      go_quiet (fail)
      go_wp2
      exact ⟨⟨i+1,zs,true,by omega,by go_num,rfl,HPN.out,by have:=HZL.out;omega,HPI.out.drewN _⟩,by simp [intOf];omega⟩
     ·skip
      rw [if_pos he,← List.append_assoc] at hp
      have HPN:=yh hp
      have hune:=hun1 he
      clear hs hfs hdr hp hpi hzl hun1 hun2 he hsv hxv
      go_wp2
      go_quiet (fail)
      go_wp2
      go_quiet (fail)
      generalize hW:World.drewN (World.drewN wr _) _=w3
      have HPK:Hid (PutI w ⟨⟨2,t,u,o,m,g⟩,A4,n4,c4,l4⟩ w3 (.slice Ao zs.length co) (zs)):=by rw [← hW];exact (HPI.out.drewN _).drewN _
      obtain ⟨_,rfl,j0,j1,j2,j3,j4,j5,j6⟩:=HRD.out w3 HPK.out.2.2
      have r0:=zAA (i:=0) HPK.out.2.1 rfl
      have r1:=zAA (i:=1) HPK.out.2.1 rfl
      have r2:=zAA (i:=2) HPK.out.2.1 rfl
      have r3:=zAA (i:=3) HPK.out.2.1 rfl
      have r4:=zAA (i:=4) HPK.out.2.1 rfl
      have r5:=zAA (i:=5) HPK.out.2.1 rfl
      have r6:=zAA (i:=6) HPK.out.2.1 rfl
      clear hW
      go_wp2_with (at_builtin;refine zAQ _ rfl (.tmp 51) (.tmp 56) 23 rfl (w.heap.size+1) 37 i0 _ 7 88 Tryz.underlying23 ii0 iz0 iz1 iz2 rfl (by decide) _ (zs).length (rws (zs)) rfl (HPK.out.1.alloc _) (some ⟨w3.heap.size,0,none⟩) 1 1 (w3.heap.size+1) (rws [⟨⟨kb,tb,ub,ob,mb,gb⟩,B4,m4,d4,l5⟩]) rfl (by simp) (zBD w3 ⟨⟨kb,tb,ub,ob,mb,gb⟩,B4,m4,d4,l5⟩) (zBQ _) (by have:=HLEN.out;simp at this ⊢;unfold maxLen;omega) (by have:=HLEN.out;simp at this ⊢;omega) (by have:=HPK.out.base;simp;omega) ?_;intro v1 w6 ho hg;obtain ⟨v1A,v1c,rfl,_⟩:=zAL ho;have HPJ:=yh (zBM HPK.out ⟨⟨kb,tb,ub,ob,mb,gb⟩,B4,m4,d4,l5⟩ ho hg);have HPJQ1:=zAA (i:=1) HPJ.out.2.1 rfl;have HPJQ0:=zAA (i:=0) HPJ.out.2.1 rfl;have HPJQ2:=zAA (i:=2) HPJ.out.2.1 rfl;have HPJQ3:=zAA (i:=3) HPJ.out.2.1 rfl;have HPJQ4:=zAA (i:=4) HPJ.out.2.1 rfl;have HPJQ5:=zAA (i:=5) HPJ.out.2.1 rfl;have HPJQ6:=zAA (i:=6) HPJ.out.2.1 rfl;clear ho hg)
      exact ⟨⟨i+1,zs++[⟨⟨kb,tb,ub,ob,mb,gb⟩,B4,m4,d4,l5⟩],true,by omega,by go_num,rfl,HPN.out,by have:=HZL.out;simp;omega,HPJ.out⟩,by simp [intOf];omega⟩
    | false =>
     by_cases hlx:t<tb
     ·skip
      rw [zDF (x:=⟨⟨2,t,u,o,m,g⟩,A4,n4,c4,l4⟩) (s:=⟨⟨kb,tb,ub,ob,mb,gb⟩,B4,m4,d4,l5⟩) _ hlx,List.append_cons,List.append_cons] at hp
      have HPN:=yh hp
      have he:tb≠t:=fun e =>zDY hlx e.symm
      have hune:=hun1 he
      rw [decide_eq_true hlx] at HLS
      clear hs hfs hdr hp hpi hzl hun1 hun2 he hsv hxv
      clear hlx
      go_wp2
      go_quiet ((go_at_call 74;exact Calls.quiet_of (HLS.out _)))
      generalize hW:World.drewN wr _=w3
      have HPK:Hid (PutI w ⟨⟨2,t,u,o,m,g⟩,A4,n4,c4,l4⟩ w3 (.slice Ao zs.length co) (zs)):=by rw [← hW];exact HPI.out.drewN _
      obtain ⟨_,rfl,j0,j1,j2,j3,j4,j5,j6⟩:=HRD.out w3 HPK.out.2.2
      have r0:=zAA (i:=0) HPK.out.2.1 rfl
      have r1:=zAA (i:=1) HPK.out.2.1 rfl
      have r2:=zAA (i:=2) HPK.out.2.1 rfl
      have r3:=zAA (i:=3) HPK.out.2.1 rfl
      have r4:=zAA (i:=4) HPK.out.2.1 rfl
      have r5:=zAA (i:=5) HPK.out.2.1 rfl
      have r6:=zAA (i:=6) HPK.out.2.1 rfl
      clear hW
      go_wp2_with (at_builtin;refine zAQ _ rfl (.tmp 39) (.tmp 41) 23 rfl (w.heap.size+1) 37 i0 _ 7 88 Tryz.underlying23 ii0 iz0 iz1 iz2 rfl (by decide) _ (zs).length (rws (zs)) rfl (HPK.out.1.alloc _) (some ⟨w3.heap.size,0,none⟩) 1 1 (w3.heap.size+1) (rws [⟨⟨2,t,u,o,m,g⟩,A4,n4,c4,l4⟩]) rfl (by simp) (zBD w3 ⟨⟨2,t,u,o,m,g⟩,A4,n4,c4,l4⟩) (zBQ _) (by have:=HLEN.out;simp at this ⊢;unfold maxLen;omega) (by have:=HLEN.out;simp at this ⊢;omega) (by have:=HPK.out.base;simp;omega) ?_;intro v1 w6 ho hg;obtain ⟨v1A,v1c,rfl,_⟩:=zAL ho;have HPJ:=yh (zBM HPK.out ⟨⟨2,t,u,o,m,g⟩,A4,n4,c4,l4⟩ ho hg);have HPJQ1:=zAA (i:=1) HPJ.out.2.1 rfl;have HPJQ0:=zAA (i:=0) HPJ.out.2.1 rfl;have HPJQ2:=zAA (i:=2) HPJ.out.2.1 rfl;have HPJQ3:=zAA (i:=3) HPJ.out.2.1 rfl;have HPJQ4:=zAA (i:=4) HPJ.out.2.1 rfl;have HPJQ5:=zAA (i:=5) HPJ.out.2.1 rfl;have HPJQ6:=zAA (i:=6) HPJ.out.2.1 rfl;clear ho hg)
      obtain ⟨_,rfl,l0,l1,l2,l3,l4x,l5x,l6⟩:=HRD.out w6 HPJ.out.2.2
      go_quiet (fail)
      generalize hW:World.drewN w6 _=w7
      have HPL:Hid (PutI w ⟨⟨2,t,u,o,m,g⟩,A4,n4,c4,l4⟩ w7 (.slice v1A (zs.length+1) v1c) (zs++[(⟨⟨2,t,u,o,m,g⟩,A4,n4,c4,l4⟩:Rw)])):=by rw [← hW];exact HPJ.out.drewN _
      obtain ⟨_,rfl,i0x,i1x,i2x,i3x,i4x,i5x,i6x⟩:=HRD.out w7 HPL.out.2.2
      have s0:=zAA (i:=0) HPL.out.2.1 rfl
      have s1:=zAA (i:=1) HPL.out.2.1 rfl
      have s2:=zAA (i:=2) HPL.out.2.1 rfl
      have s3:=zAA (i:=3) HPL.out.2.1 rfl
      have s4:=zAA (i:=4) HPL.out.2.1 rfl
      have s5:=zAA (i:=5) HPL.out.2.1 rfl
      have s6:=zAA (i:=6) HPL.out.2.1 rfl
      clear hW
      go_wp2_with (at_builtin;refine zAQ _ rfl (.tmp 51) (.tmp 56) 23 rfl (w.heap.size+1) 37 i0 _ 7 88 Tryz.underlying23 ii0 iz0 iz1 iz2 rfl (by decide) _ (zs++[(⟨⟨2,t,u,o,m,g⟩,A4,n4,c4,l4⟩:Rw)]).length (rws (zs++[(⟨⟨2,t,u,o,m,g⟩,A4,n4,c4,l4⟩:Rw)])) rfl (HPL.out.1.alloc _) (some ⟨w7.heap.size,0,none⟩) 1 1 (w7.heap.size+1) (rws [⟨⟨kb,tb,ub,ob,mb,gb⟩,B4,m4,d4,l5⟩]) rfl (by simp) (zBD w7 ⟨⟨kb,tb,ub,ob,mb,gb⟩,B4,m4,d4,l5⟩) (zBQ _) (by have:=HLEN.out;simp at this ⊢;unfold maxLen;omega) (by have:=HLEN.out;simp at this ⊢;omega) (by have:=HPL.out.base;simp;omega) ?_;intro v2 w8 ho hg;obtain ⟨v2A,v2c,rfl,_⟩:=zAL ho;have HPM:=yh (zBM HPL.out ⟨⟨kb,tb,ub,ob,mb,gb⟩,B4,m4,d4,l5⟩ ho hg);have HPMQ1:=zAA (i:=1) HPM.out.2.1 rfl;have HPMQ0:=zAA (i:=0) HPM.out.2.1 rfl;have HPMQ2:=zAA (i:=2) HPM.out.2.1 rfl;have HPMQ3:=zAA (i:=3) HPM.out.2.1 rfl;have HPMQ4:=zAA (i:=4) HPM.out.2.1 rfl;have HPMQ5:=zAA (i:=5) HPM.out.2.1 rfl;have HPMQ6:=zAA (i:=6) HPM.out.2.1 rfl;clear ho hg)
      exact ⟨⟨i+1,zs++[(⟨⟨2,t,u,o,m,g⟩,A4,n4,c4,l4⟩:Rw)]++[(⟨⟨kb,tb,ub,ob,mb,gb⟩,B4,m4,d4,l5⟩:Rw)],true,by omega,by go_num,rfl,HPN.out,by have:=HZL.out;simp;omega,by have h:=HPM.out;simp only [List.length_append,List.length_singleton] at h;exact h⟩,by simp [intOf];omega⟩
     ·rw [zDi _ (show ¬ (⟨⟨2,t,u,o,m,g⟩,A4,n4,c4,l4⟩:Rw).t<(⟨⟨kb,tb,ub,ob,mb,gb⟩,B4,m4,d4,l5⟩:Rw).t from hlx),hsv,hxv] at hp
      rw [decide_eq_false hlx] at HLS
      by_cases he:tb=t
      ·skip
       rw [if_neg (fun h =>h he),List.nil_append] at hp
       have HPN:=yh hp
       have hune:=hun2 he
       clear hs hfs hdr hp hpi hzl hun1 hun2 he hsv hxv
       clear hlx
       go_wp2
       go_quiet ((go_at_call 74;exact Calls.quiet_of (HLS.out _)))
       go_wp2
       go_quiet (fail)
       go_wp2
       exact ⟨⟨i+1,zs,false,by omega,by go_num,rfl,HPN.out,by have:=HZL.out;omega,HPI.out.drewN _⟩,by simp [intOf];omega⟩
      ·skip
       rw [if_pos he,← List.append_assoc] at hp
       have HPN:=yh hp
       have hune:=hun1 he
       clear hs hfs hdr hp hpi hzl hun1 hun2 he hsv hxv
       clear hlx
       go_wp2
       go_quiet ((go_at_call 74;exact Calls.quiet_of (HLS.out _)))
       go_wp2
       go_quiet (fail)
       generalize hW:World.drewN (World.drewN wr _) _=w3
       have HPK:Hid (PutI w ⟨⟨2,t,u,o,m,g⟩,A4,n4,c4,l4⟩ w3 (.slice Ao zs.length co) (zs)):=by rw [← hW];exact (HPI.out.drewN _).drewN _
       obtain ⟨_,rfl,j0,j1,j2,j3,j4,j5,j6⟩:=HRD.out w3 HPK.out.2.2
       have r0:=zAA (i:=0) HPK.out.2.1 rfl
       have r1:=zAA (i:=1) HPK.out.2.1 rfl
       have r2:=zAA (i:=2) HPK.out.2.1 rfl
       have r3:=zAA (i:=3) HPK.out.2.1 rfl
       have r4:=zAA (i:=4) HPK.out.2.1 rfl
       have r5:=zAA (i:=5) HPK.out.2.1 rfl
       have r6:=zAA (i:=6) HPK.out.2.1 rfl
       clear hW
       go_wp2_with (at_builtin;refine zAQ _ rfl (.tmp 51) (.tmp 56) 23 rfl (w.heap.size+1) 37 i0 _ 7 88 Tryz.underlying23 ii0 iz0 iz1 iz2 rfl (by decide) _ (zs).length (rws (zs)) rfl (HPK.out.1.alloc _) (some ⟨w3.heap.size,0,none⟩) 1 1 (w3.heap.size+1) (rws [⟨⟨kb,tb,ub,ob,mb,gb⟩,B4,m4,d4,l5⟩]) rfl (by simp) (zBD w3 ⟨⟨kb,tb,ub,ob,mb,gb⟩,B4,m4,d4,l5⟩) (zBQ _) (by have:=HLEN.out;simp at this ⊢;unfold maxLen;omega) (by have:=HLEN.out;simp at this ⊢;omega) (by have:=HPK.out.base;simp;omega) ?_;intro v1 w6 ho hg;obtain ⟨v1A,v1c,rfl,_⟩:=zAL ho;have HPJ:=yh (zBM HPK.out ⟨⟨kb,tb,ub,ob,mb,gb⟩,B4,m4,d4,l5⟩ ho hg);have HPJQ1:=zAA (i:=1) HPJ.out.2.1 rfl;have HPJQ0:=zAA (i:=0) HPJ.out.2.1 rfl;have HPJQ2:=zAA (i:=2) HPJ.out.2.1 rfl;have HPJQ3:=zAA (i:=3) HPJ.out.2.1 rfl;have HPJQ4:=zAA (i:=4) HPJ.out.2.1 rfl;have HPJQ5:=zAA (i:=5) HPJ.out.2.1 rfl;have HPJQ6:=zAA (i:=6) HPJ.out.2.1 rfl;clear ho hg)
       exact ⟨⟨i+1,zs++[⟨⟨kb,tb,ub,ob,mb,gb⟩,B4,m4,d4,l5⟩],false,by omega,by go_num,rfl,HPN.out,by have:=HZL.out;simp;omega,HPJ.out⟩,by simp [intOf];omega⟩
   ·obtain rfl:i=n:=by omega
    have e0:S.drop i=[]:=List.drop_of_length_le (by rw [HL.out];omega)
    rw [e0] at hp
    clear e0
    cases laid with
    | true =>
     obtain ⟨A',c',hsl,hrc,hac,hbw⟩:=HEND.out wr _ zs hpi (by rw [← hp];exact (List.append_nil zs).symm)
     have HSL:=yh hsl
     have HRC:=yh hrc
     have HAC:=yh hac
     have HBW:=yh hbw
     clear hp hpi hzl hrc hac hbw hsl
     go_wp2
     go_ret
     exact ⟨A',c',congrArg Ending.returned HSL.out,HRC.out,HAC.out,HBW.out⟩
    | false =>
     have HPN:Hid (zs++[⟨⟨2,t,u,o,m,g⟩,A4,n4,c4,l4⟩]=P):=hp
     clear hp hpi hzl
     go_wp2_with (at_builtin;refine zAQ _ rfl (.tmp 60) (.tmp 62) 23 rfl (w.heap.size+1) 37 i0 _ 7 88 Tryz.underlying23 ii0 iz0 iz1 iz2 rfl (by decide) _ (zs).length (rws (zs)) rfl (HPI.out.1.alloc _) (some ⟨wr.heap.size,0,none⟩) 1 1 (wr.heap.size+1) (rws [⟨⟨2,t,u,o,m,g⟩,A4,n4,c4,l4⟩]) rfl (by simp) (zBD wr ⟨⟨2,t,u,o,m,g⟩,A4,n4,c4,l4⟩) (zBQ _) (by have:=HLEN.out;simp at this ⊢;unfold maxLen;omega) (by have:=HLEN.out;simp at this ⊢;omega) (by have:=HPI.out.base;simp;omega) ?_;intro v1 w6 ho hg;obtain ⟨v1A,v1c,rfl,_⟩:=zAL ho;have HPJ:=yh (zBM HPI.out ⟨⟨2,t,u,o,m,g⟩,A4,n4,c4,l4⟩ ho hg);have HPJQ1:=zAA (i:=1) HPJ.out.2.1 rfl;have HPJQ0:=zAA (i:=0) HPJ.out.2.1 rfl;have HPJQ2:=zAA (i:=2) HPJ.out.2.1 rfl;have HPJQ3:=zAA (i:=3) HPJ.out.2.1 rfl;have HPJQ4:=zAA (i:=4) HPJ.out.2.1 rfl;have HPJQ5:=zAA (i:=5) HPJ.out.2.1 rfl;have HPJQ6:=zAA (i:=6) HPJ.out.2.1 rfl;clear ho hg)
     obtain ⟨A',c',hsl,hrc,hac,hbw⟩:=HEND.out w6 _ _ HPJ.out HPN.out
     go_ret
     exact ⟨A',c',congrArg Ending.returned hsl,hrc,hac,hbw⟩
 ·have hP:put1 Rw.k Rw.t S x=S:=by
   unfold put1
   rw [if_neg (show ¬ x.k=1 from hk1),if_neg (show ¬ x.k=2 from hk2)]
  rw [hP,hl0]
  have d1:(x.r.kind != 1)=true:=by rw [bne_iff_ne];exact hk1
  have d2:(x.r.kind != 2)=true:=by rw [bne_iff_ne];exact hk2
  have HB:=yh ((Below.refl w.heap.size w).alloc (Nat.le_refl _) (.cells #[.int .i64 x.r.kind,.string (tx x.r.target),.int .u64 x.r.rule,.slice x.A x.n x.c,.int .u64 x.r.out,.int .u64 x.r.time,.string (tx x.r.tag)] 37))
  have HR2:=yh ((h.below HB.out).more HB.out.size)
  have b0:=zAI w (.cells #[.int .i64 x.r.kind,.string (tx x.r.target),.int .u64 x.r.rule,.slice x.A x.n x.c,.int .u64 x.r.out,.int .u64 x.r.time,.string (tx x.r.tag)] 37)
  have HAH:=yh hA
  obtain ⟨⟨k,t,u,o,m,g⟩,A4,n4,c4,l4⟩:=x
  unfold Rw.val rcv rsv
  simp only at d1 d2 HB HR2 b0 ⊢
  have a0:=zAA (i:=0) b0 rfl
  clear h hf hx hr hA hP b0 hk1 hk2 hl0 HEND H1 HL HF HXF
  go_enter Tryz.func44,Tryz.ntmps44
  go_wp2
  go_ret
  exact ⟨A,c,rfl,HR2.out,HAH.out,HB.out⟩
end Go.Proofs.YtgoklhoaedceaaaGreatDoor
