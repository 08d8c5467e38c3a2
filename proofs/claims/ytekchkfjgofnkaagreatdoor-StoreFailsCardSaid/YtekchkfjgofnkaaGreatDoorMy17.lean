/- Texts of one proof. -/
import Derived.Test.YtekchkfjgofnkaaGreatDoorMy16
set_option maxRecDepth 100000
set_option maxHeartbeats 8000000
namespace Go.Proofs.YtekchkfjgofnkaaGreatDoor
open Go.RowKit
def PlsC (w:World) (B:Nat) (A:Option Addr) (n c:Nat) (ps:List (List UInt8)):Prop :=
 n≤c∧ps.length=n∧∃ vs,zAD w B 1 A n vs∧∀ (i:Nat) (p:List UInt8),ps[i]? = some p→∃ (A':Option Addr) (c':Nat),vs[i]? = some (.slice A' p.length c')∧p.length≤c'∧zAD w B 1 A' p.length (p.map bv)
theorem PlsC.below {w w':World} {B:Nat} {A:Option Addr} {n c:Nat} {ps:List (List UInt8)} (h:PlsC w B A n c ps) (hb:Below B w w'):PlsC w' B A n c ps:=by
 obtain ⟨h0,h2,vs,h1,h3⟩:=h
 refine ⟨h0,h2,vs,h1.below hb,fun i p hp =>?_⟩
 obtain ⟨A',c',h4,h5,h6⟩:=h3 i p hp
 exact ⟨A',c',h4,h5,h6.below hb⟩
theorem PlsC.more {w:World} {B B':Nat} {A:Option Addr} {n c:Nat} {ps:List (List UInt8)} (h:PlsC w B A n c ps) (hB:B≤B'):PlsC w B' A n c ps:=by
 obtain ⟨h0,h2,vs,h1,h3⟩:=h
 refine ⟨h0,h2,vs,h1.more hB,fun i p hp =>?_⟩
 obtain ⟨A',c',h4,h5,h6⟩:=h3 i p hp
 exact ⟨A',c',h4,h5,h6.more hB⟩
def PlsT (w:World) (B:Nat) (S:Nat→Prop) (A:Option Addr) (n c:Nat) (ps:List (List UInt8)):Prop :=
 n≤c∧ps.length=n∧∃ vs,zAD w B 1 A n vs∧(∀ ad,A=some ad→0<n→¬ S ad.block)∧∀ (i:Nat) (p:List UInt8),ps[i]? = some p→∃ (A':Option Addr) (c':Nat),vs[i]? = some (.slice A' p.length c')∧p.length≤c'∧zAD w B 1 A' p.length (p.map bv)∧(∀ ad,A'=some ad→0<p.length→¬ S ad.block)
theorem PlsT.less {w:World} {B:Nat} {S:Nat→Prop} {A:Option Addr} {n c:Nat} {ps:List (List UInt8)} (h:PlsT w B S A n c ps):PlsC w B A n c ps:=by
 obtain ⟨h0,h2,vs,h1,_,h3⟩:=h
 refine ⟨h0,h2,vs,h1,fun i p hp =>?_⟩
 obtain ⟨A',c',h4,h5,h6,_⟩:=h3 i p hp
 exact ⟨A',c',h4,h5,h6⟩
theorem PlsT.turn {w w':World} {B:Nat} {S:Nat→Prop} {A:Option Addr} {n c:Nat} {ps:List (List UInt8)} (h:PlsT w B S A n c ps) (ht:Turn S w w') (hB:B≤w.heap.size):PlsT w' B S A n c ps:=by
 obtain ⟨h0,h2,vs,h1,ha,h3⟩:=h
 refine ⟨h0,h2,vs,zCO h1 ha ht hB,ha,fun i p hp =>?_⟩
 obtain ⟨A',c',h4,h5,h6,h7⟩:=h3 i p hp
 exact ⟨A',c',h4,h5,zCO h6 h7 ht hB,h7⟩
theorem PlsT.wide {w:World} {B:Nat} {S S2:Nat→Prop} {A:Option Addr} {n c:Nat} {ps:List (List UInt8)} (h:PlsT w B S A n c ps) (hs:∀ k,k<B→S2 k→S k):PlsT w B S2 A n c ps:=by
 obtain ⟨h0,h2,vs,h1,ha,h3⟩:=h
 have lt:∀ {A:Option Addr} {n:Nat} {xs:List Value},zAD w B 1 A n xs→∀ ad,A=some ad→0<n→ad.block<B:=fun h ad e hn =>by
  obtain ⟨ad',e',h4,_⟩:=h.2 hn
  obtain rfl:ad=ad':=Option.some.inj (e.symm.trans e')
  exact h4
 refine ⟨h0,h2,vs,h1,fun ad e hn h =>ha ad e hn (hs _ (lt h1 ad e hn) h),fun i p hp =>?_⟩
 obtain ⟨A',c',h4,h5,h6,h7⟩:=h3 i p hp
 exact ⟨A',c',h4,h5,h6,fun ad e hn h =>h7 ad e hn (hs _ (lt h6 ad e hn) h)⟩
def zQQ (S:Nat→Prop) (bt N:Nat) (tl ts:List (List UInt8)) (w1:World) (idx:Value) (wr:World):Prop :=
 ∃ (i:Nat) (S':Nat→Prop),i≤ts.length∧idx=.int .i64 (i:Int)∧Tab wr S' bt (N+i) (((ts.take i).map List.tail).foldl tput tl)∧(∀ k,S' k→k<wr.heap.size∧(S k∨w1.heap.size≤k))∧Turn S w1 wr
def zRt (fn:Nat) (ver:Int) (bt N:Nat) (tl:List (List UInt8)) (F:Rst→Rst):Prop :=
 ∀ (S T:Nat→Prop) (brd bc brr B:Nat) (s:Rst) (w:World),s.l.length≤1000→RE w S T brd bc brr B→RT w S T brd bt bc brr B N ver tl s→Calls Tryz.prog fn #[.pointer (some ⟨brd,0,none⟩),.pointer (some ⟨brr,0,none⟩)] w fun e w' =>e=.returned (.tuple #[])∧RT w' S T brd bt bc brr B N ver tl (F s)∧Turn S w w'
def zBB (fl:List (Nat×(Rst→Rst))) (s:Rst):Rst:=fl.foldl (fun s f =>f.2 s) s
theorem zKa {fl:List (Nat×(Rst→Rst))} {i:Nat} {f:Nat×(Rst→Rst)} (h:fl[i]? = some f) (s:Rst):zBB (fl.take (i+1)) s=f.2 (zBB (fl.take i) s):=by
 unfold zBB
 rw [List.take_add_one,h,List.foldl_append];rfl
theorem zMB {fl:List (Nat×(Rst→Rst))} (h:∀ f ∈ fl,∀ s,(f.2 s).l.length≤s.l.length+16) (s:Rst):(zBB fl s).l.length≤s.l.length+16 * fl.length:=by
 unfold zBB
 induction fl generalizing s with
 | nil =>simp
 | cons a fl ih =>
  have h1:=ih (fun f hf =>h f (by simp [hf])) (a.2 s)
  have h2:=h a (by simp) s
  simp only [List.foldl_cons,List.length_cons]
  omega
def zSn (S T:Nat→Prop) (brd bt bc brr N:Nat) (ver:Int) (tl:List (List UInt8)) (fl:List (Nat×(Rst→Rst))) (s0:Rst) (w6:World) (idx:Value) (wr:World):Prop :=
 ∃ i:Nat,i≤fl.length∧idx=.int .i64 (i:Int)∧RT wr S T brd bt bc brr bc N ver tl (zBB (fl.take i) s0)∧Turn S w6 wr
theorem zMQ (S:Nat→Prop) (bt B N n c:Nat) (ver:Int) (tl ts:List (List UInt8)) (p:List UInt8) (A:Option Addr) (hts:∀ t ∈ ts,t≠[]∧t.length≤1000000) (hp:p.length≤1000000) (hn:ts.length+1=n) (hn2:n≤100000) (htl:tl.length≤900000000) (hN:N≤900000000) (w:World) (hB:B≤w.heap.size) (hT:Tab w S bt N tl) (hr:PlsT w B S A n c (ts++[p]))
    (tl1:List (List UInt8)) (htl1:tl1=(ts.map List.tail).foldl tput tl) (fl:List (Nat×(Rst→Rst))) (hfl:fl.length≤6) (hnm:∀ f ∈ fl,f.1=140∨f.1=141∨f.1=142∨f.1=143∨f.1=144∨f.1=145) (hgrow:∀ f ∈ fl,∀ s,(f.2 s).l.length≤s.l.length+16)
    (HOF:Hid (∀ (P:Value) (W:World),Calls Tryz.prog 146 #[.agg #[.func (.func 140) #[P] #[],.func (.func 141) #[P] #[],.func (.func 142) #[P] #[],.func (.func 143) #[P] #[],.func (.func 144) #[P] #[],.func (.func 145) #[P] #[]],.int .i64 ver,.int .i64 ((Cu.new p 0).byte.1.toNat:Int)] W fun e w' =>∃ v,e=.returned v∧w'.ownsRow (W.heap.size+1) 203 1 v fl.length (fl.map fun f =>.func (.func f.1) #[P] #[])∧Below W.heap.size W w'))
    (HRD:Hid (∀ f ∈ fl,zRt f.1 ver bt (N+ts.length) tl1 f.2)) :
    Calls Tryz.prog 116 #[.int .i64 ver,.pointer (some ⟨bt,0,none⟩),.slice A n c] w fun e w' =>∃ (A':Option Addr) (n' c':Nat) (S':Nat→Prop),e=.returned (rcv (zBB fl (zAY p)).r A' n' c')∧Deps w' w.heap.size A' n' c' (zBB fl (zAY p)).l∧(∀ ad,A'=some ad→¬ S' ad.block)∧Tab w' S' bt (N+ts.length) tl1∧(∀ k,S' k→k<w'.heap.size∧(S k∨w.heap.size≤k))∧Turn S w w':=by
  have h0:=zAE w (.cells #[.int .i64 0,.string ⟨#[]⟩,.int .u64 0,.slice none 0 0,.int .u64 0,.int .u64 0,.string ⟨#[]⟩] 41)
  have hz:(w.alloc (.cells #[.int .i64 0,.string ⟨#[]⟩,.int .u64 0,.slice none 0 0,.int .u64 0,.int .u64 0,.string ⟨#[]⟩] 41)).heap.size=w.heap.size+1:=by simp
  have hb0:=(Below.refl w.heap.size w).alloc (Nat.le_refl _) (.cells #[.int .i64 0,.string ⟨#[]⟩,.int .u64 0,.slice none 0 0,.int .u64 0,.int .u64 0,.string ⟨#[]⟩] 41)
  obtain ⟨hnc,_,vs,hrv,hap0,hps⟩:=hr
  have HRV:=yh hrv
  have HPS:=yh hps
  obtain ⟨m,hm⟩:∃ m,m=ts.length:=⟨_,rfl⟩
  have hnm1:(n:Int) - 1=(m:Int):=by omega
  have hmn:m+1=n:=by omega
  have HM:=yh hm
  have HTAB:=yh hT
  have HZ:=yh hz
  have HB0:=yh hb0
  have HA0:=yh h0
  have HAP0:=yh hap0
  have HBW:=yh hB
  have HTL1:=yh htl1
  have HTS:=yh hts
  have HPL:=yh hp
  have HTLL:=yh htl
  have HNN:=yh hN
  have HNM:=yh hnm
  have HGR:=yh hgrow
  obtain ⟨mf,hmf⟩:∃ mf,mf=fl.length:=⟨_,rfl⟩
  have HMF:=yh hmf
  rw [← hmf] at HOF hfl
  obtain ⟨ad,rfl,hab,hcx⟩:=HRV.out.2 (by omega)
  clear h0 hz hb0 hrv hap0 hps hT hn hm hB htl1 hts hp htl hN hnm hgrow hmf hcx
  go_enter Tryz.func116,Tryz.ntmps116
  go_wp2_with fail
  go_loopw [22] (fun idx wr =>zQQ (fun k =>S k∧k<w.heap.size) bt N tl ts (w.alloc (.cells #[.int .i64 0,.string ⟨#[]⟩,.int .u64 0,.slice none 0 0,.int .u64 0,.int .u64 0,.string ⟨#[]⟩] 41)) idx wr) (fun idx wr =>m - (intOf idx).toNat)
  case atStart =>
    exact ⟨0,fun k =>S k∧k<w.heap.size,by omega,rfl,(HTAB.out.wide (fun k a b =>⟨a,b⟩)).keep (fun k hk _ =>HB0.out.block k hk.2),fun k hk =>⟨by have:=HZ.out;omega,.inl hk⟩,Turn.refl _ _⟩
  case round =>
    obtain ⟨i,S',hi,rfl,ht,hs',htu⟩:=hrel
    rw [← HM.out] at hi
    have hbw:Turn S w wr:=(Turn.of_below HB0.out).trans htu (fun k _ h =>h.1)
    by_cases hlt:i<m
    · obtain ⟨t,hti⟩:∃ t,ts[i]? = some t:=⟨_,List.getElem?_eq_getElem (by rw [← HM.out];exact hlt)⟩
      have htp:(ts++[p])[i]? = some t:=by rw [List.getElem?_append_left (by rw [← HM.out];exact hlt)];exact hti
      obtain ⟨A4,c4,hv4,hc4,hr4,hap4⟩:=HPS.out i t htp
      obtain ⟨hte,htl⟩:=HTS.out t (List.mem_of_getElem? hti)
      obtain ⟨ad',hae,_,hcx⟩:=(zCO HRV.out HAP0.out hbw HBW.out).2 (by omega)
      obtain rfl:ad=ad':=Option.some.inj hae
      have k0:=hcx i _ hv4
      have hr5:=zCO hr4 hap4 hbw HBW.out
      obtain ⟨x,t',rfl⟩:∃ x t',t=x :: t':=by
        cases t with
        | nil =>exact absurd rfl hte
        | cons x t' =>exact ⟨x,t',rfl⟩
      obtain ⟨kl,hkl⟩:∃ kl,kl=t'.length:=⟨_,rfl⟩
      obtain ⟨cc,hcc⟩:∃ cc,c4=cc+1:=⟨c4 - 1,by simp at hc4;omega⟩
      subst hcc
      obtain ⟨ad4,rfl,_,_⟩:=hr5.2 (by simp)
      have htk:((ts.take (i+1)).map List.tail).foldl tput tl=tput (((ts.take i).map List.tail).foldl tput tl) t':=by rw [List.take_add_one,hti,List.map_append,List.foldl_append];rfl
      have hlen:=zBc ((ts.take i).map List.tail) tl
      rw [List.length_map,List.length_take] at hlen
      have hid:=zFb S' bt (N+i) _ t' (by unfold maxLen;simp at htl;omega) (by have:=HTLL.out;omega) (by have:=HNN.out;omega) wr ht
      unfold tsv at hid
      generalize (!decide (t' ∈ ((ts.take i).map List.tail).foldl tput tl))=q at hid
      have HID:=yh hid
      have HTK:=yh htk
      have BEH:Hid (∀ w6,Tab w6 (fun k =>S' k∨wr.heap.size≤k) bt (N+i+1) (tput (((ts.take i).map List.tail).foldl tput tl) t')→Turn S' wr w6→zQQ (fun k =>S k∧k<w.heap.size) bt N tl ts (w.alloc (.cells #[.int .i64 0,.string ⟨#[]⟩,.int .u64 0,.slice none 0 0,.int .u64 0,.int .u64 0,.string ⟨#[]⟩] 41)) (.int .i64 ((i+1:Nat):Int)) w6):=fun w6 h1 h2 =>by
        refine ⟨i+1,fun k =>(S' k∨wr.heap.size≤k)∧k<w6.heap.size,by rw [← HM.out];omega,rfl,by rw [HTK.out];exact h1.wide (fun k a b =>⟨a,b⟩),fun k hk =>⟨hk.2,?_⟩,htu.trans h2 (fun k h3 h4 =>?_)⟩
        · rcases hk.1 with h3 | h3
          · exact (hs' k h3).2
          · exact .inr (by have:=htu.2.2.2.1;omega)
        · rcases (hs' k h4).2 with h5 | h5
          · exact h5
          · omega
      have hi0:(0:Int)≤(i:Int):=by omega
      have hi1:(i:Int)<(m:Int):=by omega
      have hr6:=(show zAD wr B 1 (some ad4) (t'.length+1) ((x :: t').map bv) from hr5).cut (cap:=cc+1) (k:=1) (by omega) (by simp at hc4;omega)
      rw [Nat.mul_one,List.map_cons,List.drop_one,List.tail_cons,Nat.add_sub_cancel] at hr6
      simp only [List.length_cons] at k0 hc4
      rw [← hkl] at k0 hc4 hr6
      by_cases hcc0:cc=0
      · subst hcc0
        have hk0:kl=0:=by omega
        subst hk0
        rw [if_pos rfl] at hr6
        have hcv:(convert 59 9 (.slice (some ad4) 0 0)).run Tryz.prog wr=.ok (.string (tx t')) wr:=zBV Tryz.underlying59 Tryz.underlying5 Tryz.underlying9 hr6
        clear hr6 hr5 hap4 hr4 hcx hti htp htk hlen hid ht hs' htu hbw hte htl hv4 hkl
        go_wp2_with (go_at_call 107;refine HID.out.mono ?_;rintro e w6 ⟨rfl,ht6,htu6⟩;have HB:=yh (BEH.out w6 ht6 htu6);clear ht6 htu6)
        exact ⟨by first | exact HB.out | (have:=HB.out;push_cast at this;simpa using this),by simp [intOf];omega⟩
      · rw [if_neg (by omega)] at hr6
        replace hr6:zAD wr B 1 (some ⟨ad4.block,ad4.off+1,none⟩) kl (t'.map bv):=hr6
        have hcv:(convert 59 9 (.slice (some ⟨ad4.block,ad4.off+1,none⟩) kl cc)).run Tryz.prog wr=.ok (.string (tx t')) wr:=zBV Tryz.underlying59 Tryz.underlying5 Tryz.underlying9 hr6
        clear hr6 hr5 hap4 hr4 hcx hti htp htk hlen hid ht hs' htu hbw hte htl hv4 hkl
        go_wp2_with (go_at_call 107;refine HID.out.mono ?_;rintro e w6 ⟨rfl,ht6,htu6⟩;have HB:=yh (BEH.out w6 ht6 htu6);clear ht6 htu6)
        exact ⟨by first | exact HB.out | (have:=HB.out;push_cast at this;simpa using this),by simp [intOf];omega⟩
    · obtain rfl:i=m:=by omega
      obtain ⟨w2,hw2⟩:∃ x,x=wr:=⟨wr,rfl⟩
      subst hw2
      have hpp:(ts++[p])[i]? = some p:=by rw [HM.out,List.getElem?_append_right (Nat.le_refl _),Nat.sub_self];rfl
      obtain ⟨A4,c4,hv4,hc4,hr4,hap4⟩:=HPS.out i p hpp
      obtain ⟨ad',hae,_,hcx⟩:=(zCO HRV.out HAP0.out hbw HBW.out).2 (by omega)
      obtain rfl:ad=ad':=Option.some.inj hae
      have k0:=hcx i _ hv4
      have hr5:=(zCO hr4 hap4 hbw HBW.out).more (show B≤w2.heap.size from Nat.le_trans HBW.out (by have:=htu.2.2.2.1;have:=HZ.out;omega))
      have HNEW:=yh (zRI A4 p.length c4 0 p HPL.out w2 hr5)
      obtain ⟨lp,hlp⟩:∃ lp,lp=p.length:=⟨_,rfl⟩
      rw [← hlp] at HNEW k0 hc4
      obtain ⟨kb,hkb⟩:∃ kb,kb=(Cu.new p 0).byte.1.toNat:=⟨_,rfl⟩
      have hkb2:kb<256:=by rw [hkb];exact UInt8.toNat_lt _
      have hT2:((ts.take i).map List.tail).foldl tput tl=tl1:=by rw [HM.out,List.take_length];exact HTL1.out.symm
      rw [hT2,HM.out] at ht
      rw [← hkb] at HOF
      have HBYTE:Hid (∀ (b:Nat) (W:World),zAq W b b (Cu.new p 0)→Calls Tryz.prog 139 #[.pointer (some ⟨b,0,none⟩)] W fun e w' =>e=.returned (.int .u8 (kb:Int))∧zAq w' b b (Cu.new p 0).byte.2∧Only b W w'):=fun b W hW =>by
        have h1:=zOc b b _ W hW
        rw [← hkb] at h1
        exact h1
      have hkb3:(kb:Int)<256:=by omega
      have hkb4:(0:Int)≤(kb:Int):=by omega
      have hi0:(0:Int)≤(i:Int):=by omega
      have HT2:=yh ht
      have HS2:=yh hs'
      have HTU2:=yh htu
      have HBB2:=yh hbw
      have HKB:=yh hkb
      clear ht hs' htu hbw hap4 hr4 hr5 hcx hpp hv4 hlp hT2 hkb
      go_wp2_with (first
        | (go_at_call 138;refine HNEW.out.mono ?_;rintro e w3 ⟨bc,rfl,hbc,hc3,hb3⟩;have q2:=zAA (i:=2) (zAE w3 (.cells #[.int .i64 ver,.pointer (some ⟨bt,0,none⟩),.pointer (some ⟨bc,0,none⟩)] 201)) rfl;have HC3:=yh hc3;have HB3:=yh hb3;have HBC:=yh hbc;clear hc3 hb3 hbc)
        | (go_at_call 139
           refine (HBYTE.out bc _ (HC3.out.below (D:=w3.heap.size) ((Below.refl w3.heap.size w3).alloc (Nat.le_refl _) _) HC3.out.lt)).mono ?_
           rintro e w5 ⟨rfl,hc5,ho5⟩
           have HC5:=yh hc5
           have HO5:=yh ho5
           clear hc5 ho5
           have hz5:(w5.alloc (.cells #[.int .i64 (kb:Int),.string ⟨#[]⟩,.int .u64 0,.slice none 0 0,.int .u64 0,.int .u64 0,.string ⟨#[]⟩] 41)).heap.size=w5.heap.size+1:=by simp
           have hn5:((w5.alloc (.cells #[.int .i64 (kb:Int),.string ⟨#[]⟩,.int .u64 0,.slice none 0 0,.int .u64 0,.int .u64 0,.string ⟨#[]⟩] 41)).alloc (.cells #[.nilFunc,.nilFunc,.nilFunc,.nilFunc,.nilFunc,.nilFunc] 205)).heap[w5.heap.size+1]? = some (.cells #[.nilFunc,.nilFunc,.nilFunc,.nilFunc,.nilFunc,.nilFunc] 205 (0,0)):=by have h:=zAE (w5.alloc (.cells #[.int .i64 (kb:Int),.string ⟨#[]⟩,.int .u64 0,.slice none 0 0,.int .u64 0,.int .u64 0,.string ⟨#[]⟩] 41)) (.cells #[.nilFunc,.nilFunc,.nilFunc,.nilFunc,.nilFunc,.nilFunc] 205);rw [hz5] at h;exact h
           have hf5:((w5.alloc (.cells #[.int .i64 (kb:Int),.string ⟨#[]⟩,.int .u64 0,.slice none 0 0,.int .u64 0,.int .u64 0,.string ⟨#[]⟩] 41)).alloc (.cells #[.func (.func 140) #[.pointer (some ⟨w3.heap.size,0,none⟩)] #[],.func (.func 141) #[.pointer (some ⟨w3.heap.size,0,none⟩)] #[],.func (.func 142) #[.pointer (some ⟨w3.heap.size,0,none⟩)] #[],.func (.func 143) #[.pointer (some ⟨w3.heap.size,0,none⟩)] #[],.func (.func 144) #[.pointer (some ⟨w3.heap.size,0,none⟩)] #[],.func (.func 145) #[.pointer (some ⟨w3.heap.size,0,none⟩)] #[]] 205)).heap[w5.heap.size+1]? = some (.cells #[.func (.func 140) #[.pointer (some ⟨w3.heap.size,0,none⟩)] #[],.func (.func 141) #[.pointer (some ⟨w3.heap.size,0,none⟩)] #[],.func (.func 142) #[.pointer (some ⟨w3.heap.size,0,none⟩)] #[],.func (.func 143) #[.pointer (some ⟨w3.heap.size,0,none⟩)] #[],.func (.func 144) #[.pointer (some ⟨w3.heap.size,0,none⟩)] #[],.func (.func 145) #[.pointer (some ⟨w3.heap.size,0,none⟩)] #[]] 205 (0,0)):=by have h:=zAE (w5.alloc (.cells #[.int .i64 (kb:Int),.string ⟨#[]⟩,.int .u64 0,.slice none 0 0,.int .u64 0,.int .u64 0,.string ⟨#[]⟩] 41)) (.cells #[.func (.func 140) #[.pointer (some ⟨w3.heap.size,0,none⟩)] #[],.func (.func 141) #[.pointer (some ⟨w3.heap.size,0,none⟩)] #[],.func (.func 142) #[.pointer (some ⟨w3.heap.size,0,none⟩)] #[],.func (.func 143) #[.pointer (some ⟨w3.heap.size,0,none⟩)] #[],.func (.func 144) #[.pointer (some ⟨w3.heap.size,0,none⟩)] #[],.func (.func 145) #[.pointer (some ⟨w3.heap.size,0,none⟩)] #[]] 205);rw [hz5] at h;exact h
           have hr5:((w5.alloc (.cells #[.int .i64 (kb:Int),.string ⟨#[]⟩,.int .u64 0,.slice none 0 0,.int .u64 0,.int .u64 0,.string ⟨#[]⟩] 41)).alloc (.cells #[.func (.func 140) #[.pointer (some ⟨w3.heap.size,0,none⟩)] #[],.func (.func 141) #[.pointer (some ⟨w3.heap.size,0,none⟩)] #[],.func (.func 142) #[.pointer (some ⟨w3.heap.size,0,none⟩)] #[],.func (.func 143) #[.pointer (some ⟨w3.heap.size,0,none⟩)] #[],.func (.func 144) #[.pointer (some ⟨w3.heap.size,0,none⟩)] #[],.func (.func 145) #[.pointer (some ⟨w3.heap.size,0,none⟩)] #[]] 205)).heap[w5.heap.size]? = some (.cells #[.int .i64 (kb:Int),.string ⟨#[]⟩,.int .u64 0,.slice none 0 0,.int .u64 0,.int .u64 0,.string ⟨#[]⟩] 41 (0,0)):=(((Below.refl (w5.heap.size+1) (w5.alloc (.cells #[.int .i64 (kb:Int),.string ⟨#[]⟩,.int .u64 0,.slice none 0 0,.int .u64 0,.int .u64 0,.string ⟨#[]⟩] 41))).alloc (by simp) (.cells #[.func (.func 140) #[.pointer (some ⟨w3.heap.size,0,none⟩)] #[],.func (.func 141) #[.pointer (some ⟨w3.heap.size,0,none⟩)] #[],.func (.func 142) #[.pointer (some ⟨w3.heap.size,0,none⟩)] #[],.func (.func 143) #[.pointer (some ⟨w3.heap.size,0,none⟩)] #[],.func (.func 144) #[.pointer (some ⟨w3.heap.size,0,none⟩)] #[],.func (.func 145) #[.pointer (some ⟨w3.heap.size,0,none⟩)] #[]] 205)).block w5.heap.size (by omega)).trans (zAE w5 (.cells #[.int .i64 (kb:Int),.string ⟨#[]⟩,.int .u64 0,.slice none 0 0,.int .u64 0,.int .u64 0,.string ⟨#[]⟩] 41))
           have g0:=zAA (i:=0) hr5 rfl
           have HR5:=yh hr5
           have HF5:=yh hf5
           have HZ5:=yh hz5
           have HZ6:Hid (((w5.alloc (.cells #[.int .i64 (kb:Int),.string ⟨#[]⟩,.int .u64 0,.slice none 0 0,.int .u64 0,.int .u64 0,.string ⟨#[]⟩] 41)).alloc (.cells #[.func (.func 140) #[.pointer (some ⟨w3.heap.size,0,none⟩)] #[],.func (.func 141) #[.pointer (some ⟨w3.heap.size,0,none⟩)] #[],.func (.func 142) #[.pointer (some ⟨w3.heap.size,0,none⟩)] #[],.func (.func 143) #[.pointer (some ⟨w3.heap.size,0,none⟩)] #[],.func (.func 144) #[.pointer (some ⟨w3.heap.size,0,none⟩)] #[],.func (.func 145) #[.pointer (some ⟨w3.heap.size,0,none⟩)] #[]] 205)).heap.size=w5.heap.size+1+1):=by show _=_;simp
           have f0:=zAA (i:=0) hn5 rfl
           have y0:=zAC (i:=0) hn5
           have p0:=zAA (i:=0) hf5 rfl
           have f1:=zAA (i:=1) hn5 rfl
           have y1:=zAC (i:=1) hn5
           have p1:=zAA (i:=1) hf5 rfl
           have f2:=zAA (i:=2) hn5 rfl
           have y2:=zAC (i:=2) hn5
           have p2:=zAA (i:=2) hf5 rfl
           have f3:=zAA (i:=3) hn5 rfl
           have y3:=zAC (i:=3) hn5
           have p3:=zAA (i:=3) hf5 rfl
           have f4:=zAA (i:=4) hn5 rfl
           have y4:=zAC (i:=4) hn5
           have p4:=zAA (i:=4) hf5 rfl
           have f5:=zAA (i:=5) hn5 rfl
           have y5:=zAC (i:=5) hn5
           have p5:=zAA (i:=5) hf5 rfl
           clear hz5 hn5 hf5 hr5)
        | (go_at_call 146;refine (HOF.out _ _).mono ?_;rintro e w7 ⟨v7,rfl,ho7,hb7⟩;obtain ⟨A7,c7,rfl,hc7⟩:=zAL ho7;have HO7:=yh ho7;have HB7:=yh hb7;have HRD7:=yh (zAD.of_own ho7);clear ho7 hb7))
      have e1:Hid (w.heap.size+1≤w2.heap.size):=by have h1:=HTU2.out.2.2.2.1;rw [HZ.out] at h1;exact h1
      have e2:Hid (w3.heap.size+1≤w5.heap.size):=by have h1:=HO5.out.size;show _≤_;simpa using h1
      have e3:Hid (w5.heap.size+1+1≤w7.heap.size):=by have h1:=HB7.out.size;rw [HZ6.out] at h1;exact h1
      have e4:Hid (w2.heap.size≤bc∧bc<w3.heap.size∧w2.heap.size≤w3.heap.size):=⟨HBC.out,HC3.out.lt,HB3.out.size⟩
      have hb57:Below w5.heap.size w5 w7:=(((Below.refl w5.heap.size w5).alloc (Nat.le_refl _) (.cells #[.int .i64 (kb:Int),.string ⟨#[]⟩,.int .u64 0,.slice none 0 0,.int .u64 0,.int .u64 0,.string ⟨#[]⟩] 41)).alloc (by simp) (.cells #[.func (.func 140) #[.pointer (some ⟨w3.heap.size,0,none⟩)] #[],.func (.func 141) #[.pointer (some ⟨w3.heap.size,0,none⟩)] #[],.func (.func 142) #[.pointer (some ⟨w3.heap.size,0,none⟩)] #[],.func (.func 143) #[.pointer (some ⟨w3.heap.size,0,none⟩)] #[],.func (.func 144) #[.pointer (some ⟨w3.heap.size,0,none⟩)] #[],.func (.func 145) #[.pointer (some ⟨w3.heap.size,0,none⟩)] #[]] 205)).trans (HB7.out.mono (by rw [HZ6.out];omega))
      have hb24:Below w2.heap.size w2 (w3.alloc (.cells #[.int .i64 ver,.pointer (some ⟨bt,0,none⟩),.pointer (some ⟨bc,0,none⟩)] 201)):=HB3.out.alloc (by have:=e4.out;omega) _
      have HB27:=yh (hb24.trans ((HO5.out.below (B:=w2.heap.size) e4.out.1 (by have:=e4.out;simp;omega)).trans (hb57.mono (by have:=e4.out;have:=e2.out;omega))))
      obtain ⟨S2,hS2⟩:∃ S2:Nat→Prop,S2=fun k =>k=bc∨k=w5.heap.size∨w7.heap.size≤k:=⟨_,rfl⟩
      have HRS7:Hid (RS w7 S' w3.heap.size bt bc bc (N+ts.length) ver tl1 (Cu.new p 0).byte.2):={
        box:=(hb57.block _ (by have:=e2.out;omega)).trans ((HO5.out.block _ (by simp) (by have:=e4.out;omega)).trans (zAE w3 _))
        cur:=HC5.out.below hb57 HC5.out.lt
        tab:=HT2.out.keep (fun k hk _ =>HB27.out.block k (HS2.out k hk).1)
        nt:=fun h =>by have:=(HS2.out bc h).1;have:=e4.out;omega
        nb:=by have:=e4.out;omega
        big:=by rw [HTL1.out];have h1:=zBc (ts.map List.tail) tl;rw [List.length_map] at h1;have:=HTLL.out;have:=HM.out;omega }
      have hst0:(zAY p).r=⟨(kb:Int),[],0,0,0,[]⟩:=by rw [HKB.out];rfl
      have HREC7:Hid (RecS w7 S2 w5.heap.size (zAY p).r (.slice none 0 0) (zAY p).l):=by
        refine ⟨?_,World.ownsRow_nil _ _ _ _,by rw [hS2];exact .inr (.inl rfl),fun k hk =>by cases hk⟩
        rw [hst0]
        exact (HB7.out.block _ (by rw [HZ6.out];omega)).trans HR5.out
      have HE7:Hid (RE w7 S2 S' w3.heap.size bc w5.heap.size bc):={
        sc:=by rw [hS2];exact .inl rfl
        nd:=by rw [hS2];have:=e2.out;have:=e3.out;have:=e4.out;omega
        nt:=fun k hk =>by have:=(HS2.out k hk).1;rw [hS2];have:=e2.out;have:=e3.out;have:=e4.out;omega
        up:=fun k hk =>by rw [hS2] at hk;have:=e2.out;have:=e3.out;have:=e4.out;omega
        ne:=by have:=e2.out;have:=e4.out;omega
        new:=fun k hk =>by rw [hS2];exact .inr (.inr hk) }
      have HBLK7:Hid (∀ g,(Value.slice A7 mf c7).ownBlock=some g→g<w7.heap.size∧¬ S2 g):=fun g hg =>⟨zAP HO7.out g hg,by have h1:=zAG HO7.out g hg;have h2:=zAP HO7.out g hg;rw [HZ6.out] at h1;have:=e2.out;have:=e4.out;rw [hS2];omega⟩
      have HUP2:Hid (∀ k,S2 k→w.heap.size+1≤k):=fun k hk =>by rw [hS2] at hk;have:=e1.out;have:=e2.out;have:=e3.out;have:=e4.out;omega
      clear f0 y0 f1 y1 f2 y2 f3 y3 f4 y4 f5 y5 hS2 hb57 hb24 hst0 HOF p0 p1 p2 p3 p4 p5 q2 g0 k0
      go_loopw [67] (fun idx wr =>zSn S2 S' w3.heap.size bt bc w5.heap.size (N+ts.length) ver tl1 fl (zAY p) w7 idx wr) (fun idx wr =>mf - (intOf idx).toNat)
      case atStart =>exact ⟨0,by omega,rfl,⟨HRS7.out,_,HREC7.out⟩,Turn.refl _ _⟩
      case round =>
        obtain ⟨j,hj,rfl,⟨hrs,va,hrec⟩,htr⟩:=hrel
        rw [← HMF.out] at hj
        have HTR:=yh htr
        by_cases hlt:j<mf
        · obtain ⟨x,hx⟩:∃ x,fl[j]? = some x:=⟨_,List.getElem?_eq_getElem (by rw [← HMF.out];exact hlt)⟩
          have hmem:=List.mem_of_getElem? hx
          have hownr:=zAR (w':=wr) HO7.out (fun g hg =>htr.2.2.2.2 g (HBLK7.out g hg).1 (HBLK7.out g hg).2)
          obtain ⟨ad7,rfl,_,hcx⟩:=(zAD.of_own hownr).2 (by omega)
          have k0:=hcx j (.func (.func x.1) #[.pointer (some ⟨w3.heap.size,0,none⟩)] #[]) (by rw [List.getElem?_map,hx];rfl)
          have HTAKE:=yh (zKa hx (zAY p))
          have hlen:=zMB (fl:=fl.take j) (fun f hf =>HGR.out f (List.mem_of_mem_take hf)) (zAY p)
          have HCALL:=yh (HRD.out x hmem S2 S' w3.heap.size bc w5.heap.size bc (zBB (fl.take j) (zAY p)) wr (by rw [List.length_take] at hlen;have h1:(zAY p).l.length=0:=rfl;omega) (HE7.out.next htr.2.2.2.1) ⟨hrs,va,hrec⟩)
          have hnum:=HNM.out x hmem
          have hj0:(0:Int)≤(j:Int):=by omega
          have hj1:(j:Int)<(mf:Int):=by omega
          obtain ⟨xn,xf⟩:=x
          simp only at k0 HTAKE HCALL hnum
          clear hx hmem hownr hcx hlen hrs hrec htr
          rcases hnum with rfl | rfl | rfl | rfl | rfl | rfl
          · go_wp2_with (go_at_call 140;refine HCALL.out.mono ?_;rintro e w8 ⟨rfl,hw8,ht8⟩;have HW8:=yh hw8;have HT8:=yh (HTR.out.trans ht8 (fun _ _ h =>h));clear hw8 ht8)
            exact ⟨⟨j+1,by rw [← HMF.out];omega,by go_num,by rw [HTAKE.out];exact HW8.out,HT8.out⟩,by simp [intOf];omega⟩
          · go_wp2_with (go_at_call 141;refine HCALL.out.mono ?_;rintro e w8 ⟨rfl,hw8,ht8⟩;have HW8:=yh hw8;have HT8:=yh (HTR.out.trans ht8 (fun _ _ h =>h));clear hw8 ht8)
            exact ⟨⟨j+1,by rw [← HMF.out];omega,by go_num,by rw [HTAKE.out];exact HW8.out,HT8.out⟩,by simp [intOf];omega⟩
          · go_wp2_with (go_at_call 142;refine HCALL.out.mono ?_;rintro e w8 ⟨rfl,hw8,ht8⟩;have HW8:=yh hw8;have HT8:=yh (HTR.out.trans ht8 (fun _ _ h =>h));clear hw8 ht8)
            exact ⟨⟨j+1,by rw [← HMF.out];omega,by go_num,by rw [HTAKE.out];exact HW8.out,HT8.out⟩,by simp [intOf];omega⟩
          · go_wp2_with (go_at_call 143;refine HCALL.out.mono ?_;rintro e w8 ⟨rfl,hw8,ht8⟩;have HW8:=yh hw8;have HT8:=yh (HTR.out.trans ht8 (fun _ _ h =>h));clear hw8 ht8)
            exact ⟨⟨j+1,by rw [← HMF.out];omega,by go_num,by rw [HTAKE.out];exact HW8.out,HT8.out⟩,by simp [intOf];omega⟩
          · go_wp2_with (go_at_call 144;refine HCALL.out.mono ?_;rintro e w8 ⟨rfl,hw8,ht8⟩;have HW8:=yh hw8;have HT8:=yh (HTR.out.trans ht8 (fun _ _ h =>h));clear hw8 ht8)
            exact ⟨⟨j+1,by rw [← HMF.out];omega,by go_num,by rw [HTAKE.out];exact HW8.out,HT8.out⟩,by simp [intOf];omega⟩
          · go_wp2_with (go_at_call 145;refine HCALL.out.mono ?_;rintro e w8 ⟨rfl,hw8,ht8⟩;have HW8:=yh hw8;have HT8:=yh (HTR.out.trans ht8 (fun _ _ h =>h));clear hw8 ht8)
            exact ⟨⟨j+1,by rw [← HMF.out];omega,by go_num,by rw [HTAKE.out];exact HW8.out,HT8.out⟩,by simp [intOf];omega⟩
        · obtain rfl:j=mf:=by omega
          rw [HMF.out,List.take_length] at hrs hrec
          obtain ⟨A9,c9,rfl,hc9⟩:=zAL hrec.2.1
          have hres:wr.heap[w.heap.size]? = some (.cells #[.int .i64 0,.string ⟨#[]⟩,.int .u64 0,.slice none 0 0,.int .u64 0,.int .u64 0,.string ⟨#[]⟩] 41 (0,0)):=(htr.2.2.2.2 _ (by have:=e1.out;have:=e2.out;have:=e3.out;have:=e4.out;omega) (fun h =>by have:=HUP2.out _ h;omega)).trans ((HB27.out.block _ (by have:=e1.out;omega)).trans ((HTU2.out.2.2.2.2 _ (by rw [HZ.out];omega) (fun h =>by have:=h.2;omega)).trans HA0.out))
          have z0:=zAA (i:=0) hrec.1 rfl
          have f0:=zAA (i:=0) hres rfl
          have y0:=zAC (i:=0) hres
          have z1:=zAA (i:=1) hrec.1 rfl
          have f1:=zAA (i:=1) hres rfl
          have y1:=zAC (i:=1) hres
          have z2:=zAA (i:=2) hrec.1 rfl
          have f2:=zAA (i:=2) hres rfl
          have y2:=zAC (i:=2) hres
          have z3:=zAA (i:=3) hrec.1 rfl
          have f3:=zAA (i:=3) hres rfl
          have y3:=zAC (i:=3) hres
          have z4:=zAA (i:=4) hrec.1 rfl
          have f4:=zAA (i:=4) hres rfl
          have y4:=zAC (i:=4) hres
          have z5:=zAA (i:=5) hrec.1 rfl
          have f5:=zAA (i:=5) hres rfl
          have y5:=zAC (i:=5) hres
          have z6:=zAA (i:=6) hrec.1 rfl
          have f6:=zAA (i:=6) hres rfl
          have y6:=zAC (i:=6) hres
          have hfin:=(zAF (zAF (zAF (zAF (zAF (zAF (zAF hres 0 (.int .i64 (zBB fl (zAY p)).r.kind)) 1 (.string (tx (zBB fl (zAY p)).r.target))) 2 (.int .u64 (zBB fl (zAY p)).r.rule)) 3 (.slice A9 (zBB fl (zAY p)).l.length c9)) 4 (.int .u64 (zBB fl (zAY p)).r.out)) 5 (.int .u64 (zBB fl (zAY p)).r.time)) 6 (.string (tx (zBB fl (zAY p)).r.tag)))
          have htn:=((((((((Turn.refl (fun k =>k=w.heap.size) wr).setCell w.heap.size 0 (.int .i64 (zBB fl (zAY p)).r.kind) rfl).setCell w.heap.size 1 (.string (tx (zBB fl (zAY p)).r.target)) rfl).setCell w.heap.size 2 (.int .u64 (zBB fl (zAY p)).r.rule) rfl).setCell w.heap.size 3 (.slice A9 (zBB fl (zAY p)).l.length c9) rfl).setCell w.heap.size 4 (.int .u64 (zBB fl (zAY p)).r.out) rfl).setCell w.heap.size 5 (.int .u64 (zBB fl (zAY p)).r.time) rfl).setCell w.heap.size 6 (.string (tx (zBB fl (zAY p)).r.tag)) rfl)
          have HFIN:=yh hfin
          have HTN:=yh htn
          have HRS9:=yh hrs
          have HREC9:=yh hrec
          have HC9:=yh hc9
          clear hfin htn hrs hrec hres hc9 htr
          go_wp2
          refine bodyPost_ret (results_cell_row rfl _ _ _ _ _ _ _ rfl HFIN.out Tryz.underlying41 rfl (by kernel_rfl)) rfl ?_
          have hown:=HREC9.out.2.1
          have hlt:=zAP hown
          have hS:=HREC9.out.2.2.2
          have hset:=zAR hown (fun g hg =>HTN.out.2.2.2.2 g (hlt g hg) (fun h =>by have:=HUP2.out g (hS g hg);omega))
          refine ⟨A9,_,c9,S',rfl,⟨zJi hset (fun k hk =>by have:=HUP2.out k (hS k hk);omega),HC9.out⟩,fun ad9 ha9 h9 =>HE7.out.nt _ h9 (hS ad9.block (by rw [ha9];rfl)),HRS9.out.tab.turn HTN.out (fun k hk _ h =>?_),fun k hk =>⟨?_,?_⟩,?_⟩
          · have h1:=(HS2.out k hk).2
            rw [HZ.out] at h1
            omega
          · have h1:=(HS2.out k hk).1
            have h2:=HTN.out.2.2.2.1
            have h3:=HTR.out.2.2.2.1
            have:=e2.out;have:=e3.out;have:=e4.out
            omega
          · rcases (HS2.out k hk).2 with h1 | h1
            · exact .inl h1.1
            · rw [HZ.out] at h1;exact .inr (by omega)
          · refine (((((Turn.of_below HB0.out).trans HTU2.out (fun k hk h =>h.1)).trans (Turn.of_below (S:=S) HB27.out) (fun _ _ h =>h)).trans HTR.out (fun k hk h =>?_)).trans HTN.out (fun k hk h =>?_))
            · have:=HUP2.out k h;omega
            · omega
def rdFs (ver:Int) (tl:List (List UInt8)) (k:Nat):List (Nat×(Rst→Rst)) :=
 if k=2 then [(140,zAv ver tl)]
 else if k=1 then
  if ver=1 then [(140,zAv ver tl),(141,zBm ver tl),(142,zBR ver tl),(143,zCa ver tl)]
  else if ver=2 then [(140,zAv ver tl),(141,zBm ver tl),(142,zBR ver tl),(143,zCa ver tl),(144,zCi ver tl)]
  else [(140,zAv ver tl),(141,zBm ver tl),(142,zBR ver tl),(143,zCa ver tl),(144,zCi ver tl),(145,zDJ ver tl)]
 else []
theorem zNi (ver:Int) (tl:List (List UInt8)) (k:Nat) (h1:k≠1) (h2:k≠2):rdFs ver tl k=[]:=by
 unfold rdFs
 rw [if_neg h2,if_neg h1]
theorem zGk {ver:Int} {tl:List (List UInt8)} {k:Nat} {f:Nat×(Rst→Rst)} (h:f ∈ rdFs ver tl k):f=(140,zAv ver tl)∨f=(141,zBm ver tl)∨f=(142,zBR ver tl)∨f=(143,zCa ver tl)∨f=(144,zCi ver tl)∨f=(145,zDJ ver tl):=by
 unfold rdFs at h
 split at h
 ·simp at h;simp [h]
 ·split at h
  ·split at h
   ·simp at h;rcases h with h | h | h | h <;> simp [h]
   ·split at h
    ·simp at h;rcases h with h | h | h | h | h <;> simp [h]
    ·simp at h;rcases h with h | h | h | h | h | h <;> simp [h]
  ·simp at h
theorem zPh (ver:Int) (tl:List (List UInt8)) (k:Nat):(rdFs ver tl k).length≤6:=by
 unfold rdFs
 split
 ·simp
 ·split
  ·split
   ·simp
   ·split <;> simp
  ·simp
theorem zNg (ver:Int) (tl:List (List UInt8)) (k:Nat) (hv:ver=1∨ver=2∨ver=3) (s:Rst):zBB (rdFs ver tl k) s=zBi ver tl k s:=by
 unfold rdFs zBi
 by_cases h2:k=2
 ·rw [if_pos h2,if_pos h2];rfl
 ·rw [if_neg h2,if_neg h2]
  by_cases h1:k=1
  ·rw [if_pos h1,if_pos h1]
   rcases hv with rfl | rfl | rfl <;> rfl
  ·rw [if_neg h1,if_neg h1];rfl
theorem zNh {ver:Int} {tl:List (List UInt8)} {k:Nat} {f:Nat×(Rst→Rst)} (h:f ∈ rdFs ver tl k) (s:Rst):(f.2 s).l.length≤s.l.length+16:=by
 rcases zGk h with rfl | rfl | rfl | rfl | rfl | rfl
 ·exact Nat.le_add_right _ _
 ·exact Nat.le_add_right _ _
 ·show (zBR ver tl s).l.length≤_
  unfold zBR
  rw [zFP]
  show s.l.length+_≤_
  omega
 ·exact Nat.le_add_right _ _
 ·exact Nat.le_add_right _ _
 ·exact Nat.le_add_right _ _
theorem zFu (S:Nat→Prop) (bt B N n c:Nat) (ver:Int) (hv:ver=1∨ver=2∨ver=3) (tl ts:List (List UInt8)) (p:List UInt8) (A:Option Addr) (hts:∀ t ∈ ts,t≠[]∧t.length≤1000000) (hp:p.length≤1000000) (hn:ts.length+1=n) (hn2:n≤100000) (htl:tl.length≤900000000) (hN:N≤900000000) (w:World) (hB:B≤w.heap.size) (hT:Tab w S bt N tl) (hr:PlsT w B S A n c (ts++[p])) (tl1:List (List UInt8)) (htl1:tl1=(ts.map List.tail).foldl tput tl) :
  Calls Tryz.prog 116 #[.int .i64 ver,.pointer (some ⟨bt,0,none⟩),.slice A n c] w fun e w' =>∃ (A':Option Addr) (n' c':Nat) (S':Nat→Prop),e=.returned (rcv (zBi ver tl1 (Cu.new p 0).byte.1.toNat (zAY p)).r A' n' c')∧Deps w' w.heap.size A' n' c' (zBi ver tl1 (Cu.new p 0).byte.1.toNat (zAY p)).l∧(∀ ad,A'=some ad→¬ S' ad.block)∧Tab w' S' bt (N+ts.length) tl1∧(∀ k,S' k→k<w'.heap.size∧(S k∨w.heap.size≤k))∧Turn S w w':=by
 rw [← zNg ver tl1 _ hv (zAY p)]
 refine zMQ S bt B N n c ver tl ts p A hts hp hn hn2 htl hN w hB hT hr tl1 htl1 (rdFs ver tl1 (Cu.new p 0).byte.1.toNat) (zPh _ _ _) ?_ (fun f hf s =>zNh hf s) ?_ ?_
 ·intro f hf
  rcases zGk hf with rfl | rfl | rfl | rfl | rfl | rfl <;> simp
 ·intro P W
  generalize (Cu.new p 0).byte.1.toNat=k
  by_cases h2:k=2
  ·subst h2
   exact of_2 140 141 142 143 144 145 P ver W
  ·by_cases h1:k=1
   ·subst h1
    rcases hv with rfl | rfl | rfl
    ·exact zQW 140 141 142 143 144 145 P W
    ·exact zQX 140 141 142 143 144 145 P W
    ·exact zQY 140 141 142 143 144 145 P W
   ·rw [zNi _ _ _ h1 h2]
    exact zRL 140 141 142 143 144 145 P ver k ⟨by omega,by omega⟩ W
 ·intro f hf S0 T0 brd bc brr B0 s W hsl hE hTT
  rcases zGk hf with rfl | rfl | rfl | rfl | rfl | rfl
  ·exact zNj S0 T0 brd bt bc brr B0 (N+ts.length) ver tl1 s W hE hTT
  ·exact zRT S0 T0 brd bt bc brr B0 (N+ts.length) ver tl1 s W hE hTT
  ·exact zRR S0 T0 brd bt bc brr B0 (N+ts.length) ver tl1 s hsl W hE hTT
  ·exact zSR S0 T0 brd bt bc brr B0 (N+ts.length) ver tl1 s W hE hTT
  ·exact zRW S0 T0 brd bt bc brr B0 (N+ts.length) ver tl1 s W hE hTT
  ·exact zSS S0 T0 brd bt bc brr B0 (N+ts.length) ver tl1 s W hE hTT
end Go.Proofs.YtekchkfjgofnkaaGreatDoor
