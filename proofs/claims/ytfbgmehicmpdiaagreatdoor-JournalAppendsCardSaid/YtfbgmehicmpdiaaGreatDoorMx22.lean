/- Texts of one proof. -/
import Derived.Deep.Slices
import Derived.Deep.Strs
import Derived.Test.YtfbgmehicmpdiaaGreatDoorMx18
set_option maxRecDepth 100000
set_option maxHeartbeats 8000000
namespace Go.Proofs.YtfbgmehicmpdiaaGreatDoor
open Go.RowKit
theorem zQG (S:Nat→Prop) (bt B N n c a:Nat) (ver:Int) (tl:List (List UInt8)) (r:Rc) (l:List Dp) (pre post:List (List UInt8)) (A:Option Addr) (hm:MayP ver r l) (hfit:Fits r l) (hnu:Nums r l) (hn2:n≤100000) (htl:tl.length≤800000000) (hN:N≤800000000) (ha:pre.length=a) (w:World) (hB:B≤w.heap.size) (hT:Tab w S bt N tl) (hr:PlsT w B S A n c (pre++(payL ver tl r l++post))) :
    Calls Tryz.prog 73 #[.int .i64 ver,.pointer (some ⟨bt,0,none⟩),.slice A n c,.int .i64 (a:Int)] w fun e w' =>∃ (A':Option Addr) (n' c':Nat) (S':Nat→Prop),e=.returned (.tuple #[rcv r A' n' c',.int .i64 ((a+(payL ver tl r l).length:Nat):Int),.int .i64 0])∧Deps w' w.heap.size A' n' c' l∧(∀ ad,A'=some ad→¬ S' ad.block)∧(∃ N',N'≤N+36∧Tab w' S' bt N' (tabT ver tl r l))∧(∀ k,S' k→k<w'.heap.size∧(S k∨w.heap.size≤k))∧Turn S w w':=by
  have hver:ver=1∨ver=2∨ver=3:=by have:=hm.1;have:=hm.2.1;omega
  have hv1:=hm.1
  have hv3:=hm.2.1
  have d1:decide (ver<1)=false:=decide_eq_false (by omega)
  have d2:decide (ver > 3)=false:=decide_eq_false (by omega)
  obtain ⟨q,hq⟩:∃ q,q=(freT ver tl r l).length:=⟨_,rfl⟩
  have hq18:q≤18:=by rw [hq];exact zNM hm
  have hpl:(payL ver tl r l).length=q+1:=by unfold payL;rw [List.length_append,← hq];rfl
  have hlen:n=a+(q+1)+post.length:=by have h1:=hr.2.1;rw [List.length_append,List.length_append,hpl,ha] at h1;omega
  have hcn:n≤c:=hr.1
  have hrd:=hr.drop (k:=a) (by omega)
  have hdrop:(pre++(payL ver tl r l++post)).drop a=payL ver tl r l++post:=by rw [← ha,List.drop_left]
  rw [hdrop,if_neg (by omega)] at hrd
  obtain ⟨ad,rfl,hab,_⟩:∃ ad,A=some ad∧ad.block<B∧True:=by
    obtain ⟨_,_,vs,h1,_⟩:=hr
    obtain ⟨ad,h2,h3,_⟩:=h1.2 (by omega)
    exact ⟨ad,h2,h3,trivial⟩
  have hrf:=hrd.upto (k:=q+1) (by omega)
  have htake:(payL ver tl r l++post).take (q+1)=freT ver tl r l++[payB ver (tabT ver tl r l) r l]:=by rw [List.take_append_of_le_length (by rw [hpl];exact Nat.le_refl _),List.take_of_length_le (by rw [hpl];exact Nat.le_refl _)];rfl
  rw [htake] at hrf
  have hah:zAi (payL ver tl r l++post)=q:=by
    unfold payL
    rw [List.append_assoc,List.singleton_append,zCz _ _ _ (fun t ht =>(zEc hm t ht).1) (zIi _ _ _ _),← hq]
  have h0:=zAD w (.cells #[.int .i64 0,.string ⟨#[]⟩,.int .u64 0,.slice none 0 0,.int .u64 0,.int .u64 0,.string ⟨#[]⟩] 46)
  have hz:(w.alloc (.cells #[.int .i64 0,.string ⟨#[]⟩,.int .u64 0,.slice none 0 0,.int .u64 0,.int .u64 0,.string ⟨#[]⟩] 46)).heap.size=w.heap.size+1:=by simp
  have hb0:=(Below.refl w.heap.size w).alloc (Nat.le_refl _) (.cells #[.int .i64 0,.string ⟨#[]⟩,.int .u64 0,.slice none 0 0,.int .u64 0,.int .u64 0,.string ⟨#[]⟩] 46)
  have hta:=zDS B (n - a) (c - a) (payL ver tl r l++post) (some (ad.add a)) (by omega) (w.alloc (.cells #[.int .i64 0,.string ⟨#[]⟩,.int .u64 0,.slice none 0 0,.int .u64 0,.int .u64 0,.string ⟨#[]⟩] 46)) (hrd.less.below (hb0.mono hB))
  rw [hah] at hta
  have HAH:=yh hta
  have ha0:(0:Int)≤(a:Int):=by omega
  have ha1:(a:Int)<(n:Int):=by omega
  have han:a<n:=by omega
  have haq:a+q<n:=by omega
  have haq1:a+q+1≤n:=by omega
  have haq2:(a:Int)+(q:Int)<(n:Int):=by omega
  have haq3:(a:Int)+(q:Int)+1≤(n:Int):=by omega
  have HB0:=yh hb0
  have HZ:=yh hz
  have HA0:=yh h0
  have HRF:=yh hrf
  obtain ⟨T0,hT0⟩:∃ T0:Nat→Prop,T0=fun k =>S k∧k<w.heap.size:=⟨_,rfl⟩
  have htz:Tab (w.alloc (.cells #[.int .i64 0,.string ⟨#[]⟩,.int .u64 0,.slice none 0 0,.int .u64 0,.int .u64 0,.string ⟨#[]⟩] 46)) T0 bt N tl:=by rw [hT0];exact (hT.wide (fun k h1 h2 =>⟨h1,h2⟩)).keep (fun k hk _ =>hb0.block k hk.2)
  have HLEN:=yh (zDC T0 bt N tl (w.alloc (.cells #[.int .i64 0,.string ⟨#[]⟩,.int .u64 0,.slice none 0 0,.int .u64 0,.int .u64 0,.string ⟨#[]⟩] 46)) htz)
  have hbig:(tabT ver tl r l).length≤1073741824:=by have:=zCm (tl:=tl) hm;omega
  have hpay:=zMB hm hnu hbig (zIs ver tl r l)
  have HTK:Hid (Calls Tryz.prog 89 #[.int .i64 ver,.pointer (some ⟨bt,0,none⟩),.slice (some (ad.add a)) (q+1) (c - a)] (w.alloc (.cells #[.int .i64 0,.string ⟨#[]⟩,.int .u64 0,.slice none 0 0,.int .u64 0,.int .u64 0,.string ⟨#[]⟩] 46)) fun e w' =>∃ (A':Option Addr) (n' c':Nat) (S':Nat→Prop),e=.returned (.agg #[.int .i64 r.kind,.string (tx r.target),.int .u64 r.rule,.slice A' n' c',.int .u64 r.out,.int .u64 r.time,.string (tx r.tag)])∧Deps w' (w.alloc (.cells #[.int .i64 0,.string ⟨#[]⟩,.int .u64 0,.slice none 0 0,.int .u64 0,.int .u64 0,.string ⟨#[]⟩] 46)).heap.size A' n' c' l∧(∀ ad,A'=some ad→¬ S' ad.block)∧Tab w' S' bt (N+q) (tabT ver tl r l)∧(∀ k,S' k→k<w'.heap.size∧(T0 k∨(w.alloc (.cells #[.int .i64 0,.string ⟨#[]⟩,.int .u64 0,.slice none 0 0,.int .u64 0,.int .u64 0,.string ⟨#[]⟩] 46)).heap.size≤k))∧Turn T0 (w.alloc (.cells #[.int .i64 0,.string ⟨#[]⟩,.int .u64 0,.slice none 0 0,.int .u64 0,.int .u64 0,.string ⟨#[]⟩] 46)) w'):=by
    have h1:=zFU T0 bt B N (q+1) (c - a) ver hver tl (freT ver tl r l) (payB ver (tabT ver tl r l) r l) (some (ad.add a)) (fun t ht =>(zEc hm t ht).2) (zNp hm hnu hbig) (by rw [← hq]) (by omega) (by omega) (by omega) (w.alloc (.cells #[.int .i64 0,.string ⟨#[]⟩,.int .u64 0,.slice none 0 0,.int .u64 0,.int .u64 0,.string ⟨#[]⟩] 46)) (by rw [hz];omega) htz ((hrf.turn (Turn.of_below hb0) hB).wide (fun k _ hk =>by rw [hT0] at hk;exact hk.1)) (tabT ver tl r l) (zFJ _ _ _ _)
    rw [← hq,hpay.1,hpay.2] at h1
    exact h1
  have HBW:=yh hB
  have HT0:=yh hT0
  have HQ:=yh hq
  have HPLN:=yh hpl
  have HM:=yh hm
  have HFIT:=yh hfit
  have HNU:=yh hnu
  have hq1:a+q+1 - a=q+1:=by omega
  have HTL:=yh htl
  have HN:=yh hN
  clear hpay htz hT0 hB hT hq hm hfit hnu htl hN
  clear hr hrd hdrop htake hah hta h0 hz hb0 hlen hpl hrf
  go_enter Tryz.func73,Tryz.ntmps73
  go_wp2_with (go_at_call 87;refine HAH.out.mono ?_;rintro e w3 ⟨rfl,rfl⟩)
  go_wp2_with (go_at_call 88;refine HLEN.out.mono ?_;rintro e w3 ⟨rfl,rfl⟩)
  (
       refine HTK.out.mono ?_
       rintro e w4 ⟨A9,n9,c9,S9,rfl,hd9,hap9,ht9,hs9,htu9⟩
       have hz4:w4.heap[w.heap.size]? = some (.cells #[.int .i64 0,.string ⟨#[]⟩,.int .u64 0,.slice none 0 0,.int .u64 0,.int .u64 0,.string ⟨#[]⟩] 46 (0,0)):=(htu9.2.2.2.2 _ (by rw [HZ.out];omega) (fun h =>by rw [HT0.out] at h;omega)).trans HA0.out
       have f0:=zAA (i:=0) hz4 rfl
       have y0:=zAC (i:=0) hz4
       have f1:=zAA (i:=1) hz4 rfl
       have y1:=zAC (i:=1) hz4
       have f2:=zAA (i:=2) hz4 rfl
       have y2:=zAC (i:=2) hz4
       have f3:=zAA (i:=3) hz4 rfl
       have y3:=zAC (i:=3) hz4
       have f4:=zAA (i:=4) hz4 rfl
       have y4:=zAC (i:=4) hz4
       have f5:=zAA (i:=5) hz4 rfl
       have y5:=zAC (i:=5) hz4
       have f6:=zAA (i:=6) hz4 rfl
       have y6:=zAC (i:=6) hz4
       have hws:=(zAF (zAF (zAF (zAF (zAF (zAF (zAF hz4 0 (.int .i64 r.kind)) 1 (.string (tx r.target))) 2 (.int .u64 r.rule)) 3 (.slice A9 n9 c9)) 4 (.int .u64 r.out)) 5 (.int .u64 r.time)) 6 (.string (tx r.tag)))
       have htw:=((((((((Turn.refl (fun k =>k=w.heap.size) w4).setCell w.heap.size 0 (.int .i64 r.kind) rfl).setCell w.heap.size 1 (.string (tx r.target)) rfl).setCell w.heap.size 2 (.int .u64 r.rule) rfl).setCell w.heap.size 3 (.slice A9 n9 c9) rfl).setCell w.heap.size 4 (.int .u64 r.out) rfl).setCell w.heap.size 5 (.int .u64 r.time) rfl).setCell w.heap.size 6 (.string (tx r.tag)) rfl)
       have hnr:¬ S9 w.heap.size:=fun h =>by
         rcases (hs9 _ h).2 with h1 | h1
         · rw [HT0.out] at h1;omega
         · rw [HZ.out] at h1;omega
       have htw9:=ht9.turn htw (fun k hk _ h =>hnr (h▸hk))
       have hcut:=zEK S9 bt (N+q) (tabT ver tl r l) (tl.length:Int) (by have:=zCm (tl:=tl) HM.out;have:=HTL.out;omega) _ htw9
       rw [zHs] at hcut
       have HCUT:=yh hcut
       have HWS:=yh hws
       have HTW:=yh htw
       have HD9:=yh hd9
       have HAP9:=yh hap9
       have HS9:=yh hs9
       have HTU9:=yh htu9
       have HNR:=yh hnr
       clear hd9 hap9 ht9 hs9 htu9 hz4 hws htw hnr htw9 hcut)
  go_wp2_with (first
    | (go_at_call 90
       refine HCUT.out.mono ?_
       rintro e w5 ⟨rfl,ht5,htu5⟩
       have hlt5:w.heap.size<w4.heap.size:=by have h1:=HTU9.out.2.2.2.1;rw [HZ.out] at h1;omega
       have hrec5:w5.heap[w.heap.size]? = some (.cells #[.int .i64 r.kind,.string (tx r.target),.int .u64 r.rule,.slice A9 n9 c9,.int .u64 r.out,.int .u64 r.time,.string (tx r.tag)] 46 (0,0)):=(htu5.2.2.2.2 _ (Nat.lt_of_lt_of_le hlt5 HTW.out.2.2.2.1) HNR.out).trans HWS.out
       have g0:=zAA (i:=0) hrec5 rfl
       have g1:=zAA (i:=1) hrec5 rfl
       have g2:=zAA (i:=2) hrec5 rfl
       have g3:=zAA (i:=3) hrec5 rfl
       have g4:=zAA (i:=4) hrec5 rfl
       have g5:=zAA (i:=5) hrec5 rfl
       have g6:=zAA (i:=6) hrec5 rfl
       have hown9:∀ g,(Value.slice A9 n9 c9).ownBlock=some g→g<w4.heap.size∧g≠w.heap.size∧¬ S9 g:=fun g hg =>by
         refine ⟨zAO HD9.out.1 g hg,fun h =>?_,fun h =>?_⟩
         · have h1:=zAG HD9.out.1 g hg
           rw [HZ.out] at h1
           omega
         · cases A9 with
           | none =>cases hg
           | some x =>exact HAP9.out x rfl (by have h1:x.block=g:=Option.some.inj hg;rw [h1];exact h)
       have hown5:=zAP (w':=w5) HD9.out.1 (fun g hg =>(htu5.2.2.2.2 g (Nat.lt_of_lt_of_le (hown9 g hg).1 HTW.out.2.2.2.1) (hown9 g hg).2.2).trans (HTW.out.2.2.2.2 g (hown9 g hg).1 (hown9 g hg).2.1))
       have HPUT:=yh (zFP S9 bt (N+q) n9 c9 ver tl r A9 l HM.out HFIT.out HNU.out (by have:=HTL.out;omega) (by have:=HN.out;omega) w5 ht5 (fun ad h1 _ =>HAP9.out ad h1) (zAE.of_own hown5))
       have HREC5:=yh hrec5
       have HOWN5:=yh hown5
       have HOWN9:=yh hown9
       have HTU5:=yh htu5
       have HLT5:=yh hlt5
       clear hrec5 hown5 hown9 htu5 ht5 hlt5)
    | (go_at_call 57
       refine HPUT.out.mono ?_
       rintro e w6 ⟨va6,S6,rfl,ht6,hs6,⟨vs6,hv6⟩,htu6⟩
       have ho6:=hv6.1
       rw [HPLN.out] at ho6
       obtain ⟨A6,c6,rfl,hc6⟩:=zAM ho6
       have hrec6:w6.heap[w.heap.size]? = some (.cells #[.int .i64 r.kind,.string (tx r.target),.int .u64 r.rule,.slice A9 n9 c9,.int .u64 r.out,.int .u64 r.time,.string (tx r.tag)] 46 (0,0)):=(htu6.2.2.2.2 _ (Nat.lt_of_lt_of_le (Nat.lt_of_lt_of_le HLT5.out HTW.out.2.2.2.1) HTU5.out.2.2.2.1) HNR.out).trans HREC5.out
       have k0:=zAA (i:=0) hrec6 rfl
       have m0:=zAC (i:=0) hrec6
       have k1:=zAA (i:=1) hrec6 rfl
       have m1:=zAC (i:=1) hrec6
       have k2:=zAA (i:=2) hrec6 rfl
       have m2:=zAC (i:=2) hrec6
       have k3:=zAA (i:=3) hrec6 rfl
       have m3:=zAC (i:=3) hrec6
       have k4:=zAA (i:=4) hrec6 rfl
       have m4:=zAC (i:=4) hrec6
       have k5:=zAA (i:=5) hrec6 rfl
       have m5:=zAC (i:=5) hrec6
       have k6:=zAA (i:=6) hrec6 rfl
       have m6:=zAC (i:=6) hrec6
       have hs9b:∀ k,S9 k→S k∨w.heap.size+1≤k:=fun k hk =>by
         rcases (HS9.out k hk).2 with h1 | h1
         · rw [HT0.out] at h1;exact .inl h1.1
         · rw [HZ.out] at h1;exact .inr h1
       have hbw6:Turn S w w6:=((((Turn.of_below HB0.out).trans HTU9.out (fun k _ h =>by rw [HT0.out] at h;exact h.1)).trans HTW.out (fun k hk h =>by omega)).trans HTU5.out (fun k hk h =>(hs9b k h).resolve_right (by omega))).trans htu6 (fun k hk h =>(hs9b k h).resolve_right (by omega))
       have heqf:=zEz w6.heap.size B (q+1) c6 (q+1) (c - a) A6 (some (ad.add a)) (payL ver tl r l) (payL ver tl r l) (by omega) (by omega) w6 (PlsC.of_rows HPLN.out.symm ⟨vs6,hv6⟩) (HRF.out.turn hbw6 HBW.out).less
       rw [decide_eq_true rfl] at heqf
       have HEQF:=yh heqf
       have HREC6:=yh hrec6
       have HTU6:=yh htu6
       have HS6:=yh hs6
       have HT6:=yh ht6
       clear hrec6 hs9b hbw6 heqf htu6 hs6 ht6 hv6 ho6 hc6)
    | (go_at_call 91
       refine HEQF.out.mono ?_
       rintro e w7 ⟨rfl,rfl⟩))
  have hfin:=(zAF (zAF (zAF (zAF (zAF (zAF (zAF HREC6.out 0 (.int .i64 r.kind)) 1 (.string (tx r.target))) 2 (.int .u64 r.rule)) 3 (.slice A9 n9 c9)) 4 (.int .u64 r.out)) 5 (.int .u64 r.time)) 6 (.string (tx r.tag)))
  have htn:=((((((((Turn.refl (fun k =>k=w.heap.size) w6).setCell w.heap.size 0 (.int .i64 r.kind) rfl).setCell w.heap.size 1 (.string (tx r.target)) rfl).setCell w.heap.size 2 (.int .u64 r.rule) rfl).setCell w.heap.size 3 (.slice A9 n9 c9) rfl).setCell w.heap.size 4 (.int .u64 r.out) rfl).setCell w.heap.size 5 (.int .u64 r.time) rfl).setCell w.heap.size 6 (.string (tx r.tag)) rfl)
  refine bodyPost_ret (zAs rfl _ _ _ _ _ _ _ rfl hfin Tryz.underlying46 rfl (by kernel_rfl)) rfl ?_
  have hlt:=fun g hg =>zAO HOWN5.out g hg
  have hset:=zAP HOWN5.out (fun g hg =>(htn.2.2.2.2 g (Nat.lt_of_lt_of_le (hlt g hg) HTU6.out.2.2.2.1) (HOWN9.out g hg).2.1).trans (HTU6.out.2.2.2.2 g (hlt g hg) (HOWN9.out g hg).2.2))
  have hS9:∀ k,S9 k→S k∨w.heap.size+1≤k:=fun k hk =>by
    rcases (HS9.out k hk).2 with h1 | h1
    · rw [HT0.out] at h1;exact .inl h1.1
    · rw [HZ.out] at h1;exact .inr h1
  have h45:w.heap.size<w5.heap.size:=Nat.lt_of_lt_of_le (Nat.lt_of_lt_of_le HLT5.out HTW.out.2.2.2.1) HTU5.out.2.2.2.1
  have hn6:¬ S6 w.heap.size:=fun h =>by
    rcases (HS6.out _ h).2 with h1 | h1
    · exact HNR.out h1
    · omega
  have hnum:((a+(payL ver tl r l).length:Nat):Int)=(a:Int)+(q:Int)+1:=by rw [HPLN.out];omega
  refine ⟨A9,n9,c9,S6,by rw [hnum];rfl,⟨zAV hset (by rw [HZ.out];omega),HD9.out.2⟩,fun x hx h =>?_,⟨N+q+18,by omega,HT6.out.turn htn (fun k hk _ h =>hn6 (h▸hk))⟩,fun k hk =>⟨Nat.lt_of_lt_of_le (HS6.out k hk).1 htn.2.2.2.1,?_⟩,?_⟩
  · subst hx
    have h1:=HOWN9.out x.block rfl
    rcases (HS6.out _ h).2 with h2 | h2
    · exact h1.2.2 h2
    · have h3:=HTW.out.2.2.2.1
      have h4:=HTU5.out.2.2.2.1
      have h5:=h1.1
      omega
  · rcases (HS6.out k hk).2 with h1 | h1
    · rcases hS9 k h1 with h2 | h2
      · exact .inl h2
      · exact .inr (by omega)
    · exact .inr (by omega)
  · refine (((((Turn.of_below HB0.out).trans HTU9.out (fun k _ h =>?_)).trans HTW.out (fun k hk h =>?_)).trans HTU5.out (fun k hk h =>?_)).trans HTU6.out (fun k hk h =>?_)).trans htn (fun k hk h =>?_)
    · rw [HT0.out] at h;exact h.1
    · omega
    · rcases hS9 k h with h2 | h2
      · exact h2
      · omega
    · rcases hS9 k h with h2 | h2
      · exact h2
      · omega
    · omega
def zRec:Obj:=.cells #[.int .i64 0,.string ⟨#[]⟩,.int .u64 0,.slice none 0 0,.int .u64 0,.int .u64 0,.string ⟨#[]⟩] 46
def zCj (ver:Int) (bt n c:Nat) (A:Option Addr) (w:World):Prop :=
 Calls Tryz.prog 73 #[.int .i64 ver,.pointer (some ⟨bt,0,none⟩),.slice A n c,.int .i64 (n:Int)] w fun e w' =>e=.returned (.tuple #[.agg #[.int .i64 0,.string ⟨#[]⟩,.int .u64 0,.slice none 0 0,.int .u64 0,.int .u64 0,.string ⟨#[]⟩],.int .i64 0,.int .i64 6])∧Below w.heap.size w w'
theorem zLf (ver:Int) (hv:1≤ver∧ver≤3) (bt:Nat)  (w:World) (HAH:Hid (Calls Tryz.prog 87 #[.slice none 0 0] (w.alloc zRec) fun e w' =>e=.returned (.int .i64 ((zAi []:Nat):Int))∧w.alloc zRec=w')):zCj ver bt 0 0 none w:=by
 have h0:=zAD w (.cells #[.int .i64 0,.string ⟨#[]⟩,.int .u64 0,.slice none 0 0,.int .u64 0,.int .u64 0,.string ⟨#[]⟩] 46)
 have HA0:=yh h0
 have HB0:=yh ((Below.refl w.heap.size w).alloc (Nat.le_refl _) (.cells #[.int .i64 0,.string ⟨#[]⟩,.int .u64 0,.slice none 0 0,.int .u64 0,.int .u64 0,.string ⟨#[]⟩] 46))
 have q0:=zAA (i:=0) h0 rfl
 have y0:=zAC (i:=0) h0
 have q1:=zAA (i:=1) h0 rfl
 have y1:=zAC (i:=1) h0
 have q2:=zAA (i:=2) h0 rfl
 have y2:=zAC (i:=2) h0
 have q3:=zAA (i:=3) h0 rfl
 have y3:=zAC (i:=3) h0
 have q4:=zAA (i:=4) h0 rfl
 have y4:=zAC (i:=4) h0
 have q5:=zAA (i:=5) h0 rfl
 have y5:=zAC (i:=5) h0
 have q6:=zAA (i:=6) h0 rfl
 have y6:=zAC (i:=6) h0
 clear h0
 have d1:decide (ver<1)=false:=decide_eq_false (by omega)
 have d2:decide (ver > 3)=false:=decide_eq_false (by omega)
 have hv1:=hv.1
 have hv3:=hv.2
 clear hv
 unfold zRec at HAH
 unfold zCj
 simp only [zAi] at HAH
 go_enter Tryz.func73,Tryz.ntmps73
 go_wp2_with (go_at_call 87;refine HAH.out.mono ?_;rintro e w3 ⟨rfl,rfl⟩)
 refine bodyPost_ret (zAs rfl _ _ _ _ _ _ _ rfl HA0.out Tryz.underlying46 rfl (by kernel_rfl)) rfl ?_
 exact ⟨rfl,HB0.out⟩
theorem zLg (ver:Int) (hv:1≤ver∧ver≤3) (bt:Nat) (n:Nat) (hn:n≤100000) (ad:Addr) (w:World) (HAH:Hid (Calls Tryz.prog 87 #[.slice (some ad) 0 0] (w.alloc zRec) fun e w' =>e=.returned (.int .i64 ((zAi []:Nat):Int))∧w.alloc zRec=w')):zCj ver bt n n (some ad) w:=by
 have h0:=zAD w (.cells #[.int .i64 0,.string ⟨#[]⟩,.int .u64 0,.slice none 0 0,.int .u64 0,.int .u64 0,.string ⟨#[]⟩] 46)
 have HA0:=yh h0
 have HB0:=yh ((Below.refl w.heap.size w).alloc (Nat.le_refl _) (.cells #[.int .i64 0,.string ⟨#[]⟩,.int .u64 0,.slice none 0 0,.int .u64 0,.int .u64 0,.string ⟨#[]⟩] 46))
 have q0:=zAA (i:=0) h0 rfl
 have y0:=zAC (i:=0) h0
 have q1:=zAA (i:=1) h0 rfl
 have y1:=zAC (i:=1) h0
 have q2:=zAA (i:=2) h0 rfl
 have y2:=zAC (i:=2) h0
 have q3:=zAA (i:=3) h0 rfl
 have y3:=zAC (i:=3) h0
 have q4:=zAA (i:=4) h0 rfl
 have y4:=zAC (i:=4) h0
 have q5:=zAA (i:=5) h0 rfl
 have y5:=zAC (i:=5) h0
 have q6:=zAA (i:=6) h0 rfl
 have y6:=zAC (i:=6) h0
 clear h0
 have d1:decide (ver<1)=false:=decide_eq_false (by omega)
 have d2:decide (ver > 3)=false:=decide_eq_false (by omega)
 have hv1:=hv.1
 have hv3:=hv.2
 clear hv
 unfold zRec at HAH
 unfold zCj
 simp only [zAi] at HAH
 go_enter Tryz.func73,Tryz.ntmps73
 go_wp2_with (go_at_call 87;refine HAH.out.mono ?_;rintro e w3 ⟨rfl,rfl⟩)
 refine bodyPost_ret (zAs rfl _ _ _ _ _ _ _ rfl HA0.out Tryz.underlying46 rfl (by kernel_rfl)) rfl ?_
 exact ⟨rfl,HB0.out⟩
theorem zLh (ver:Int) (hv:1≤ver∧ver≤3) (bt:Nat) (n c:Nat) (hc:n<c) (hn:n≤100000) (ad:Addr) (w:World) (HAH:Hid (Calls Tryz.prog 87 #[.slice (some (ad.add n)) 0 (c - n)] (w.alloc zRec) fun e w' =>e=.returned (.int .i64 ((zAi []:Nat):Int))∧w.alloc zRec=w')):zCj ver bt n c (some ad) w:=by
 have h0:=zAD w (.cells #[.int .i64 0,.string ⟨#[]⟩,.int .u64 0,.slice none 0 0,.int .u64 0,.int .u64 0,.string ⟨#[]⟩] 46)
 have HA0:=yh h0
 have HB0:=yh ((Below.refl w.heap.size w).alloc (Nat.le_refl _) (.cells #[.int .i64 0,.string ⟨#[]⟩,.int .u64 0,.slice none 0 0,.int .u64 0,.int .u64 0,.string ⟨#[]⟩] 46))
 have q0:=zAA (i:=0) h0 rfl
 have y0:=zAC (i:=0) h0
 have q1:=zAA (i:=1) h0 rfl
 have y1:=zAC (i:=1) h0
 have q2:=zAA (i:=2) h0 rfl
 have y2:=zAC (i:=2) h0
 have q3:=zAA (i:=3) h0 rfl
 have y3:=zAC (i:=3) h0
 have q4:=zAA (i:=4) h0 rfl
 have y4:=zAC (i:=4) h0
 have q5:=zAA (i:=5) h0 rfl
 have y5:=zAC (i:=5) h0
 have q6:=zAA (i:=6) h0 rfl
 have y6:=zAC (i:=6) h0
 clear h0
 have d1:decide (ver<1)=false:=decide_eq_false (by omega)
 have d2:decide (ver > 3)=false:=decide_eq_false (by omega)
 have hv1:=hv.1
 have hv3:=hv.2
 clear hv
 unfold zRec at HAH
 unfold zCj
 simp only [zAi] at HAH
 go_enter Tryz.func73,Tryz.ntmps73
 go_wp2_with (go_at_call 87;refine HAH.out.mono ?_;rintro e w3 ⟨rfl,rfl⟩)
 refine bodyPost_ret (zAs rfl _ _ _ _ _ _ _ rfl HA0.out Tryz.underlying46 rfl (by kernel_rfl)) rfl ?_
 exact ⟨rfl,HB0.out⟩
theorem zNO (ver:Int) (hv:1≤ver∧ver≤3) (bt n c B:Nat) (ps:List (List UInt8)) (A:Option Addr) (hA:A=none→n=0∧c=0) (hn:n≤100000) (w:World) (hB:B≤w.heap.size) (hr:PlsC w B A n c ps):zCj ver bt n c A w:=by
 have hd:=hr.drop (k:=n) (Nat.le_refl _)
 rw [List.drop_of_length_le (by rw [hr.2.1];exact Nat.le_refl _),Nat.sub_self] at hd
 have hah:=fun W hb =>zDS B 0 (c - n) [] _ (by omega) W (hd.below hb)
 have hcn:=hr.1
 have hb0:=((Below.refl w.heap.size w).alloc (Nat.le_refl _) zRec).mono hB
 cases A with
 | none =>
  obtain ⟨rfl,rfl⟩:=hA rfl
  have h1:=hah _ hb0
  simp only [Nat.sub_self] at h1
  refine zLf ver hv bt w (yh ?_)
  simpa using h1
 | some ad =>
  by_cases hc:c=n
  ·subst hc
   have h1:=hah _ hb0
   rw [if_pos rfl,Nat.sub_self] at h1
   exact zLg ver hv bt c hn ad w (yh h1)
  ·have h1:=hah _ hb0
   rw [if_neg hc] at h1
   exact zLh ver hv bt n c (by omega) hn ad w (yh h1)
open Go.ChangeShapes Go.WideShapes Go.ChangeAt Go.RowKit Go.Deep
theorem zBT {cs:List Value} {j:Nat} {v:Value} (h:(cs.drop j).take 1=[v]):cs[j]? = some v:=by
 have:=congrArg (fun l:List Value =>l[0]?) h
 simpa using this
theorem zHp (s:ByteArray):tx s.data.toList=s:=by
 cases s
 simp [tx]
theorem zIQ (W:World) (ad:Addr):∀ n:Nat,(∀ i,i<n→∃ d:Dp,d.name.length≤maxLen∧W.cell? (ad.add (i * 3))=some (rsv d.name)∧W.cell? (ad.add (i * 3+1))=some (.int .u64 d.hash)∧W.cell? (ad.add (i * 3+2))=some (.bool d.order)) →
  ∃ l:List Dp,l.length=n∧(∀ d ∈ l,d.name.length≤maxLen)∧∀ i d,l[i]? = some d→W.cell? (ad.add (i * 3))=some (rsv d.name)∧W.cell? (ad.add (i * 3+1))=some (.int .u64 d.hash)∧W.cell? (ad.add (i * 3+2))=some (.bool d.order)
 | 0,_ =>⟨[],rfl,by simp,by simp⟩
 | n+1,h =>by
  obtain ⟨ts,h1,h2,h3⟩:=zIQ W ad n (fun i hi =>h i (by omega))
  obtain ⟨t,g1,g2⟩:=h n (by omega)
  refine ⟨ts++[t],by simp [h1],?_,?_⟩
  ·intro u hu
   rcases List.mem_append.1 hu with hu | hu
   ·exact h2 u hu
   ·have:u=t:=by simpa using hu
    rw [this];exact g1
  ·intro i u hu
   rcases Nat.lt_or_ge i ts.length with hlt | hge
   ·rw [List.getElem?_append_left hlt] at hu
    exact h3 i u hu
   ·rw [List.getElem?_append_right hge] at hu
    have hi:i=n:=by
     rcases Nat.lt_or_ge (i - ts.length) 1 with h4 | h4
     ·omega
     ·rw [List.getElem?_eq_none (by simpa using h4)] at hu;cases hu
    subst hi
    rw [h1,Nat.sub_self] at hu
    have:t=u:=by simpa using hu
    rw [← this];exact g2
theorem zIR:∀ (l:List Dp) (j:Nat) (u:Value),(dps l)[j]? = some u→∃ t,l[j / 3]? = some t∧((j % 3=0∧u=rsv t.name)∨(j % 3=1∧u=.int .u64 t.hash)∨(j % 3=2∧u=.bool t.order))
 | [],j,u,h =>by simp [dps] at h
 | a :: l,j,u,h =>by
  have e:(Dp.cells a++dps l)[j]? = some u:=h
  rcases Nat.lt_or_ge j 3 with hlt | hge
  ·rw [List.getElem?_append_left (by simp [Dp.cells];omega)] at e
   refine ⟨a,by rw [show j / 3=0 by omega];rfl,?_⟩
   obtain rfl | rfl | rfl:j=0∨j=1∨j=2:=by omega
   ·exact .inl ⟨rfl,(Option.some.inj e).symm⟩
   ·exact .inr (.inl ⟨rfl,(Option.some.inj e).symm⟩)
   ·exact .inr (.inr ⟨rfl,(Option.some.inj e).symm⟩)
  ·rw [List.getElem?_append_right (by simp [Dp.cells];omega)] at e
   have e2:(dps l)[j - 3]? = some u:=e
   obtain ⟨t,h1,h2⟩:=zIR l (j - 3) u e2
   refine ⟨t,by rw [show j / 3=(j - 3) / 3+1 by omega];simpa using h1,?_⟩
   rw [show j % 3=(j - 3) % 3 by omega]
   exact h2
theorem zOZ:Tryz.prog.cellsOf 77=3:=by kernel_rfl
theorem zGO:Tryz.prog.cellsOf 9=1:=by kernel_rfl
theorem zDy:Tryz.prog.cellsOf 43=1:=by kernel_rfl
theorem zLL:Tryz.prog.cellsOf 4=1:=by kernel_rfl
theorem zOa:Tryz.prog.cellsOf 3=1:=by kernel_rfl
theorem zLM:Tryz.prog.cellsOf 44=1:=by kernel_rfl
theorem zOb:Tryz.prog.cellsOf 46=7:=by kernel_rfl
theorem zLz {H:Type} {enc:TypeId×Value→H} {W:World} {fuel:Nat} {cs:List Value} {x:DataW H×List MemPlace} (hf:DataW.trod enc Tryz.prog W 0 (fun _ =>true) true fuel 44 cs=some x) :
  ∃ (A:Option Addr) (n c:Nat) (l:List Dp),cs=[.slice A n c]∧n≤maxLen∧(A=none→c=0)∧(∀ d ∈ l,d.name.length≤maxLen)∧zAE W W.heap.size 3 A n (dps l):=by
 rcases Go.Deep.open_slice Tryz.underlying44 hf with ⟨hcs,_⟩ | ⟨ad,n,c,m,k,D,Pl,hcs,_,hl,hmx,hm,_,hi⟩
 ·exact ⟨none,0,0,[],hcs,by omega,fun _ =>rfl,by simp,by simp [dps],fun h =>absurd h (by omega)⟩
 ·have hnm:n≤m:=by rw [hm];simp;exact hl
  have hall:∀ i,i<n→∃ d:Dp,d.name.length≤maxLen∧W.cell? (ad.add (i * 3))=some (rsv d.name)∧W.cell? (ad.add (i * 3+1))=some (.int .u64 d.hash)∧W.cell? (ad.add (i * 3+2))=some (.bool d.order):=by
   intro i hin
   obtain ⟨cs,hcell,htr⟩:=hi i (by omega)
   rw [zOZ] at hcell
   obtain ⟨_,_,hat⟩:=World.cells?_some hcell
   obtain ⟨y0,y1,y2,n',_,_,g0,g1,g2⟩:=trod_struct3 Tryz.underlying77 htr
   rw [zGO] at g0
   rw [zDy] at g1
   rw [zLL] at g2
   obtain ⟨z0,e0,_,w0⟩:=DataW.trod_string Tryz.underlying9 g0
   obtain ⟨z1,e1,_,w1⟩:=DataW.trod_int Tryz.underlying43 g1
   obtain ⟨z2,e2,_⟩:=DataW.trod_bool Tryz.underlying4 g2
   refine ⟨⟨z0.data.toList,z1,z2⟩,by rw [Array.length_toList];exact w0,?_,?_,?_⟩
   ·have h:=hat 0 (by omega)
    rw [zCb,zBT e0] at h
    show _=some (rsv z0.data.toList)
    rw [rsv,zHp]
    exact h
   ·have h:=hat 1 (by omega)
    rw [zCb,zBT e1] at h
    exact h
   ·have h:=hat 2 (by omega)
    rw [zCb,zBT e2] at h
    exact h
  obtain ⟨l,h1,h2,h3⟩:=zIQ W ad n hall
  refine ⟨some ad,n,c,l,hcs,by omega,fun h =>(by cases h),h2,by rw [zAr,h1],fun hn =>⟨ad,rfl,?_,fun j u hu =>?_⟩⟩
  ·obtain ⟨t,_,h4,_⟩:=hall 0 hn
   have:=zJd h4
   rwa [zAQ] at this
  ·obtain ⟨t,g1,g2⟩:=zIR l j u hu
   obtain ⟨q0,q1,q2⟩:=h3 _ t g1
   rcases g2 with ⟨hj,rfl⟩ | ⟨hj,rfl⟩ | ⟨hj,rfl⟩
   ·rw [show j / 3 * 3=j by omega] at q0;exact q0
   ·rw [show j / 3 * 3+1=j by omega] at q1;exact q1
   ·rw [show j / 3 * 3+2=j by omega] at q2;exact q2
theorem zFY {H:Type} {enc:TypeId×Value→H} {P:Program} {w:World} {base:Nat} {spare:Nat→Bool} {held:Bool} {t:TypeId} {f0 f1 f2 f3 f4 f5 f6:Field} {fuel:Nat} {cs:List Value} {x:DataW H×List MemPlace} (ht:P.underlying t=some (.struct #[f0,f1,f2,f3,f4,f5,f6])) (h:DataW.trod enc P w base spare held fuel t cs=some x) :
  ∃ y0 y1 y2 y3 y4 y5 y6 n,cs.length=P.cellsOf t∧DataW.trod enc P w base spare held n f0.type ((cs.drop f0.offset).take (P.cellsOf f0.type))=some y0∧DataW.trod enc P w base spare held n f1.type ((cs.drop f1.offset).take (P.cellsOf f1.type))=some y1∧DataW.trod enc P w base spare held n f2.type ((cs.drop f2.offset).take (P.cellsOf f2.type))=some y2∧DataW.trod enc P w base spare held n f3.type ((cs.drop f3.offset).take (P.cellsOf f3.type))=some y3∧DataW.trod enc P w base spare held n f4.type ((cs.drop f4.offset).take (P.cellsOf f4.type))=some y4∧DataW.trod enc P w base spare held n f5.type ((cs.drop f5.offset).take (P.cellsOf f5.type))=some y5∧DataW.trod enc P w base spare held n f6.type ((cs.drop f6.offset).take (P.cellsOf f6.type))=some y6:=by
 obtain ⟨xs,n,_,rfl,hl,hlen,hf⟩:=DataW.trod_struct ht h
 match xs,hlen with
 | [y0,y1,y2,y3,y4,y5,y6],_ =>exact ⟨y0,y1,y2,y3,y4,y5,y6,n,hl,by simpa using hf 0 f0 rfl,by simpa using hf 1 f1 rfl,by simpa using hf 2 f2 rfl,by simpa using hf 3 f3 rfl,by simpa using hf 4 f4 rfl,by simpa using hf 5 f5 rfl,by simpa using hf 6 f6 rfl⟩
theorem zJL {H:Type} {enc:TypeId×Value→H} {W:World} {fuel:Nat} {cs:List Value} {x:DataW H×List MemPlace} (hf:DataW.trod enc Tryz.prog W 0 (fun _ =>true) true fuel 46 cs=some x) :
  ∃ (r:Rc) (A:Option Addr) (n c:Nat) (l:List Dp),cs=(zAY r A n c).toList∧n≤maxLen∧(A=none→c=0)∧Fits r l∧zAE W W.heap.size 3 A n (dps l):=by
 obtain ⟨y0,y1,y2,y3,y4,y5,y6,n',hl,g0,g1,g2,g3,g4,g5,g6⟩:=zFY Tryz.underlying46 hf
 rw [zOb] at hl
 rw [zOa] at g0
 rw [zGO] at g1
 rw [zDy] at g2
 rw [zLM] at g3
 rw [zDy] at g4
 rw [zDy] at g5
 rw [zGO] at g6
 obtain ⟨z0,e0,_,w0⟩:=DataW.trod_int Tryz.underlying3 g0
 obtain ⟨z1,e1,_,w1⟩:=DataW.trod_string Tryz.underlying9 g1
 obtain ⟨z2,e2,_,w2⟩:=DataW.trod_int Tryz.underlying43 g2
 obtain ⟨A,n,c,l,e3,hn,hA,hd,hr⟩:=zLz g3
 obtain ⟨z4,e4,_,w4⟩:=DataW.trod_int Tryz.underlying43 g4
 obtain ⟨z5,e5,_,w5⟩:=DataW.trod_int Tryz.underlying43 g5
 obtain ⟨z6,e6,_,w6⟩:=DataW.trod_string Tryz.underlying9 g6
 refine ⟨⟨z0,z1.data.toList,z2,z4,z5,z6.data.toList⟩,A,n,c,l,?_,hn,hA,⟨by rw [Array.length_toList];exact w1,by rw [Array.length_toList];exact w6,hd⟩,hr⟩
 match cs,hl with
 | [c0,c1,c2,c3,c4,c5,c6],_ =>
  have f0:=zBT e0
  have f1:=zBT e1
  have f2:=zBT e2
  have f3:=zBT e3
  have f4:=zBT e4
  have f5:=zBT e5
  have f6:=zBT e6
  simp at f0 f1 f2 f3 f4 f5 f6
  subst f0 f1 f2 f3 f4 f5 f6
  unfold zAY
  simp only [zHp]
theorem wf64 {z:Int} (h:(Lit.int .u64 z).wf=true):0≤z∧z<18446744073709551616:=by
 have hx:0≤z∧z≤18446744073709551615:=by simpa [Lit.wf,IntKind.min,IntKind.max,IntKind.signed,IntKind.bits] using h
 omega
theorem zLQ {H:Type} {enc:TypeId×Value→H} {W:World} {fuel:Nat} {A:Option Addr} {n c:Nat} {l:List Dp} {x:DataW H×List MemPlace} (hf:DataW.trod enc Tryz.prog W 0 (fun _ =>true) true fuel 44 [.slice A n c]=some x) (hr:zAE W W.heap.size 3 A n (dps l)):∀ d ∈ l,0≤d.hash∧d.hash<18446744073709551616:=by
 have hln:l.length=n:=by have:=hr.1;rw [zAr] at this;omega
 rcases Go.Deep.open_slice Tryz.underlying44 hf with ⟨hcs,_⟩ | ⟨ad,n',c',m,k,D,Pl,hcs,_,hl,hmx,hm,_,hi⟩
 ·have h1:n=0:=by injection hcs with h1;injection h1
  intro d hd
  have:l=[]:=List.eq_nil_of_length_eq_zero (by omega)
  rw [this] at hd
  cases hd
 ·obtain ⟨rfl,rfl,rfl⟩:A=some ad∧n=n'∧c=c':=by
   injection hcs with h1 _
   injection h1 with h2 h3 h4
   exact ⟨h2,h3,h4⟩
  intro d hd
  obtain ⟨i,hlt,hid⟩:=List.mem_iff_getElem.1 hd
  have hid':l[i]? = some d:=by rw [List.getElem?_eq_getElem hlt,hid]
  obtain ⟨_,g,_⟩:=zBP l i d hid'
  obtain ⟨ad',hae,_,hc⟩:=hr.2 (by omega)
  obtain rfl:ad=ad':=Option.some.inj hae
  have hcell:=hc _ _ g
  have hnm:n≤m:=by rw [hm];simp;exact hl
  obtain ⟨cs,hcs2,htr⟩:=hi i (by omega)
  rw [zOZ] at hcs2
  obtain ⟨_,_,hat⟩:=World.cells?_some hcs2
  obtain ⟨y0,y1,y2,nn,_,_,g0,g1,g2⟩:=trod_struct3 Tryz.underlying77 htr
  rw [zGO] at g0
  rw [zDy] at g1
  rw [zLL] at g2
  obtain ⟨z1,e1,_,w1⟩:=DataW.trod_int Tryz.underlying43 g1
  have h:=hat 1 (by omega)
  rw [zCb,zBT e1] at h
  have h2:some (Value.int .u64 z1)=some (Value.int .u64 d.hash):=h.symm.trans hcell
  injection h2 with h3
  injection h3 with _ h4
  rw [← h4]
  exact wf64 w1
theorem zJM {H:Type} {enc:TypeId×Value→H} {W:World} {fuel:Nat} {r:Rc} {A:Option Addr} {n c:Nat} {l:List Dp} {x:DataW H×List MemPlace} (hf:DataW.trod enc Tryz.prog W 0 (fun _ =>true) true fuel 46 (zAY r A n c).toList=some x) (hr:zAE W W.heap.size 3 A n (dps l)):Nums r l:=by
 obtain ⟨y0,y1,y2,y3,y4,y5,y6,n',hl,g0,g1,g2,g3,g4,g5,g6⟩:=zFY Tryz.underlying46 hf
 rw [zOa] at g0
 rw [zGO] at g1
 rw [zDy] at g2
 rw [zLM] at g3
 rw [zDy] at g4
 rw [zDy] at g5
 obtain ⟨z2,e2,_,w2⟩:=DataW.trod_int Tryz.underlying43 g2
 obtain ⟨z4,e4,_,w4⟩:=DataW.trod_int Tryz.underlying43 g4
 obtain ⟨z5,e5,_,w5⟩:=DataW.trod_int Tryz.underlying43 g5
 have f2:Value.int .u64 r.rule=.int .u64 z2:=Option.some.inj (zBT e2)
 have f4:Value.int .u64 r.out=.int .u64 z4:=Option.some.inj (zBT e4)
 have f5:Value.int .u64 r.time=.int .u64 z5:=Option.some.inj (zBT e5)
 injection f2 with _ f2
 injection f4 with _ f4
 injection f5 with _ f5
 refine ⟨by rw [f2];exact wf64 w2,by rw [f4];exact wf64 w4,by rw [f5];exact wf64 w5,zLQ (A:=A) (n:=n) (c:=c) g3 hr⟩
theorem zKj {H:Type} {enc:TypeId×Value→H} {W:World} {v:Value} {d:DataW H} {ps:List MemPlace} {r0:Reach} {b0:Nat} (hval:Value.okWide Tryz.prog W r0 b0 22 v) (hd:DataW.Trod enc Tryz.prog W 0 (fun _ =>true) true 22 v d ps) :
  ∃ (A:Option Addr) (n c:Nat) (xs:List Rw),v=.slice A n c∧n≤maxLen∧(A=none→c=0)∧(∀ x ∈ xs,Fits x.r x.l∧x.n≤maxLen∧Nums x.r x.l)∧Recs W W.heap.size A n xs:=by
 obtain ⟨A0,n0,c0,rfl⟩:=okWide_slice Tryz.underlying22 hval
 obtain ⟨fuel,hf⟩:=hd
 rcases Go.Deep.open_slice Tryz.underlying22 hf with ⟨hcs,_⟩ | ⟨ad,n,c,m,k,D,Pl,hcs,_,hl,hmx,hm,_,hi⟩
 ·have e:Value.slice A0 n0 c0=.slice none 0 0:=by simpa [Value.cells] using hcs
  exact ⟨none,0,0,[],e,by omega,fun _ =>rfl,by simp,Recs.nil _ _ _⟩
 ·have hnm:n≤m:=by rw [hm];simp;exact hl
  have e:Value.slice A0 n0 c0=.slice (some ad) n c:=by simpa [Value.cells] using hcs
  have hall:∀ i,i<n→∃ x:Rw,(((Fits x.r x.l∧x.n≤maxLen∧Nums x.r x.l)∧(zAE W W.heap.size 3 x.A x.n (dps x.l)∧(x.A=none→x.c=0))))∧∀ k u,x.cells[k]? = some u→W.cell? (ad.add (i * 7+k))=some u:=by
   intro i hin
   obtain ⟨cs,hcell,htr⟩:=hi i (by omega)
   rw [zOb] at hcell
   obtain ⟨_,_,hat⟩:=World.cells?_some hcell
   obtain ⟨r,A,n',c',l,rfl,h2,h3,h4,h5⟩:=zJL htr
   refine ⟨⟨r,A,n',c',l⟩,⟨⟨h4,h2,zJM htr h5⟩,h5,h3⟩,fun k u hu =>?_⟩
   have hk:k<7:=(List.getElem?_eq_some_iff.1 hu).1
   have h:=hat k (by omega)
   rw [zCb] at h
   rw [h]
   exact hu
  obtain ⟨xs,h1,h2,h3⟩:=zIk W ad _ n hall
  refine ⟨some ad,n,c,xs,e,by omega,fun h =>(by cases h),fun x hx =>(h2 x hx).1,⟨by rw [zES,h1],fun hn =>⟨ad,rfl,?_,fun j u hu =>?_⟩⟩,fun x hx =>(h2 x hx).2⟩
  ·obtain ⟨x,_,h4⟩:=hall 0 hn
   have:=zJd (h4 0 _ rfl)
   rwa [zAQ] at this
  ·obtain ⟨x,g1,g2⟩:=zIq xs j u hu
   have:=h3 _ x g1 _ u g2
   rwa [show j / 7 * 7+j % 7=j by omega] at this
end Go.Proofs.YtfbgmehicmpdiaaGreatDoor
