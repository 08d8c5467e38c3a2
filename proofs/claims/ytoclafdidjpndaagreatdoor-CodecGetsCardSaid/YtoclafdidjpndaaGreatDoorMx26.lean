/- Texts of one proof. -/
import Derived.Test.YtoclafdidjpndaaGreatDoorMx22
set_option maxRecDepth 100000
set_option maxHeartbeats 8000000
namespace Go.Proofs.YtoclafdidjpndaaGreatDoor
open Go.RowKit
theorem zCB {l:List (List UInt8)} {s:List UInt8} (h:s ∈ l):zCM l s=(tnum l s:Int):=by
 unfold zCM tnum
 rw [if_pos h]
 simp [h]
theorem zDG {l:List (List UInt8)} {s:List UInt8} (h:s ∉ l):zCM l s = -1:=by
 unfold zCM
 rw [if_neg h]
theorem zBi (ver:Int) (hv:1≤ver) (L:Option Addr) (n c:Nat) (l:List (List UInt8)) (s:List UInt8) (hs:s.length≤300) (hin:ver<2∨s ∈ l) (hl:l.length≤1000000) (w:World) (hr:zAE w w.heap.size 1 L n (l.map tsv)) :
  Calls Tryz.prog 38 #[.int .i64 ver,.slice L n c,.string (tx s)] w fun e w' =>e=.returned (.string (tx (nmB ver l s)))∧Below w.heap.size w w':=by
 have hn:n≤1000000:=by have:=hr.1;simp at this;omega
 by_cases h1:ver<2
 ·obtain rfl:ver=1:=by omega
  have he:nmB 1 l s=blob s:=by unfold nmB;rw [if_pos (by omega)]
  rw [he]
  have HP:=yh (fun W =>zHM s (by omega) W)
  go_enter Tryz.func38,Tryz.ntmps38
  go_wp2_with fail
  refine (HP.out _).mono ?_
  rintro e w3 ⟨rfl,hb3⟩
  go_wp2
  go_ret
  exact ⟨rfl,hb3⟩
 ·have hin':s ∈ l:=hin.resolve_left h1
  have he:nmB ver l s=vb (tnum l s):=by unfold nmB;rw [if_neg h1]
  rw [he]
  have hlt:=zDP hin'
  have hpl:=zBo L n c l s (by omega) w hr
  rw [zCB hin'] at hpl
  have hput:=fun W =>zAW (tnum l s) (by unfold top;omega) W
  generalize tnum l s=k at *
  have HP:=yh hpl
  have HU:=yh hput
  unfold tsv at HP
  have h2:(ver == 1)=false:=by rw [beq_eq_false_iff_ne];omega
  have hk0:(0:Int)≤(k:Int):=by omega
  have hk1:(k:Int)≤1000000:=by omega
  clear hpl hput he hr hin
  go_enter Tryz.func38,Tryz.ntmps38
  go_wp2_with fail
  refine HP.out.mono ?_
  rintro e w3 ⟨rfl,rfl⟩
  go_wp2_with fail
  refine (HU.out _).mono ?_
  rintro e w4 ⟨rfl,hb4⟩
  go_wp2
  go_ret
  exact ⟨rfl,hb4⟩
theorem zBj {w:World} {b n size:Nat} {e:TypeId} {v v' x:Value} {xs:List Value} (h:zBA v x) (hx:w.ownsRow b e size x n xs) (hv:v'.ownBlock=v.ownBlock∨v'.ownBlock=some w.heap.size):zBA v' x:=by
 intro g hg h2
 rcases hv with e | e
 ·exact h g (e▸hg) h2
 ·rw [e] at hg
  obtain rfl:w.heap.size=g:=by simpa using hg
  have:=zAV hx _ h2
  omega
theorem zDq {w:World} {b n size:Nat} {e:TypeId} {v x:Value} {xs:List Value} (hv:w.ownsRow b e size v n xs) (hx:∀ g,x.ownBlock=some g→w.heap.size≤g):zBA v x:=by
 intro g hg h2
 have h3:=zAV hv g hg
 have h4:=hx g h2
 omega
def zDR (B0 B:Nat) (W0:World) (tl ns:List (List UInt8)) (vn v1 v9 v11:Value) (wr:World):Prop :=
 ∃ (i:Nat) (a1 a9:Value),a1=v1∧a9=v9∧i≤ns.length∧v11=.int .i64 (i:Int)∧Own wr B0 a1 ((ns.take i).foldl tput tl)∧Own wr B a9 (zAS tl (ns.take i))∧Own wr 0 vn ns∧zBA a9 a1∧zBA a9 vn∧Below B W0 wr
theorem zGs {B0 B:Nat} {wr:World} {tl ns:List (List UInt8)} {a1 a9:Value} {i:Nat} {s:List UInt8} (hs:ns[i]? = some s) (hin:s ∈ (ns.take i).foldl tput tl) (h1:Own wr B0 a1 ((ns.take i).foldl tput tl)) (h2:Own wr B a9 (zAS tl (ns.take i))) :
  Own wr B0 a1 ((ns.take (i+1)).foldl tput tl)∧Own wr B a9 (zAS tl (ns.take (i+1))):=by
 have e1:(ns.take (i+1)).foldl tput tl=(ns.take i).foldl tput tl:=by rw [List.take_add_one,hs,List.foldl_append];exact zCc hin
 have e2:zAS tl (ns.take (i+1))=zAS tl (ns.take i):=by rw [List.take_add_one,hs];exact (zCi _ _ _).trans (by rw [if_pos hin,List.append_nil])
 rw [e1,e2]
 exact ⟨h1,h2⟩
theorem zFS {tl ns:List (List UInt8)} {i:Nat} {s:List UInt8} (hs:ns[i]? = some s) (hin:s ∉ (ns.take i).foldl tput tl) :
  (ns.take (i+1)).foldl tput tl=tput ((ns.take i).foldl tput tl) s∧zAS tl (ns.take (i+1))=zAS tl (ns.take i)++[0 :: s]:=by
 have e1:(ns.take (i+1)).foldl tput tl=tput ((ns.take i).foldl tput tl) s:=by rw [List.take_add_one,hs,List.foldl_append];rfl
 have e2:zAS tl (ns.take (i+1))=zAS tl (ns.take i)++[0 :: s]:=by rw [List.take_add_one,hs];exact (zCi _ _ _).trans (by rw [if_neg hin])
 exact ⟨e1,e2⟩
def zEC (ver:Int) (T:List (List UInt8)) (s:List UInt8) (l:List Dp) (ws:World) (v12 v13:Value) (wr:World):Prop :=
 ∃ j:Nat,j≤l.length∧v13=.int .i64 (j:Int)∧v12=.string (tx (s++(l.take j).flatMap (fDep ver T)))∧Below ws.heap.size ws wr
theorem zFj {ver:Int} {T:List (List UInt8)} {s:List UInt8} {l:List Dp} {j:Nat} {x:Dp} (h:l[j]? = some x):s++(l.take (j+1)).flatMap (fDep ver T)=(s++(l.take j).flatMap (fDep ver T))++fDep ver T x:=by
 rw [List.take_add_one,h,List.flatMap_append];simp
theorem zPK (S:Nat→Prop) (bt B N n c a:Nat) (ver:Int) (tl:List (List UInt8)) (r:Rc) (l:List Dp) (pre post:List (List UInt8)) (A:Option Addr) (hm:MayP ver r l) (hfit:Fits r l) (hnu:Nums r l) (hn2:n≤100000) (htl:tl.length≤800000000) (hN:N≤800000000) (ha:pre.length=a) (w:World) (hB:B≤w.heap.size) (hT:Tab w S bt N tl) (hr:PlsT w B S A n c (pre++(payL ver tl r l++post))) :
    Calls Tryz.prog 44 #[.int .i64 ver,.pointer (some ⟨bt,0,none⟩),.slice A n c,.int .i64 (a:Int)] w fun e w' =>∃ (A':Option Addr) (n' c':Nat) (S':Nat→Prop),e=.returned (.tuple #[rcv r A' n' c',.int .i64 ((a+(payL ver tl r l).length:Nat):Int),.int .i64 0])∧Deps w' w.heap.size A' n' c' l∧(∀ ad,A'=some ad→¬ S' ad.block)∧(∃ N',N'≤N+36∧Tab w' S' bt N' (tabT ver tl r l))∧(∀ k,S' k→k<w'.heap.size∧(S k∨w.heap.size≤k))∧Turn S w w':=by
  have hver:ver=1∨ver=2∨ver=3:=by have:=hm.1;have:=hm.2.1;omega
  have hv1:=hm.1
  have hv3:=hm.2.1
  have d1:decide (ver<1)=false:=decide_eq_false (by omega)
  have d2:decide (ver > 3)=false:=decide_eq_false (by omega)
  obtain ⟨q,hq⟩:∃ q,q=(freT ver tl r l).length:=⟨_,rfl⟩
  have hq18:q≤18:=by rw [hq];exact zNY hm
  have hpl:(payL ver tl r l).length=q+1:=by unfold payL;rw [List.length_append,← hq];rfl
  have hlen:n=a+(q+1)+post.length:=by have h1:=hr.2.1;rw [List.length_append,List.length_append,hpl,ha] at h1;omega
  have hcn:n≤c:=hr.1
  have hrd:=hr.drop (k:=a) (by omega)
  have hdrop:(pre++(payL ver tl r l++post)).drop a=payL ver tl r l++post:=by rw [← ha,List.drop_left]
  rw [hdrop,if_neg (by omega)] at hrd
  obtain ⟨ad,rfl,hab,_⟩:∃ ad,A=some ad∧ad.block<B∧True:=by
    obtain ⟨_,_,vs,h1,_⟩:=hr
    obtain ⟨ad,h2,h3,_⟩:=h1.2 (by omega)
    exact ⟨ad,h2,h3,trivial⟩
  have hrf:=hrd.upto (k:=q+1) (by omega)
  have htake:(payL ver tl r l++post).take (q+1)=freT ver tl r l++[payB ver (tabT ver tl r l) r l]:=by rw [List.take_append_of_le_length (by rw [hpl];exact Nat.le_refl _),List.take_of_length_le (by rw [hpl];exact Nat.le_refl _)];rfl
  rw [htake] at hrf
  have hah:zAh (payL ver tl r l++post)=q:=by
    unfold payL
    rw [List.append_assoc,List.singleton_append,zCu _ _ _ (fun t ht =>(zEw hm t ht).1) (zIM _ _ _ _),← hq]
  have h0:=zAG w (.cells #[.int .i64 0,.string ⟨#[]⟩,.int .u64 0,.slice none 0 0,.int .u64 0,.int .u64 0,.string ⟨#[]⟩] 45)
  have hz:(w.alloc (.cells #[.int .i64 0,.string ⟨#[]⟩,.int .u64 0,.slice none 0 0,.int .u64 0,.int .u64 0,.string ⟨#[]⟩] 45)).heap.size=w.heap.size+1:=by simp
  have hb0:=(Below.refl w.heap.size w).alloc (Nat.le_refl _) (.cells #[.int .i64 0,.string ⟨#[]⟩,.int .u64 0,.slice none 0 0,.int .u64 0,.int .u64 0,.string ⟨#[]⟩] 45)
  have hta:=zDW B (n - a) (c - a) (payL ver tl r l++post) (some (ad.add a)) (by omega) (w.alloc (.cells #[.int .i64 0,.string ⟨#[]⟩,.int .u64 0,.slice none 0 0,.int .u64 0,.int .u64 0,.string ⟨#[]⟩] 45)) (hrd.less.below (hb0.mono hB))
  rw [hah] at hta
  have HAH:=yh hta
  have ha0:(0:Int)≤(a:Int):=by omega
  have ha1:(a:Int)<(n:Int):=by omega
  have han:a<n:=by omega
  have haq:a+q<n:=by omega
  have haq1:a+q+1≤n:=by omega
  have haq2:(a:Int)+(q:Int)<(n:Int):=by omega
  have haq3:(a:Int)+(q:Int)+1≤(n:Int):=by omega
  have HB0:=yh hb0
  have HZ:=yh hz
  have HA0:=yh h0
  have HRF:=yh hrf
  obtain ⟨T0,hT0⟩:∃ T0:Nat→Prop,T0=fun k =>S k∧k<w.heap.size:=⟨_,rfl⟩
  have htz:Tab (w.alloc (.cells #[.int .i64 0,.string ⟨#[]⟩,.int .u64 0,.slice none 0 0,.int .u64 0,.int .u64 0,.string ⟨#[]⟩] 45)) T0 bt N tl:=by rw [hT0];exact (hT.wide (fun k h1 h2 =>⟨h1,h2⟩)).keep (fun k hk _ =>hb0.block k hk.2)
  have HLEN:=yh (zDO T0 bt N tl (w.alloc (.cells #[.int .i64 0,.string ⟨#[]⟩,.int .u64 0,.slice none 0 0,.int .u64 0,.int .u64 0,.string ⟨#[]⟩] 45)) htz)
  have hbig:(tabT ver tl r l).length≤1073741824:=by have:=zBb (tl:=tl) hm;omega
  have hpay:=zLa hm hnu hbig (zCG ver tl r l)
  have HTK:Hid (Calls Tryz.prog 62 #[.int .i64 ver,.pointer (some ⟨bt,0,none⟩),.slice (some (ad.add a)) (q+1) (c - a)] (w.alloc (.cells #[.int .i64 0,.string ⟨#[]⟩,.int .u64 0,.slice none 0 0,.int .u64 0,.int .u64 0,.string ⟨#[]⟩] 45)) fun e w' =>∃ (A':Option Addr) (n' c':Nat) (S':Nat→Prop),e=.returned (.agg #[.int .i64 r.kind,.string (tx r.target),.int .u64 r.rule,.slice A' n' c',.int .u64 r.out,.int .u64 r.time,.string (tx r.tag)])∧Deps w' (w.alloc (.cells #[.int .i64 0,.string ⟨#[]⟩,.int .u64 0,.slice none 0 0,.int .u64 0,.int .u64 0,.string ⟨#[]⟩] 45)).heap.size A' n' c' l∧(∀ ad,A'=some ad→¬ S' ad.block)∧Tab w' S' bt (N+q) (tabT ver tl r l)∧(∀ k,S' k→k<w'.heap.size∧(T0 k∨(w.alloc (.cells #[.int .i64 0,.string ⟨#[]⟩,.int .u64 0,.slice none 0 0,.int .u64 0,.int .u64 0,.string ⟨#[]⟩] 45)).heap.size≤k))∧Turn T0 (w.alloc (.cells #[.int .i64 0,.string ⟨#[]⟩,.int .u64 0,.slice none 0 0,.int .u64 0,.int .u64 0,.string ⟨#[]⟩] 45)) w'):=by
    have h1:=zFI T0 bt B N (q+1) (c - a) ver hver tl (freT ver tl r l) (payB ver (tabT ver tl r l) r l) (some (ad.add a)) (fun t ht =>(zEw hm t ht).2) (zMP hm hnu hbig) (by rw [← hq]) (by omega) (by omega) (by omega) (w.alloc (.cells #[.int .i64 0,.string ⟨#[]⟩,.int .u64 0,.slice none 0 0,.int .u64 0,.int .u64 0,.string ⟨#[]⟩] 45)) (by rw [hz];omega) htz ((hrf.turn (Turn.of_below hb0) hB).wide (fun k _ hk =>by rw [hT0] at hk;exact hk.1)) (tabT ver tl r l) (zFL _ _ _ _)
    rw [← hq,hpay.1,hpay.2] at h1
    exact h1
  have HBW:=yh hB
  have HT0:=yh hT0
  have HQ:=yh hq
  have HPLN:=yh hpl
  have HM:=yh hm
  have HFIT:=yh hfit
  have HNU:=yh hnu
  have hq1:a+q+1 - a=q+1:=by omega
  have HTL:=yh htl
  have HN:=yh hN
  clear hpay htz hT0 hB hT hq hm hfit hnu htl hN
  clear hr hrd hdrop htake hah hta h0 hz hb0 hlen hpl hrf
  go_enter Tryz.func44,Tryz.ntmps44
  go_wp2_with (go_at_call 60;refine HAH.out.mono ?_;rintro e w3 ⟨rfl,rfl⟩)
  go_wp2_with (go_at_call 61;refine HLEN.out.mono ?_;rintro e w3 ⟨rfl,rfl⟩)
  (
       refine HTK.out.mono ?_
       rintro e w4 ⟨A9,n9,c9,S9,rfl,hd9,hap9,ht9,hs9,htu9⟩
       have hz4:w4.heap[w.heap.size]? = some (.cells #[.int .i64 0,.string ⟨#[]⟩,.int .u64 0,.slice none 0 0,.int .u64 0,.int .u64 0,.string ⟨#[]⟩] 45 (0,0)):=(htu9.2.2.2.2 _ (by rw [HZ.out];omega) (fun h =>by rw [HT0.out] at h;omega)).trans HA0.out
       have f0:=zAA (i:=0) hz4 rfl
       have y0:=zAC (i:=0) hz4
       have f1:=zAA (i:=1) hz4 rfl
       have y1:=zAC (i:=1) hz4
       have f2:=zAA (i:=2) hz4 rfl
       have y2:=zAC (i:=2) hz4
       have f3:=zAA (i:=3) hz4 rfl
       have y3:=zAC (i:=3) hz4
       have f4:=zAA (i:=4) hz4 rfl
       have y4:=zAC (i:=4) hz4
       have f5:=zAA (i:=5) hz4 rfl
       have y5:=zAC (i:=5) hz4
       have f6:=zAA (i:=6) hz4 rfl
       have y6:=zAC (i:=6) hz4
       have hws:=(zAD (zAD (zAD (zAD (zAD (zAD (zAD hz4 0 (.int .i64 r.kind)) 1 (.string (tx r.target))) 2 (.int .u64 r.rule)) 3 (.slice A9 n9 c9)) 4 (.int .u64 r.out)) 5 (.int .u64 r.time)) 6 (.string (tx r.tag)))
       have htw:=((((((((Turn.refl (fun k =>k=w.heap.size) w4).setCell w.heap.size 0 (.int .i64 r.kind) rfl).setCell w.heap.size 1 (.string (tx r.target)) rfl).setCell w.heap.size 2 (.int .u64 r.rule) rfl).setCell w.heap.size 3 (.slice A9 n9 c9) rfl).setCell w.heap.size 4 (.int .u64 r.out) rfl).setCell w.heap.size 5 (.int .u64 r.time) rfl).setCell w.heap.size 6 (.string (tx r.tag)) rfl)
       have hnr:¬ S9 w.heap.size:=fun h =>by
         rcases (hs9 _ h).2 with h1 | h1
         · rw [HT0.out] at h1;omega
         · rw [HZ.out] at h1;omega
       have htw9:=ht9.turn htw (fun k hk _ h =>hnr (h▸hk))
       have hcut:=zEI S9 bt (N+q) (tabT ver tl r l) (tl.length:Int) (by have:=zBb (tl:=tl) HM.out;have:=HTL.out;omega) _ htw9
       rw [zHS] at hcut
       have HCUT:=yh hcut
       have HWS:=yh hws
       have HTW:=yh htw
       have HD9:=yh hd9
       have HAP9:=yh hap9
       have HS9:=yh hs9
       have HTU9:=yh htu9
       have HNR:=yh hnr
       clear hd9 hap9 ht9 hs9 htu9 hz4 hws htw hnr htw9 hcut)
  go_wp2_with (first
    | (go_at_call 63
       refine HCUT.out.mono ?_
       rintro e w5 ⟨rfl,ht5,htu5⟩
       have hlt5:w.heap.size<w4.heap.size:=by have h1:=HTU9.out.2.2.2.1;rw [HZ.out] at h1;omega
       have hrec5:w5.heap[w.heap.size]? = some (.cells #[.int .i64 r.kind,.string (tx r.target),.int .u64 r.rule,.slice A9 n9 c9,.int .u64 r.out,.int .u64 r.time,.string (tx r.tag)] 45 (0,0)):=(htu5.2.2.2.2 _ (Nat.lt_of_lt_of_le hlt5 HTW.out.2.2.2.1) HNR.out).trans HWS.out
       have g0:=zAA (i:=0) hrec5 rfl
       have g1:=zAA (i:=1) hrec5 rfl
       have g2:=zAA (i:=2) hrec5 rfl
       have g3:=zAA (i:=3) hrec5 rfl
       have g4:=zAA (i:=4) hrec5 rfl
       have g5:=zAA (i:=5) hrec5 rfl
       have g6:=zAA (i:=6) hrec5 rfl
       have hown9:∀ g,(Value.slice A9 n9 c9).ownBlock=some g→g<w4.heap.size∧g≠w.heap.size∧¬ S9 g:=fun g hg =>by
         refine ⟨zAV HD9.out.1 g hg,fun h =>?_,fun h =>?_⟩
         · have h1:=zAI HD9.out.1 g hg
           rw [HZ.out] at h1
           omega
         · cases A9 with
           | none =>cases hg
           | some x =>exact HAP9.out x rfl (by have h1:x.block=g:=Option.some.inj hg;rw [h1];exact h)
       have hown5:=zAT (w':=w5) HD9.out.1 (fun g hg =>(htu5.2.2.2.2 g (Nat.lt_of_lt_of_le (hown9 g hg).1 HTW.out.2.2.2.1) (hown9 g hg).2.2).trans (HTW.out.2.2.2.2 g (hown9 g hg).1 (hown9 g hg).2.1))
       have HPUT:=yh (zIG S9 bt (N+q) n9 c9 ver tl r A9 l HM.out HFIT.out HNU.out (by have:=HTL.out;omega) (by have:=HN.out;omega) w5 ht5 (fun ad h1 _ =>HAP9.out ad h1) (zAE.of_own hown5))
       have HREC5:=yh hrec5
       have HOWN5:=yh hown5
       have HOWN9:=yh hown9
       have HTU5:=yh htu5
       have HLT5:=yh hlt5
       clear hrec5 hown5 hown9 htu5 ht5 hlt5)
    | (go_at_call 29
       refine HPUT.out.mono ?_
       rintro e w6 ⟨va6,S6,rfl,ht6,hs6,⟨vs6,hv6⟩,htu6⟩
       have ho6:=hv6.1
       rw [HPLN.out] at ho6
       obtain ⟨A6,c6,rfl,hc6⟩:=zAH ho6
       have hrec6:w6.heap[w.heap.size]? = some (.cells #[.int .i64 r.kind,.string (tx r.target),.int .u64 r.rule,.slice A9 n9 c9,.int .u64 r.out,.int .u64 r.time,.string (tx r.tag)] 45 (0,0)):=(htu6.2.2.2.2 _ (Nat.lt_of_lt_of_le (Nat.lt_of_lt_of_le HLT5.out HTW.out.2.2.2.1) HTU5.out.2.2.2.1) HNR.out).trans HREC5.out
       have k0:=zAA (i:=0) hrec6 rfl
       have m0:=zAC (i:=0) hrec6
       have k1:=zAA (i:=1) hrec6 rfl
       have m1:=zAC (i:=1) hrec6
       have k2:=zAA (i:=2) hrec6 rfl
       have m2:=zAC (i:=2) hrec6
       have k3:=zAA (i:=3) hrec6 rfl
       have m3:=zAC (i:=3) hrec6
       have k4:=zAA (i:=4) hrec6 rfl
       have m4:=zAC (i:=4) hrec6
       have k5:=zAA (i:=5) hrec6 rfl
       have m5:=zAC (i:=5) hrec6
       have k6:=zAA (i:=6) hrec6 rfl
       have m6:=zAC (i:=6) hrec6
       have hs9b:∀ k,S9 k→S k∨w.heap.size+1≤k:=fun k hk =>by
         rcases (HS9.out k hk).2 with h1 | h1
         · rw [HT0.out] at h1;exact .inl h1.1
         · rw [HZ.out] at h1;exact .inr h1
       have hbw6:Turn S w w6:=((((Turn.of_below HB0.out).trans HTU9.out (fun k _ h =>by rw [HT0.out] at h;exact h.1)).trans HTW.out (fun k hk h =>by omega)).trans HTU5.out (fun k hk h =>(hs9b k h).resolve_right (by omega))).trans htu6 (fun k hk h =>(hs9b k h).resolve_right (by omega))
       have heqf:=zFB w6.heap.size B (q+1) c6 (q+1) (c - a) A6 (some (ad.add a)) (payL ver tl r l) (payL ver tl r l) (by omega) (by omega) w6 (PlsC.of_rows HPLN.out.symm ⟨vs6,hv6⟩) (HRF.out.turn hbw6 HBW.out).less
       rw [decide_eq_true rfl] at heqf
       have HEQF:=yh heqf
       have HREC6:=yh hrec6
       have HTU6:=yh htu6
       have HS6:=yh hs6
       have HT6:=yh ht6
       clear hrec6 hs9b hbw6 heqf htu6 hs6 ht6 hv6 ho6 hc6)
    | (go_at_call 64
       refine HEQF.out.mono ?_
       rintro e w7 ⟨rfl,rfl⟩))
  have hfin:=(zAD (zAD (zAD (zAD (zAD (zAD (zAD HREC6.out 0 (.int .i64 r.kind)) 1 (.string (tx r.target))) 2 (.int .u64 r.rule)) 3 (.slice A9 n9 c9)) 4 (.int .u64 r.out)) 5 (.int .u64 r.time)) 6 (.string (tx r.tag)))
  have htn:=((((((((Turn.refl (fun k =>k=w.heap.size) w6).setCell w.heap.size 0 (.int .i64 r.kind) rfl).setCell w.heap.size 1 (.string (tx r.target)) rfl).setCell w.heap.size 2 (.int .u64 r.rule) rfl).setCell w.heap.size 3 (.slice A9 n9 c9) rfl).setCell w.heap.size 4 (.int .u64 r.out) rfl).setCell w.heap.size 5 (.int .u64 r.time) rfl).setCell w.heap.size 6 (.string (tx r.tag)) rfl)
  refine bodyPost_ret (zAo rfl _ _ _ _ _ _ _ rfl hfin Tryz.underlying45 rfl (by kernel_rfl)) rfl ?_
  have hlt:=fun g hg =>zAV HOWN5.out g hg
  have hset:=zAT HOWN5.out (fun g hg =>(htn.2.2.2.2 g (Nat.lt_of_lt_of_le (hlt g hg) HTU6.out.2.2.2.1) (HOWN9.out g hg).2.1).trans (HTU6.out.2.2.2.2 g (hlt g hg) (HOWN9.out g hg).2.2))
  have hS9:∀ k,S9 k→S k∨w.heap.size+1≤k:=fun k hk =>by
    rcases (HS9.out k hk).2 with h1 | h1
    · rw [HT0.out] at h1;exact .inl h1.1
    · rw [HZ.out] at h1;exact .inr h1
  have h45:w.heap.size<w5.heap.size:=Nat.lt_of_lt_of_le (Nat.lt_of_lt_of_le HLT5.out HTW.out.2.2.2.1) HTU5.out.2.2.2.1
  have hn6:¬ S6 w.heap.size:=fun h =>by
    rcases (HS6.out _ h).2 with h1 | h1
    · exact HNR.out h1
    · omega
  have hnum:((a+(payL ver tl r l).length:Nat):Int)=(a:Int)+(q:Int)+1:=by rw [HPLN.out];omega
  refine ⟨A9,n9,c9,S6,by rw [hnum];rfl,⟨zAY hset (by rw [HZ.out];omega),HD9.out.2⟩,fun x hx h =>?_,⟨N+q+18,by omega,HT6.out.turn htn (fun k hk _ h =>hn6 (h▸hk))⟩,fun k hk =>⟨Nat.lt_of_lt_of_le (HS6.out k hk).1 htn.2.2.2.1,?_⟩,?_⟩
  · subst hx
    have h1:=HOWN9.out x.block rfl
    rcases (HS6.out _ h).2 with h2 | h2
    · exact h1.2.2 h2
    · have h3:=HTW.out.2.2.2.1
      have h4:=HTU5.out.2.2.2.1
      have h5:=h1.1
      omega
  · rcases (HS6.out k hk).2 with h1 | h1
    · rcases hS9 k h1 with h2 | h2
      · exact .inl h2
      · exact .inr (by omega)
    · exact .inr (by omega)
  · refine (((((Turn.of_below HB0.out).trans HTU9.out (fun k _ h =>?_)).trans HTW.out (fun k hk h =>?_)).trans HTU5.out (fun k hk h =>?_)).trans HTU6.out (fun k hk h =>?_)).trans htn (fun k hk h =>?_)
    · rw [HT0.out] at h;exact h.1
    · omega
    · rcases hS9 k h with h2 | h2
      · exact h2
      · omega
    · rcases hS9 k h with h2 | h2
      · exact h2
      · omega
    · omega
def zRec:Obj:=.cells #[.int .i64 0,.string ⟨#[]⟩,.int .u64 0,.slice none 0 0,.int .u64 0,.int .u64 0,.string ⟨#[]⟩] 45
def zCo (ver:Int) (bt n c:Nat) (A:Option Addr) (w:World):Prop :=
 Calls Tryz.prog 44 #[.int .i64 ver,.pointer (some ⟨bt,0,none⟩),.slice A n c,.int .i64 (n:Int)] w fun e w' =>e=.returned (.tuple #[.agg #[.int .i64 0,.string ⟨#[]⟩,.int .u64 0,.slice none 0 0,.int .u64 0,.int .u64 0,.string ⟨#[]⟩],.int .i64 0,.int .i64 6])∧Below w.heap.size w w'
theorem zLs (ver:Int) (hv:1≤ver∧ver≤3) (bt:Nat)  (w:World) (HAH:Hid (Calls Tryz.prog 60 #[.slice none 0 0] (w.alloc zRec) fun e w' =>e=.returned (.int .i64 ((zAh []:Nat):Int))∧w.alloc zRec=w')):zCo ver bt 0 0 none w:=by
 have h0:=zAG w (.cells #[.int .i64 0,.string ⟨#[]⟩,.int .u64 0,.slice none 0 0,.int .u64 0,.int .u64 0,.string ⟨#[]⟩] 45)
 have HA0:=yh h0
 have HB0:=yh ((Below.refl w.heap.size w).alloc (Nat.le_refl _) (.cells #[.int .i64 0,.string ⟨#[]⟩,.int .u64 0,.slice none 0 0,.int .u64 0,.int .u64 0,.string ⟨#[]⟩] 45))
 have q0:=zAA (i:=0) h0 rfl
 have y0:=zAC (i:=0) h0
 have q1:=zAA (i:=1) h0 rfl
 have y1:=zAC (i:=1) h0
 have q2:=zAA (i:=2) h0 rfl
 have y2:=zAC (i:=2) h0
 have q3:=zAA (i:=3) h0 rfl
 have y3:=zAC (i:=3) h0
 have q4:=zAA (i:=4) h0 rfl
 have y4:=zAC (i:=4) h0
 have q5:=zAA (i:=5) h0 rfl
 have y5:=zAC (i:=5) h0
 have q6:=zAA (i:=6) h0 rfl
 have y6:=zAC (i:=6) h0
 clear h0
 have d1:decide (ver<1)=false:=decide_eq_false (by omega)
 have d2:decide (ver > 3)=false:=decide_eq_false (by omega)
 have hv1:=hv.1
 have hv3:=hv.2
 clear hv
 unfold zRec at HAH
 unfold zCo
 simp only [zAh] at HAH
 go_enter Tryz.func44,Tryz.ntmps44
 go_wp2_with (go_at_call 60;refine HAH.out.mono ?_;rintro e w3 ⟨rfl,rfl⟩)
 refine bodyPost_ret (zAo rfl _ _ _ _ _ _ _ rfl HA0.out Tryz.underlying45 rfl (by kernel_rfl)) rfl ?_
 exact ⟨rfl,HB0.out⟩
theorem zKW (ver:Int) (hv:1≤ver∧ver≤3) (bt:Nat) (n:Nat) (hn:n≤100000) (ad:Addr) (w:World) (HAH:Hid (Calls Tryz.prog 60 #[.slice (some ad) 0 0] (w.alloc zRec) fun e w' =>e=.returned (.int .i64 ((zAh []:Nat):Int))∧w.alloc zRec=w')):zCo ver bt n n (some ad) w:=by
 have h0:=zAG w (.cells #[.int .i64 0,.string ⟨#[]⟩,.int .u64 0,.slice none 0 0,.int .u64 0,.int .u64 0,.string ⟨#[]⟩] 45)
 have HA0:=yh h0
 have HB0:=yh ((Below.refl w.heap.size w).alloc (Nat.le_refl _) (.cells #[.int .i64 0,.string ⟨#[]⟩,.int .u64 0,.slice none 0 0,.int .u64 0,.int .u64 0,.string ⟨#[]⟩] 45))
 have q0:=zAA (i:=0) h0 rfl
 have y0:=zAC (i:=0) h0
 have q1:=zAA (i:=1) h0 rfl
 have y1:=zAC (i:=1) h0
 have q2:=zAA (i:=2) h0 rfl
 have y2:=zAC (i:=2) h0
 have q3:=zAA (i:=3) h0 rfl
 have y3:=zAC (i:=3) h0
 have q4:=zAA (i:=4) h0 rfl
 have y4:=zAC (i:=4) h0
 have q5:=zAA (i:=5) h0 rfl
 have y5:=zAC (i:=5) h0
 have q6:=zAA (i:=6) h0 rfl
 have y6:=zAC (i:=6) h0
 clear h0
 have d1:decide (ver<1)=false:=decide_eq_false (by omega)
 have d2:decide (ver > 3)=false:=decide_eq_false (by omega)
 have hv1:=hv.1
 have hv3:=hv.2
 clear hv
 unfold zRec at HAH
 unfold zCo
 simp only [zAh] at HAH
 go_enter Tryz.func44,Tryz.ntmps44
 go_wp2_with (go_at_call 60;refine HAH.out.mono ?_;rintro e w3 ⟨rfl,rfl⟩)
 refine bodyPost_ret (zAo rfl _ _ _ _ _ _ _ rfl HA0.out Tryz.underlying45 rfl (by kernel_rfl)) rfl ?_
 exact ⟨rfl,HB0.out⟩
theorem zKl (ver:Int) (hv:1≤ver∧ver≤3) (bt:Nat) (n c:Nat) (hc:n<c) (hn:n≤100000) (ad:Addr) (w:World) (HAH:Hid (Calls Tryz.prog 60 #[.slice (some (ad.add n)) 0 (c - n)] (w.alloc zRec) fun e w' =>e=.returned (.int .i64 ((zAh []:Nat):Int))∧w.alloc zRec=w')):zCo ver bt n c (some ad) w:=by
 have h0:=zAG w (.cells #[.int .i64 0,.string ⟨#[]⟩,.int .u64 0,.slice none 0 0,.int .u64 0,.int .u64 0,.string ⟨#[]⟩] 45)
 have HA0:=yh h0
 have HB0:=yh ((Below.refl w.heap.size w).alloc (Nat.le_refl _) (.cells #[.int .i64 0,.string ⟨#[]⟩,.int .u64 0,.slice none 0 0,.int .u64 0,.int .u64 0,.string ⟨#[]⟩] 45))
 have q0:=zAA (i:=0) h0 rfl
 have y0:=zAC (i:=0) h0
 have q1:=zAA (i:=1) h0 rfl
 have y1:=zAC (i:=1) h0
 have q2:=zAA (i:=2) h0 rfl
 have y2:=zAC (i:=2) h0
 have q3:=zAA (i:=3) h0 rfl
 have y3:=zAC (i:=3) h0
 have q4:=zAA (i:=4) h0 rfl
 have y4:=zAC (i:=4) h0
 have q5:=zAA (i:=5) h0 rfl
 have y5:=zAC (i:=5) h0
 have q6:=zAA (i:=6) h0 rfl
 have y6:=zAC (i:=6) h0
 clear h0
 have d1:decide (ver<1)=false:=decide_eq_false (by omega)
 have d2:decide (ver > 3)=false:=decide_eq_false (by omega)
 have hv1:=hv.1
 have hv3:=hv.2
 clear hv
 unfold zRec at HAH
 unfold zCo
 simp only [zAh] at HAH
 go_enter Tryz.func44,Tryz.ntmps44
 go_wp2_with (go_at_call 60;refine HAH.out.mono ?_;rintro e w3 ⟨rfl,rfl⟩)
 refine bodyPost_ret (zAo rfl _ _ _ _ _ _ _ rfl HA0.out Tryz.underlying45 rfl (by kernel_rfl)) rfl ?_
 exact ⟨rfl,HB0.out⟩
theorem zNL (ver:Int) (hv:1≤ver∧ver≤3) (bt n c B:Nat) (ps:List (List UInt8)) (A:Option Addr) (hA:A=none→n=0∧c=0) (hn:n≤100000) (w:World) (hB:B≤w.heap.size) (hr:PlsC w B A n c ps):zCo ver bt n c A w:=by
 have hd:=hr.drop (k:=n) (Nat.le_refl _)
 rw [List.drop_of_length_le (by rw [hr.2.1];exact Nat.le_refl _),Nat.sub_self] at hd
 have hah:=fun W hb =>zDW B 0 (c - n) [] _ (by omega) W (hd.below hb)
 have hcn:=hr.1
 have hb0:=((Below.refl w.heap.size w).alloc (Nat.le_refl _) zRec).mono hB
 cases A with
 | none =>
  obtain ⟨rfl,rfl⟩:=hA rfl
  have h1:=hah _ hb0
  simp only [Nat.sub_self] at h1
  refine zLs ver hv bt w (yh ?_)
  simpa using h1
 | some ad =>
  by_cases hc:c=n
  ·subst hc
   have h1:=hah _ hb0
   rw [if_pos rfl,Nat.sub_self] at h1
   exact zKW ver hv bt c hn ad w (yh h1)
  ·have h1:=hah _ hb0
   rw [if_neg hc] at h1
   exact zKl ver hv bt n c (by omega) hn ad w (yh h1)
open Classical in
noncomputable def zDc (ver:Int) (xs:List Rw):List Rw:=xs.filter (fun x =>decide (MayP ver x.r x.l))
structure FS (w0 w:World) (S U:Nat→Prop) (bt bu N:Nat) (tl:List (List UInt8)) (va:Value) (ps:List (List UInt8)) (vs:List Value) (vb:Value) (gs:List Rw):Prop where
 below:Below w0.heap.size w0 w
 ht:Tab w S bt N tl
 hu:Tab w U bu 0 []
 lt:∀ k,S k∨U k→k<w.heap.size∧w0.heap.size≤k
 dis:∀ k,S k→¬ U k
 rows:zBX w w0.heap.size (fun k =>S k∨U k) va ps vs
 good:w.ownsRow w0.heap.size 45 7 vb gs.length (rws gs)
 gok:∀ g,vb.ownBlock=some g→¬ (S g∨U g)
section
variable {w0 w w':World} {S S' U:Nat→Prop} {bt bu N N':Nat} {tl tl':List (List UInt8)} {va:Value} {ps:List (List UInt8)} {vs:List Value} {vb:Value} {gs:List Rw}
theorem FS.new (h:FS w0 w S U bt bu N tl va ps vs vb gs) (hb:Below w.heap.size w w'):FS w0 w' S U bt bu N tl va ps vs vb gs where
 below:=h.below.trans (hb.mono h.below.size)
 ht:=h.ht.keep fun k _ hk =>hb.block k hk
 hu:=h.hu.keep fun k _ hk =>hb.block k hk
 lt:=fun k hk =>⟨Nat.lt_of_lt_of_le (h.lt k hk).1 hb.size,(h.lt k hk).2⟩
 dis:=h.dis
 rows:=h.rows.below hb
 good:=zAF h.good hb
 gok:=h.gok
theorem FS.put (h:FS w0 w S U bt bu N tl va ps vs vb gs) (ht':Tab w' S' bt N' tl') (hs':∀ k,S' k→k<w'.heap.size∧(S k∨w.heap.size≤k)) (htu:Turn S w w'):FS w0 w' S' U bt bu N' tl' va ps vs vb gs where
 below:=h.below.trans (htu.below (fun k hk =>(h.lt k (.inl hk)).2) h.below.size)
 ht:=ht'
 hu:=h.hu.turn htu fun k h1 _ h2 =>h.dis k h2 h1
 lt:=fun k hk =>by
  rcases hk with hk | hk
  ·refine ⟨(hs' k hk).1,?_⟩
   rcases (hs' k hk).2 with h1 | h1
   ·exact (h.lt k (.inl h1)).2
   ·have:=h.below.size;omega
  ·exact ⟨Nat.lt_of_lt_of_le (h.lt k (.inr hk)).1 htu.2.2.2.1,(h.lt k (.inr hk)).2⟩
 dis:=fun k h1 h2 =>by
  rcases (hs' k h1).2 with h3 | h3
  ·exact h.dis k h3 h2
  ·have:=(h.lt k (.inr h2)).1;omega
 rows:=by
  refine (h.rows.set (S2:=fun k =>S k∨S' k∨U k) (fun k hk h1 =>?_)).turn htu (fun k _ h1 =>.inl h1) |>.set (fun k _ h1 =>.inr h1)
  rcases h1 with h1 | h1 | h1
  ·exact .inl h1
  ·rcases (hs' k h1).2 with h2 | h2
   ·exact .inl h2
   ·omega
  ·exact .inr h1
 good:=zAT h.good fun g hg =>htu.2.2.2.2 g (zAV h.good g hg) fun h1 =>h.gok g hg (.inl h1)
 gok:=fun g hg h1 =>by
  rcases h1 with h1 | h1
  ·rcases (hs' g h1).2 with h2 | h2
   ·exact h.gok g hg (.inl h2)
   ·have:=zAV h.good g hg;omega
  ·exact h.gok g hg (.inr h1)
theorem zKh {base b:Nat} {vq v':Value} {qs:List (List UInt8)} {us:List Value} (hb:base≤b) (h:zBX w base S va ps vs) (hq:zBX w b S vq qs us)
  (ho:w'.ownsRow base 25 1 v' (ps.length+qs.length) (vs++us)) (hg:w.grownBy w' va.ownBlock) (hv:v'.ownBlock=va.ownBlock∨v'.ownBlock=some w.heap.size) (hn:¬ S w.heap.size):zBX w' base S v' (ps++qs) (vs++us):=by
 obtain ⟨h1,h2,h3,h4⟩:=h
 obtain ⟨k1,k2,k3,k4⟩:=hq
 refine ⟨by rw [List.length_append];exact ho,fun g hg' =>?_,by simp [h3,k3],fun i p hp =>?_⟩
 ·rcases hv with e | e
  ·exact h2 g (e▸hg')
  ·rw [e] at hg'
   obtain rfl:w.heap.size=g:=by simpa using hg'
   exact hn
 ·rcases Nat.lt_or_ge i ps.length with hlt | hge
  ·rw [List.getElem?_append_left hlt] at hp
   obtain ⟨u,h5,h6,h7⟩:=h4 i p hp
   exact ⟨u,by rw [List.getElem?_append_left (by rw [h3];exact hlt)];exact h5,zAp h6 (zCp h1 h6 (by decide)) hg,h7⟩
  ·rw [List.getElem?_append_right hge] at hp
   obtain ⟨u,h5,h6,h7⟩:=k4 _ p hp
   exact ⟨u,by rw [List.getElem?_append_right (by rw [h3];exact hge),h3];exact h5,zAY (zAp h6 (zCp h1 h6 (by decide)) hg) hb,h7⟩
theorem zHX {b M:Nat} {l:List (List UInt8)} {T:Nat→Prop} {row:Option Nat} (h:Tab w T b M l) (hg:w.grownBy w' row) (hn:∀ g,row=some g→¬ T g):Tab w' T b M l :=
 h.keep fun k hk hlt =>hg.block k hlt (fun e =>hn k e.symm hk)
theorem FS.all {b:Nat} {vq v':Value} {qs:List (List UInt8)} {us:List Value} (h:FS w0 w S U bt bu N tl va ps vs vb gs) (hb:w0.heap.size≤b) (hq:zBX w b (fun k =>S k∨U k) vq qs us)
  (ho:w'.ownsRow w0.heap.size 25 1 v' (ps.length+qs.length) (vs++us)) (hg:w.grownBy w' va.ownBlock) (hv:v'.ownBlock=va.ownBlock∨v'.ownBlock=some w.heap.size):FS w0 w' S U bt bu N tl v' (ps++qs) (vs++us) vb gs where
 below:=h.below.grown hg h.below.size (zAI h.rows.1)
 ht:=zHX h.ht hg fun g e h1 =>h.rows.2.1 g e (.inl h1)
 hu:=zHX h.hu hg fun g e h1 =>h.rows.2.1 g e (.inr h1)
 lt:=fun k hk =>⟨Nat.lt_of_lt_of_le (h.lt k hk).1 hg.size,(h.lt k hk).2⟩
 dis:=h.dis
 rows:=zKh hb h.rows hq ho hg hv (fun h1 =>by have:=(h.lt _ h1).1;omega)
 good:=zAp h.good (zCp h.rows.1 h.good (by decide)) hg
 gok:=h.gok
end
theorem FS.next {w0 w:World} {S U:Nat→Prop} {bt bu:Nat} {ver:Int} {xs:List Rw} {x:Rw} {i:Nat} {va:Value} {vs:List Value} {vb:Value} (hg:zDc ver (xs.take (i+1))=zDc ver (xs.take i)++[x])
  (h:FS w0 w S U bt bu (18 * i+18) (tabT ver (zAb ver [] (zDc ver (xs.take i))) x.r x.l) va (zAL ver [] (zDc ver (xs.take i))++payL ver (zAb ver [] (zDc ver (xs.take i))) x.r x.l) vs vb (zDc ver (xs.take i)++[x])) :
  FS w0 w S U bt bu (18 * (i+1)) (zAb ver [] (zDc ver (xs.take (i+1)))) va (zAL ver [] (zDc ver (xs.take (i+1)))) vs vb (zDc ver (xs.take (i+1))):=by
 rw [hg,zDS,zCj]
 exact h
structure SS (w0 w:World) (S U:Nat→Prop) (bt bu N M:Nat) (tl ul:List (List UInt8)) (A:Option Addr) (na ca:Nat) (ps:List (List UInt8)) (vb:Value) (gs:List Rw) (B:Nat):Prop where
 below:Below w0.heap.size w0 w
 ht:Tab w S bt N tl
 hu:Tab w U bu M ul
 lt:∀ k,S k∨U k→k<w.heap.size∧w0.heap.size≤k
 dis:∀ k,S k→¬ U k
 all:PlsT w B U A na ca ps
 hB:B≤w.heap.size
 good:w.ownsRow w0.heap.size 45 7 vb gs.length (rws gs)
 gok:∀ g,vb.ownBlock=some g→¬ U g
section
variable {w0 w w':World} {S U U':Nat→Prop} {bt bu N M M':Nat} {tl ul ul':List (List UInt8)} {A:Option Addr} {na ca B:Nat} {ps:List (List UInt8)} {vb:Value} {gs:List Rw}
theorem SS.new (h:SS w0 w S U bt bu N M tl ul A na ca ps vb gs B) (hb:Below w.heap.size w w'):SS w0 w' S U bt bu N M tl ul A na ca ps vb gs B where
 below:=h.below.trans (hb.mono h.below.size)
 ht:=h.ht.keep fun k _ hk =>hb.block k hk
 hu:=h.hu.keep fun k _ hk =>hb.block k hk
 lt:=fun k hk =>⟨Nat.lt_of_lt_of_le (h.lt k hk).1 hb.size,(h.lt k hk).2⟩
 dis:=h.dis
 all:=h.all.turn (Turn.of_below hb) h.hB
 hB:=Nat.le_trans h.hB hb.size
 good:=zAF h.good hb
 gok:=h.gok
end
theorem zFx {w:World} {base n c size:Nat} {e:TypeId} {A:Option Addr} {xs:List Value} (h:w.ownsRow base e size (.slice A n c) n xs):n≤c:=by
 rcases h.2 with ⟨h5,h6⟩ | ⟨g,cap,cur,h5,_,_,h6,_⟩
 ·injection h5 with _ h7 h8;omega
 ·injection h5 with _ h7 h8;omega
theorem PlsT.of_rows {w:World} {base:Nat} {S U:Nat→Prop} {A:Option Addr} {c:Nat} {ps:List (List UInt8)} {vs:List Value} (h:zBX w base (fun k =>S k∨U k) (.slice A ps.length c) ps vs):PlsT w w.heap.size U A ps.length c ps:=by
 obtain ⟨h1,h2,h3,h4⟩:=h
 refine ⟨zFx h1,rfl,vs,zAE.of_own h1,fun ad e _ h5 =>?_,fun i p hp =>?_⟩
 ·subst e
  exact h2 ad.block rfl (.inr h5)
 ·obtain ⟨v,h5,h6,h7⟩:=h4 i p hp
  obtain ⟨A',c',rfl,_⟩:=zAH h6
  refine ⟨A',c',h5,zFx h6,zAE.of_own h6,fun ad e _ h8 =>?_⟩
  subst e
  exact h7 ad.block rfl (.inr h8)
end Go.Proofs.YtoclafdidjpndaaGreatDoor
